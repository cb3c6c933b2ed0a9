/-
  Texts of earlier layers, as one.
-/
import Derived.Test.YtbjooblaamjppaaGreatRecItem
import Derived.Test.YtbjooblaamjppaaGreatRecRead
import Derived.Test.YtbjooblaamjppaaGreatRCodS
import Derived.Test.YtbjooblaamjppaaGreatRStore
import Derived.Deep.Cut
/- rec.counted: what was read counts if it is put as that item. -/
namespace Go.Proofs.YtbjooblaamjppaaGreat.Rk
open Go.RowKit Mem Ids Att Cod

theorem four_kinds (w : World) (t u v x : TypeId) (a b c d : Array Value) (W : World) (hW : (((w.alloc (.cells a t)).alloc (.cells b u)).alloc (.cells c v)).alloc (.cells d x) = W) :
    Blk W w.heap.size t a ∧ Blk W (w.heap.size + 1) u b ∧ Blk W (w.heap.size + 2) v c ∧ Blk W (w.heap.size + 3) x d ∧ Below w.heap.size w W ∧ W.heap.size = w.heap.size + 4 := by
  obtain ⟨h1, h2, h3, h4, h5⟩ := three_kinds w t u v a b c _ rfl
  subst hW
  have h := Blk.new (((w.alloc (.cells a t)).alloc (.cells b u)).alloc (.cells c v)) x d
  rw [h5] at h
  exact ⟨h1.alloc _, h2.alloc _, h3.alloc _, h, bel_alloc h4 _, by rw [size_alloc, h5]⟩
/-- The ending: one of two values, and which. -/
def CountsAt (ok : Bool) (va vz : Value) (w : World) (e : Ending) (w' : World) : Prop :=
  e = .returned (.tuple #[(match ok with | true => va | false => vz), .bool ok]) ∧ Below w.heap.size w w'
set_option maxRecDepth 100000 in
set_option maxHeartbeats 4000000 in
theorem counted_any (aR aN aS aB aC aT aU aK aL aQ : Int) (aY aV : ByteArray) (aZ : Int) (aE aG : Int) (aA : Option Addr) (an ac : Nat) (y : It) (yA : Option Addr) (yc : Nat) (x : It) (xA : Option Addr) (xc : Nat) (S : Nat → Prop) (w : World) (hy : Lies w S y yA yc) (hx : Lies w S x xA xc) (hS : ∀ b, S b → b < w.heap.size) (hwt : wt y ≤ 100000) :
    Calls Tryz.prog 29 #[.agg #[.int .i64 aR, .int .i64 aN, .int .i64 aS, .int .i64 aB, .int .i64 aC, .int .i64 aT, .int .i64 aU, .int .i64 aK, .int .i64 aL, .int .i64 aQ, .string aY, .string aV, .int .i64 aZ, .slice aA an ac, .int .i64 aE, .int .i64 aG], .agg #[.int .i64 y.kind, .int .u64 (y.num : Int), .string y.str, .slice yA y.kids.length yc], .agg #[.int .i64 x.kind, .int .u64 (x.num : Int), .string x.str, .slice xA x.kids.length xc]] w (CountsAt (x.kind == 2 && same y x) (.agg #[.int .i64 aR, .int .i64 aN, .int .i64 aS, .int .i64 aB, .int .i64 aC, .int .i64 aT, .int .i64 aU, .int .i64 aK, .int .i64 aL, .int .i64 aQ, .string aY, .string aV, .int .i64 aZ, .slice aA an ac, .int .i64 aE, .int .i64 aG]) (.agg #[.int .i64 0, .int .i64 0, .int .i64 0, .int .i64 0, .int .i64 0, .int .i64 0, .int .i64 0, .int .i64 0, .int .i64 0, .int .i64 0, .string ⟨#[]⟩, .string ⟨#[]⟩, .int .i64 0, .slice none 0 0, .int .i64 0, .int .i64 0]) w) := by
  obtain ⟨W, hW⟩ : ∃ W, (((w.alloc (.cells #[.int .i64 aR, .int .i64 aN, .int .i64 aS, .int .i64 aB, .int .i64 aC, .int .i64 aT, .int .i64 aU, .int .i64 aK, .int .i64 aL, .int .i64 aQ, .string aY, .string aV, .int .i64 aZ, .slice aA an ac, .int .i64 aE, .int .i64 aG] 32)).alloc (.cells #[.int .i64 y.kind, .int .u64 (y.num : Int), .string y.str, .slice yA y.kids.length yc] 36)).alloc (.cells #[.int .i64 x.kind, .int .u64 (x.num : Int), .string x.str, .slice xA x.kids.length xc] 36)).alloc (.cells #[.int .i64 0, .int .i64 0, .int .i64 0, .int .i64 0, .int .i64 0, .int .i64 0, .int .i64 0, .int .i64 0, .int .i64 0, .int .i64 0, .string ⟨#[]⟩, .string ⟨#[]⟩, .int .i64 0, .slice none 0 0, .int .i64 0, .int .i64 0] 32) = W := ⟨_, rfl⟩
  obtain ⟨k1, k2, k3, k4, kb, hsW⟩ := four_kinds w _ _ _ _ _ _ _ _ W hW
  have hsm := same_item y x yA xA yc xc S W (hy.below kb hS) (hx.below kb hS) (fun b hb => by have := hS b hb; omega) hwt
  obtain ⟨x0, x1, x2, x3⟩ := blk4 k3
  obtain ⟨y0, y1, y2, y3⟩ := blk4 k2
  have HK := Lib.hid k1
  have HX := Lib.hid k4
  have HB := Lib.hid kb
  have HW := Lib.hid hW
  have HSW := Lib.hid hsW
  generalize same y x = r at hsm ⊢
  have HSM := Lib.hid hsm
  clear k1 k2 k3 k4 kb hW hsW hsm hy hx hS
  go_enter Tryz.func29, Tryz.ntmps29
  by_cases hk : x.kind = 2
  case neg =>
    have b1 : (x.kind != 2) = true := bne_iff_ne.2 hk
    have b2 : (x.kind == 2) = false := beq_false_of_ne hk
    rw [b2]
    have HXX := Lib.hid HX.out
    have HDD := Lib.hid HB.out
    clear hk b2
    go_upto_region 2 with fail
    rw [HW.out]
    simp only [Bool.false_and]
    go_wp2_with (first | fail | (refine wpList_store_blk rfl 32 _ _ rfl (w.heap.size + 3) 32 #[.int .i64 0, .int .i64 0, .int .i64 0, .int .i64 0, .int .i64 0, .int .i64 0, .int .i64 0, .int .i64 0, .int .i64 0, .int .i64 0, .string ⟨#[]⟩, .string ⟨#[]⟩, .int .i64 0, .slice none 0 0, .int .i64 0, .int .i64 0] #[.int .i64 0, .int .i64 0, .int .i64 0, .int .i64 0, .int .i64 0, .int .i64 0, .int .i64 0, .int .i64 0, .int .i64 0, .int .i64 0, .string ⟨#[]⟩, .string ⟨#[]⟩, .int .i64 0, .slice none 0 0, .int .i64 0, .int .i64 0] rfl rfl HXX.out (by kernel_rfl) rfl (by kernel_rfl) ?_; intro w9 hblk2 hgr))
    refine bodyPost_ret (v := .tuple #[.agg #[.int .i64 0, .int .i64 0, .int .i64 0, .int .i64 0, .int .i64 0, .int .i64 0, .int .i64 0, .int .i64 0, .int .i64 0, .int .i64 0, .string ⟨#[]⟩, .string ⟨#[]⟩, .int .i64 0, .slice none 0 0, .int .i64 0, .int .i64 0], .bool false]) (results_blk_tmp Tryz.results29 _ _ (w.heap.size + 3) 32 _ _ _ rfl rfl hblk2 Tryz.underlying32 rfl (by kernel_rfl)) rfl ?_
    exact ⟨rfl, HDD.out.trans (gr_below hgr (by have := HDD.out.size; omega) fun b hb => by injection hb with hb; omega)⟩
  have b1 : (x.kind != 2) = false := by rw [hk]; rfl
  have b2 : (x.kind == 2) = true := by rw [hk]; rfl
  rw [b2, Bool.true_and]
  clear b2 hk
  go_wp2_with fail
  rw [HW.out]
  refine HSM.out.mono ?_
  rintro e w2 ⟨rfl, hb2⟩
  have HXX := Lib.hid (HX.out.bel hb2)
  have HDD := Lib.hid (bel_trans HB.out hb2)
  have HKK := Lib.hid (HK.out.bel hb2)
  clear hb2 HSM x0 x1 x2 x3 y0 y1 y2 y3
  cases r with
  | false =>
    go_wp2_with (first | fail | (refine wpList_store_blk rfl 32 _ _ rfl (w.heap.size + 3) 32 #[.int .i64 0, .int .i64 0, .int .i64 0, .int .i64 0, .int .i64 0, .int .i64 0, .int .i64 0, .int .i64 0, .int .i64 0, .int .i64 0, .string ⟨#[]⟩, .string ⟨#[]⟩, .int .i64 0, .slice none 0 0, .int .i64 0, .int .i64 0] #[.int .i64 0, .int .i64 0, .int .i64 0, .int .i64 0, .int .i64 0, .int .i64 0, .int .i64 0, .int .i64 0, .int .i64 0, .int .i64 0, .string ⟨#[]⟩, .string ⟨#[]⟩, .int .i64 0, .slice none 0 0, .int .i64 0, .int .i64 0] rfl rfl HXX.out (by kernel_rfl) rfl (by kernel_rfl) ?_; intro w9 hblk2 hgr))
    refine bodyPost_ret (v := .tuple #[.agg #[.int .i64 0, .int .i64 0, .int .i64 0, .int .i64 0, .int .i64 0, .int .i64 0, .int .i64 0, .int .i64 0, .int .i64 0, .int .i64 0, .string ⟨#[]⟩, .string ⟨#[]⟩, .int .i64 0, .slice none 0 0, .int .i64 0, .int .i64 0], .bool false]) (results_blk_tmp Tryz.results29 _ _ (w.heap.size + 3) 32 _ _ _ rfl rfl hblk2 Tryz.underlying32 rfl (by kernel_rfl)) rfl ?_
    exact ⟨rfl, HDD.out.trans (gr_below hgr (by have := HDD.out.size; omega) fun b hb => by injection hb with hb; omega)⟩
  | true =>
    go_wp2_with (first | (refine wpList_load_blk rfl 32 _ rfl (w.heap.size) 32 #[.int .i64 aR, .int .i64 aN, .int .i64 aS, .int .i64 aB, .int .i64 aC, .int .i64 aT, .int .i64 aU, .int .i64 aK, .int .i64 aL, .int .i64 aQ, .string aY, .string aV, .int .i64 aZ, .slice aA an ac, .int .i64 aE, .int .i64 aG] _ rfl HKK.out Tryz.underlying32 rfl (by kernel_rfl) ?_) | (refine wpList_store_blk rfl 32 _ _ rfl (w.heap.size + 3) 32 #[.int .i64 0, .int .i64 0, .int .i64 0, .int .i64 0, .int .i64 0, .int .i64 0, .int .i64 0, .int .i64 0, .int .i64 0, .int .i64 0, .string ⟨#[]⟩, .string ⟨#[]⟩, .int .i64 0, .slice none 0 0, .int .i64 0, .int .i64 0] #[.int .i64 aR, .int .i64 aN, .int .i64 aS, .int .i64 aB, .int .i64 aC, .int .i64 aT, .int .i64 aU, .int .i64 aK, .int .i64 aL, .int .i64 aQ, .string aY, .string aV, .int .i64 aZ, .slice aA an ac, .int .i64 aE, .int .i64 aG] rfl rfl HXX.out (by kernel_rfl) rfl (by kernel_rfl) ?_; intro w9 hblk2 hgr))
    refine bodyPost_ret (v := .tuple #[.agg #[.int .i64 aR, .int .i64 aN, .int .i64 aS, .int .i64 aB, .int .i64 aC, .int .i64 aT, .int .i64 aU, .int .i64 aK, .int .i64 aL, .int .i64 aQ, .string aY, .string aV, .int .i64 aZ, .slice aA an ac, .int .i64 aE, .int .i64 aG], .bool true]) (results_blk_tmp Tryz.results29 _ _ (w.heap.size + 3) 32 _ _ _ rfl rfl hblk2 Tryz.underlying32 rfl (by kernel_rfl)) rfl ?_
    exact ⟨rfl, HDD.out.trans (gr_below hgr (by have := HDD.out.size; omega) fun b hb => by injection hb with hb; omega)⟩
end Go.Proofs.YtbjooblaamjppaaGreat.Rk
