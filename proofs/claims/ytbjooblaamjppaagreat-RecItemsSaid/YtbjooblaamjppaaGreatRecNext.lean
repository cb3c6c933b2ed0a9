/-
  Texts of earlier layers, as one.
-/
import Derived.Test.YtbjooblaamjppaaGreatRecItemPlain
import Derived.Test.YtbjooblaamjppaaGreatRecSmall
import Derived.Test.YtbjooblaamjppaaGreatRBalT
import Derived.Deep.RegionHeld3
import Derived.BigRegion
/- rec's parts: the next one of them, counted; a part that is a number. -/
namespace Go.Proofs.YtbjooblaamjppaaGreat.Rk
open Go.RowKit Mem Ids Att Cod

/-- How many of n parts are taken behind one more. -/
def up1 (k n : Nat) : Nat := if k = n then k else k + 1
/-- The ending of next: the item, and the count one higher if there was one; all other blocks stay. -/
def NextsAt (S : Nat → Prop) (w : World) (p : Nat) (A : Option Addr) (n c k : Nat) (y : It) (e : Ending) (w' : World) : Prop :=
  ∃ V cv, e = .returned (.agg #[.int .i64 y.kind, .int .u64 (y.num : Int), .string y.str, .slice V y.kids.length cv]) ∧ Lies w' S y V cv ∧ w.grownBy w' (some p) ∧ Blk w' p 75 #[.slice A n c, .int .i64 (up1 k n : Int)]

theorem row_at {w : World} {S : Nat → Prop} {A : Option Addr} {n c k : Nat} {l : List It} (h : Cod.Row w S A n c l) (hk : k < n) :
    ∃ g o A' c', A = some ⟨g, o, none⟩ ∧ S g ∧ g < w.heap.size ∧ w.cell? ⟨g, o + k * 4, none⟩ = some (.int .i64 (l.getD k Cmd.zeroIt).kind) ∧ w.cell? ⟨g, o + k * 4 + 1, none⟩ = some (.int .u64 ((l.getD k Cmd.zeroIt).num : Int)) ∧ w.cell? ⟨g, o + k * 4 + 2, none⟩ = some (.string (l.getD k Cmd.zeroIt).str) ∧ w.cell? ⟨g, o + k * 4 + 3, none⟩ = some (.slice A' (l.getD k Cmd.zeroIt).kids.length c') ∧ Lies w S (l.getD k Cmd.zeroIt) A' c' := by
  have hl : Lies w S (.mk 0 0 ByteArray.empty l) A c := by
    have := h.lies (k := 0) (n := 0) (s := ByteArray.empty) (by decide) (by decide) (by decide)
    exact this
  have hn : l.length = n := h.1
  obtain ⟨g, o, A', c', e, hS, hg, r0, r1, r2, r3, hly⟩ := lies_kid hl (i := k) (by show k < l.length; omega)
  have hy : (It.mk 0 0 ByteArray.empty l).kids[k]'(by show k < l.length; omega) = l.getD k Cmd.zeroIt := by
    show l[k]'(by omega) = _
    rw [List.getD_eq_getElem?_getD, List.getElem?_eq_getElem (by omega)]
    rfl
  rw [hy] at r0 r1 r2 r3 hly
  exact ⟨g, o, A', c', e, hS, hg, r0, r1, r2, r3, hly⟩

set_option maxRecDepth 100000 in
set_option maxHeartbeats 4000000 in
theorem next_any (p : Nat) (A : Option Addr) (n c k : Nat) (l : List It) (S : Nat → Prop) (w : World) (hr : Cod.Row w S A n c l) (hk : k ≤ n) (hn : n ≤ 1000000000) (hp : Blk w p 75 #[.slice A n c, .int .i64 (k : Int)]) (hSp : ¬ S p) (hS : ∀ b, S b → b < w.heap.size) :
    Calls Tryz.prog 50 #[.pointer (some ⟨p, 0, none⟩)] w (NextsAt S w p A n c k (l.getD k Cmd.zeroIt)) := by
  obtain ⟨y, hy⟩ : ∃ y, l.getD k Cmd.zeroIt = y := ⟨_, rfl⟩
  rw [hy]
  have HY := Lib.hid hy
  clear hy
  have hb := bel_alloc (Below.refl w.heap.size w) (.cells #[.int .i64 0, .int .u64 0, .string ⟨#[]⟩, .slice none 0 0] 36)
  have hx := Blk.new w 36 #[.int .i64 0, .int .u64 0, .string ⟨#[]⟩, .slice none 0 0]
  have hpl := hp.lt
  have hpa := hp.alloc (.cells #[.int .i64 0, .int .u64 0, .string ⟨#[]⟩, .slice none 0 0] 36)
  have hra := hr.below hb hS
  have hsz := size_alloc w (.cells #[.int .i64 0, .int .u64 0, .string ⟨#[]⟩, .slice none 0 0] 36)
  obtain ⟨W, hW⟩ : ∃ W, w.alloc (.cells #[.int .i64 0, .int .u64 0, .string ⟨#[]⟩, .slice none 0 0] 36) = W := ⟨_, rfl⟩
  rw [hW] at hb hx hpa hra hsz
  have HW := Lib.hid hW
  have HB := Lib.hid hb
  have HX := Lib.hid hx
  have HP := Lib.hid hpa
  have HR := Lib.hid hra
  have HSS := Lib.hid hS
  have HSP := Lib.hid hSp
  have p0 := hpa.cell 0
  have p1 := hpa.cell 1
  simp at p0 p1
  have hlt : p < W.heap.size := by omega
  clear hW hb hx hpa hra hS hSp hr hp
  go_enter Tryz.func50, Tryz.ntmps50
  go_wp2_with fail
  rw [HW.out]
  by_cases hkn : k = n
  · have b1 : ((k : Int) == (n : Int)) = true := by rw [hkn]; simp
    go_region_held3 (fun w' => w'.cell? ⟨p, 0, none⟩ = some (.slice A n c) ∧ w'.cell? ⟨p, 1, none⟩ = some (.int .i64 (k : Int))) (go_keep) (fail)
    have HBX := Lib.hid (HX.out)
    obtain ⟨c0, c1, c2, c3⟩ := blk4 HBX.out
    have z0 := HBX.out.soft 0
    have z1 := HBX.out.soft 1
    have z2 := HBX.out.soft 2
    have z3 := HBX.out.soft 3
    go_wp2_with fail
    obtain ⟨hblk2, hgr⟩ := blk4_set HBX.out (.int .i64 0) (.int .u64 0) (.string ⟨#[]⟩) (.slice none 0 0)
    have hp9 := HP.out.grown hgr (fun e => by injection e with e; omega)
    generalize (((W.setCell ⟨w.heap.size, 0, none⟩ (.int .i64 0)).setCell ⟨w.heap.size, 1, none⟩ (.int .u64 0)).setCell ⟨w.heap.size, 2, none⟩ (.string ⟨#[]⟩)).setCell ⟨w.heap.size, 3, none⟩ (.slice none 0 0) = w9 at hblk2 hgr hp9 ⊢
    obtain ⟨d0, d1, d2, d3⟩ := blk4 hblk2
    refine bodyPost_ret (v := .agg #[.int .i64 0, .int .u64 0, .string ByteArray.empty, .slice none 0 0]) (by simp [results, Tryz.results50, go_sem, d0, d1, d2, d3]; rfl) rfl ?_
    have hz : y = Cmd.zeroIt := by
      rw [← HY.out]
      have := HR.out.1
      rw [List.getD_eq_getElem?_getD, List.getElem?_eq_none (by omega)]
      rfl
    rw [hz]
    have hu : up1 k n = k := if_pos hkn
    refine ⟨none, 0, rfl, lies_leaf _ _ (by decide) (by decide) (by decide), gr_drew (gr_step (below_gr HB.out _) hgr fun b hb => by injection hb with hb; exact .inl (by omega)), ?_⟩
    rw [hu]
    exact hp9.drew
  · have b1 : ((k : Int) == (n : Int)) = false := beq_false_of_ne (by omega)
    go_region_held3 (fun w' => w'.cell? ⟨p, 0, none⟩ = some (.slice A n c) ∧ w'.cell? ⟨p, 1, none⟩ = some (.int .i64 (k : Int))) (go_keep) (fail)
    have z0 := HP.out.soft 1
    have hw1 : IntKind.i64.wrap ((k : Int) + 1) = (k : Int) + 1 := wrap64 (by omega) (by omega)
    have hw2 : IntKind.i64.wrap ((k : Int) + 1 - 1) = (k : Int) := by rw [wrap64 (by omega) (by omega)]; omega
    go_wp2_with fail
    have hp2 : Blk (W.setCell ⟨p, 1, none⟩ (.int .i64 ((k : Int) + 1))).drew p 75 #[.slice A n c, .int .i64 ((k : Int) + 1)] := by simpa using (HP.out.put 1 (.int .i64 ((k : Int) + 1))).drew
    have hg2 : W.grownBy (W.setCell ⟨p, 1, none⟩ (.int .i64 ((k : Int) + 1))).drew (some p) := gr_drew (gr_set (gr_refl W _) (.inl rfl) _)
    generalize (W.setCell ⟨p, 1, none⟩ (.int .i64 ((k : Int) + 1))).drew = W2 at hp2 hg2 ⊢
    have hx2 := HX.out.grown hg2 (fun e => by injection e with e; omega)
    have hr2 := HR.out.grown hg2 (fun b hb e => by injection e with e; exact HSP.out (e ▸ hb))
    obtain ⟨g, o, A', c', e, hSg, hgl, r0, r1, r2, r3, hly⟩ := row_at hr2 (Nat.lt_of_le_of_ne hk hkn)
    subst e
    have p0 := hp2.cell 0
    have p1 := hp2.cell 1
    simp at p0 p1
    obtain ⟨y0, y1, y2, y3⟩ := blk4 hx2
    have s0 := hx2.soft 0
    have s1 := hx2.soft 1
    have s2 := hx2.soft 2
    have s3 := hx2.soft 3
    rw [HY.out] at r0 r1 r2 r3 hly
    have HG2 := Lib.hid hg2
    have HP2 := Lib.hid hp2
    have HX2 := Lib.hid hx2
    have HLY := Lib.hid hly
    have hgw := HSS.out g hSg
    clear hg2 hp2 hx2 hr2 hly b1 z0
    go_region
    go_wp2_with fail
    obtain ⟨hblk2, hgr⟩ := blk4_set HX2.out (.int .i64 y.kind) (.int .u64 (y.num : Int)) (.string y.str) (.slice A' y.kids.length c')
    have hp9 := HP2.out.grown hgr (fun e => by injection e with e; omega)
    have hl9 := HLY.out.grown hgr (fun b hb e => by injection e with e; have := HSS.out b hb; omega)
    generalize (((W2.setCell ⟨w.heap.size, 0, none⟩ (.int .i64 y.kind)).setCell ⟨w.heap.size, 1, none⟩ (.int .u64 (y.num : Int))).setCell ⟨w.heap.size, 2, none⟩ (.string y.str)).setCell ⟨w.heap.size, 3, none⟩ (.slice A' y.kids.length c') = w9 at hblk2 hgr hp9 hl9 ⊢
    obtain ⟨d0, d1, d2, d3⟩ := blk4 hblk2
    refine bodyPost_ret (v := .agg #[.int .i64 y.kind, .int .u64 (y.num : Int), .string y.str, .slice A' y.kids.length c']) (by simp [results, Tryz.results50, go_sem, d0, d1, d2, d3]) rfl ?_
    have hu : ((up1 k n : Nat) : Int) = (k : Int) + 1 := by rw [up1, if_neg hkn]; omega
    refine ⟨A', c', rfl, hl9.keep y (fun _ h _ => h) (Nat.le_refl _) (fun _ _ _ => rfl), gr_drew (gr_step (gr_step (below_gr HB.out _) HG2.out fun b hb => .inr hb) hgr fun b hb => by injection hb with hb; exact .inl (by omega)), ?_⟩
    rw [hu]
    exact hp9.drew
end Go.Proofs.YtbjooblaamjppaaGreat.Rk
