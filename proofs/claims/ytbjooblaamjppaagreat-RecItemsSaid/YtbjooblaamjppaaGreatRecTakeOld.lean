/-
  Texts of earlier layers, as one.
-/
import Derived.Test.YtbjooblaamjppaaGreatRecTake
import Derived.Test.YtbjooblaamjppaaGreatRecOld
import Derived.Deep.Cut
/- rec.TakeOld: the record whose old form an item is. -/
namespace Go.Proofs.YtbjooblaamjppaaGreat.Rk
open Go.RowKit Mem Ids Att Cod

theorem wt_recOld (r : Rc) : wt (recOld r).1 ≤ 100000 := by
  unfold recOld
  split
  · rename_i h
    split
    · show wt Cmd.zeroIt ≤ _; decide
    · show 1 + ByteArray.empty.size + wts (if r.st = 0 then fronts r else fronts r ++ [Cmd.cmIt r.cm, oldIt r.at_]) ≤ _
      have e : ByteArray.empty.size = 0 := rfl
      rw [e]
      split
      · rw [wts_fronts]; decide
      · rename_i hs
        have h1 := Cmd.wt_item r.cm
        rw [Cmd.itemOf, if_pos ((rgt_parts h).2.2.2.2.2.1 hs).1] at h1
        have h2 := (wt_att ((rgt_parts h).2.2.2.2.2.1 hs).2).2
        rw [wts_append, wts_fronts]
        simp only [wts]
        omega
  · show wt Cmd.zeroIt ≤ _; decide
set_option maxRecDepth 100000 in
set_option maxHeartbeats 8000000 in
theorem takeold_any (x : It) (A : Option Addr) (c : Nat) (S : Nat → Prop) (w : World) (hl : Lies w S x A c) (hS : ∀ b, S b → b < w.heap.size) (hn : x.kids.length ≤ 1000000000) :
    Calls Tryz.prog 15 #[.agg #[.int .i64 x.kind, .int .u64 (x.num : Int), .string x.str, .slice A x.kids.length c]] w (TakesRc w (oldTakeRc x)) := by
  obtain ⟨W, hW⟩ : ∃ W, (w.alloc (.cells #[.int .i64 x.kind, .int .u64 (x.num : Int), .string x.str, .slice A x.kids.length c] 36)).alloc (.cells #[.int .i64 0, .int .i64 0, .int .i64 0, .int .i64 0, .int .i64 0, .int .i64 0, .int .i64 0, .int .i64 0, .int .i64 0, .int .i64 0, .string ⟨#[]⟩, .string ⟨#[]⟩, .int .i64 0, .slice none 0 0, .int .i64 0, .int .i64 0] 32) = W := ⟨_, rfl⟩
  obtain ⟨k1, k2, kb, hsW⟩ := two_kinds w _ _ _ _ W hW
  have hlw := hl.below kb hS
  have hrd := readold_any A x.kids.length c x.kids S W hlw.row hn (fun b hb => by have := hS b hb; omega)
  have htk : oldTakeRc x = if (x.kind == 2 && same (recOld (readOf oldTake x.kids)).1 x) = true then some (readOf oldTake x.kids) else none := rfl
  generalize readOf oldTake x.kids = q at hrd htk
  obtain ⟨n, hnn⟩ : ∃ n, x.kids.length = n := ⟨_, rfl⟩
  rw [hnn] at hrd k1 hW hn ⊢
  have HNN := Lib.hid hnn
  have HRD := Lib.hid hrd
  have HX := Lib.hid k1
  have HR0 := Lib.hid k2
  have HB0 := Lib.hid kb
  have HW := Lib.hid hW
  have HSW := Lib.hid hsW
  have HSS := Lib.hid hS
  have HLW := Lib.hid hlw
  have HTK0 := Lib.hid htk
  clear hl hS k1 k2 kb hW hsW hlw hrd htk hnn
  go_enter Tryz.func15, Tryz.ntmps15
  go_wp2_with fail
  rw [HW.out]
  refine HRD.out.mono ?_
  obtain ⟨⟨aR, aN⟩, aS, ⟨aB, aC⟩, ⟨aT, aU⟩, ⟨aK, aL, aQ, aY, aV, aZ⟩, ⟨al, aE, aG⟩⟩ := q
  rintro e w1 ⟨aA, an, ac, rfl, hrs, hnew, hb1⟩
  simp only at hrs ⊢
  have hsz2 := size_alloc w1 (.cells #[.int .i64 aR, .int .i64 aN, .int .i64 aS, .int .i64 aB, .int .i64 aC, .int .i64 aT, .int .i64 aU, .int .i64 aK, .int .i64 aL, .int .i64 aQ, .string aY, .string aV, .int .i64 aZ, .slice aA an ac, .int .i64 aE, .int .i64 aG] 32)
  have hk2 := Blk.new w1 32 #[.int .i64 aR, .int .i64 aN, .int .i64 aS, .int .i64 aB, .int .i64 aC, .int .i64 aT, .int .i64 aU, .int .i64 aK, .int .i64 aL, .int .i64 aQ, .string aY, .string aV, .int .i64 aZ, .slice aA an ac, .int .i64 aE, .int .i64 aG]
  have hx2 := (HX.out.bel hb1).alloc (.cells #[.int .i64 aR, .int .i64 aN, .int .i64 aS, .int .i64 aB, .int .i64 aC, .int .i64 aT, .int .i64 aU, .int .i64 aK, .int .i64 aL, .int .i64 aQ, .string aY, .string aV, .int .i64 aZ, .slice aA an ac, .int .i64 aE, .int .i64 aG] 32)
  have hr2 := (HR0.out.bel hb1).alloc (.cells #[.int .i64 aR, .int .i64 aN, .int .i64 aS, .int .i64 aB, .int .i64 aC, .int .i64 aT, .int .i64 aU, .int .i64 aK, .int .i64 aL, .int .i64 aQ, .string aY, .string aV, .int .i64 aZ, .slice aA an ac, .int .i64 aE, .int .i64 aG] 32)
  have hrs2 := hrs.alloc (.cells #[.int .i64 aR, .int .i64 aN, .int .i64 aS, .int .i64 aB, .int .i64 aC, .int .i64 aT, .int .i64 aU, .int .i64 aK, .int .i64 aL, .int .i64 aQ, .string aY, .string aV, .int .i64 aZ, .slice aA an ac, .int .i64 aE, .int .i64 aG] 32)
  have hbW : Below W.heap.size W (w1.alloc (.cells #[.int .i64 aR, .int .i64 aN, .int .i64 aS, .int .i64 aB, .int .i64 aC, .int .i64 aT, .int .i64 aU, .int .i64 aK, .int .i64 aL, .int .i64 aQ, .string aY, .string aV, .int .i64 aZ, .slice aA an ac, .int .i64 aE, .int .i64 aG] 32)) := hb1.alloc hb1.size _
  have hb2 : Below w.heap.size w (w1.alloc (.cells #[.int .i64 aR, .int .i64 aN, .int .i64 aS, .int .i64 aB, .int .i64 aC, .int .i64 aT, .int .i64 aU, .int .i64 aK, .int .i64 aL, .int .i64 aQ, .string aY, .string aV, .int .i64 aZ, .slice aA an ac, .int .i64 aE, .int .i64 aG] 32)) := HB0.out.trans (hbW.mono HB0.out.size)
  have hl2 := HLW.out.below hbW (fun b hb => by have := HSS.out b hb; have := HSW.out; omega)
  obtain ⟨W2, hW2⟩ : ∃ v, w1.alloc (.cells #[.int .i64 aR, .int .i64 aN, .int .i64 aS, .int .i64 aB, .int .i64 aC, .int .i64 aT, .int .i64 aU, .int .i64 aK, .int .i64 aL, .int .i64 aQ, .string aY, .string aV, .int .i64 aZ, .slice aA an ac, .int .i64 aE, .int .i64 aG] 32) = v := ⟨_, rfl⟩
  rw [hW2] at hsz2 hk2 hx2 hr2 hrs2 hb2 hl2 hbW
  have HZ1 := Lib.hid hb1.size
  have HZ2 := Lib.hid hsz2
  have HK2 := Lib.hid hk2
  have HX2 := Lib.hid hx2
  have HR2 := Lib.hid hr2
  have HRS := Lib.hid hrs2
  have HB2 := Lib.hid hb2
  have HNEW := Lib.hid hnew
  have HW2 := Lib.hid hW2
  have HL2 : Hid (∀ v : World, Below W2.heap.size W2 v → Lies v (fun b => b < v.heap.size) x A c) := Lib.hid (fun v hv => (hl2.below hv (fun b hb => by have := HSS.out b hb; have := hb2.size; omega)).more fun b hb _ => by have := HSS.out b hb; have := hb2.size; have := hv.size; omega)
  have hit := fun v (h : Rs v aA an ac al) => old_any aR aN aS aB aC aT aU aK aL aQ aY aV aZ aA an ac aE aG al v h
  have htk := HTK0.out
  have hwt := wt_recOld ⟨(aR, aN), aS, (aB, aC), (aT, aU), ⟨aK, aL, aQ, aY, aV, aZ⟩, ⟨al, aE, aG⟩⟩
  generalize recOld ⟨(aR, aN), aS, (aB, aC), (aT, aU), ⟨aK, aL, aQ, aY, aV, aZ⟩, ⟨al, aE, aG⟩⟩ = y at hit htk hwt
  obtain ⟨y, ye⟩ := y
  simp only at htk hwt
  have hcn := fun (v : World) (V1 : Option Addr) (c1 : Nat) (h1 : Lies v (fun b => b < v.heap.size) y V1 c1) (h2 : Lies v (fun b => b < v.heap.size) x A c) => counted_any aR aN aS aB aC aT aU aK aL aQ aY aV aZ aE aG aA an ac y V1 c1 x A c _ v h1 h2 (fun b hb => hb) hwt
  rw [HNN.out] at hcn
  generalize same y x = r at htk hcn
  generalize (x.kind == 2 && r) = ok at htk hcn
  have HCN0 := Lib.hid hcn
  have HIT := Lib.hid hit
  have HTK1 := Lib.hid htk
  have HCUR := Lib.hid (Below.refl W2.heap.size W2)
  clear hsz2 hk2 hx2 hr2 hrs2 hb2 hl2 hbW hrs hnew hb1 hW2 hit hwt HTK0 HRD htk hcn
  go_upto_region 2 with fail
  rw [HW2.out]
  go_wp2_with (refine wpList_load_blk rfl 32 _ rfl (w1.heap.size) 32 #[.int .i64 aR, .int .i64 aN, .int .i64 aS, .int .i64 aB, .int .i64 aC, .int .i64 aT, .int .i64 aU, .int .i64 aK, .int .i64 aL, .int .i64 aQ, .string aY, .string aV, .int .i64 aZ, .slice aA an ac, .int .i64 aE, .int .i64 aG] _ rfl HK2.out Tryz.underlying32 rfl (by kernel_rfl) ?_)
  refine (HIT.out _ HRS.out).mono ?_
  rintro e v1 ⟨V1, c1, rfl, hl1, hb1⟩
  simp only at hl1 ⊢
  have hy3 := Blk.new v1 36 #[.int .i64 y.kind, .int .u64 (y.num : Int), .string y.str, .slice V1 y.kids.length c1]
  have hb3 := bel_alloc hb1 (.cells #[.int .i64 y.kind, .int .u64 (y.num : Int), .string y.str, .slice V1 y.kids.length c1] 36)
  have hl3 := hl1.alloc (.cells #[.int .i64 y.kind, .int .u64 (y.num : Int), .string y.str, .slice V1 y.kids.length c1] 36)
  have hs3 := size_alloc v1 (.cells #[.int .i64 y.kind, .int .u64 (y.num : Int), .string y.str, .slice V1 y.kids.length c1] 36)
  obtain ⟨V3, hV3⟩ : ∃ v, v1.alloc (.cells #[.int .i64 y.kind, .int .u64 (y.num : Int), .string y.str, .slice V1 y.kids.length c1] 36) = v := ⟨_, rfl⟩
  rw [hV3] at hy3 hb3 hl3 hs3
  have hcn := HCN0.out V3 V1 c1 (hl3.more fun b hb _ => by omega) (HL2.out _ hb3)
  have HC0 := Lib.hid hcn
  have HV3 := Lib.hid hV3
  have HY3 := Lib.hid hy3
  replace HCUR := Lib.hid hb3
  clear hy3 hb3 hl3 hs3 hl1 hb1 hcn HCN0 hV3 HIT
  go_upto_region 3 with fail
  rw [HV3.out]
  have HK3 := Lib.hid (HK2.out.bel HCUR.out)
  obtain ⟨x0, x1, x2, x3⟩ := blk4 (HX2.out.bel HCUR.out)
  obtain ⟨y0, y1, y2, y3⟩ := blk4 HY3.out
  go_wp2_with (refine wpList_load_blk rfl 32 _ rfl (w1.heap.size) 32 #[.int .i64 aR, .int .i64 aN, .int .i64 aS, .int .i64 aB, .int .i64 aC, .int .i64 aT, .int .i64 aU, .int .i64 aK, .int .i64 aL, .int .i64 aQ, .string aY, .string aV, .int .i64 aZ, .slice aA an ac, .int .i64 aE, .int .i64 aG] _ rfl HK3.out Tryz.underlying32 rfl (by kernel_rfl) ?_)
  cases ok with
  | false =>
    have HTK := Lib.hid (show oldTakeRc x = none from HTK1.out)
    have HCN : Hid (Calls Tryz.prog 29 _ V3 fun e w' => e = .returned (.tuple #[.agg #[.int .i64 0, .int .i64 0, .int .i64 0, .int .i64 0, .int .i64 0, .int .i64 0, .int .i64 0, .int .i64 0, .int .i64 0, .int .i64 0, .string ⟨#[]⟩, .string ⟨#[]⟩, .int .i64 0, .slice none 0 0, .int .i64 0, .int .i64 0], .bool false]) ∧ Below V3.heap.size V3 w') := Lib.hid HC0.out
    clear HTK1 HC0
    refine HCN.out.mono ?_
    rintro e v2 ⟨rfl, hb1⟩
    have HXX := Lib.hid (HR2.out.bel (bel_trans HCUR.out hb1))
    replace HCUR := Lib.hid (bel_trans HCUR.out hb1)
    clear hb1 x0 x1 x2 x3 y0 y1 y2 y3
    go_wp2_with (first | fail | (refine wpList_store_blk rfl 32 _ _ rfl (w.heap.size + 1) 32 #[.int .i64 0, .int .i64 0, .int .i64 0, .int .i64 0, .int .i64 0, .int .i64 0, .int .i64 0, .int .i64 0, .int .i64 0, .int .i64 0, .string ⟨#[]⟩, .string ⟨#[]⟩, .int .i64 0, .slice none 0 0, .int .i64 0, .int .i64 0] #[.int .i64 0, .int .i64 0, .int .i64 0, .int .i64 0, .int .i64 0, .int .i64 0, .int .i64 0, .int .i64 0, .int .i64 0, .int .i64 0, .string ⟨#[]⟩, .string ⟨#[]⟩, .int .i64 0, .slice none 0 0, .int .i64 0, .int .i64 0] rfl rfl HXX.out (by kernel_rfl) rfl (by kernel_rfl) ?_; intro w9 hblk2 hgr))
    refine bodyPost_ret (v := .tuple #[.agg #[.int .i64 0, .int .i64 0, .int .i64 0, .int .i64 0, .int .i64 0, .int .i64 0, .int .i64 0, .int .i64 0, .int .i64 0, .int .i64 0, .string ⟨#[]⟩, .string ⟨#[]⟩, .int .i64 0, .slice none 0 0, .int .i64 0, .int .i64 0], .bool false]) (results_blk_tmp Tryz.results15 _ _ (w.heap.size + 1) 32 _ _ _ rfl rfl hblk2 Tryz.underlying32 rfl (by kernel_rfl)) rfl ?_
    have hsz := HB0.out.size
    have hsw := HSW.out
    have hb9 : Below w.heap.size w w9 := (HB2.out.trans (HCUR.out.mono HB2.out.size)).trans (gr_below hgr (by have := HB2.out.size; have := HCUR.out.size; omega) fun b hb => by injection hb with hb; omega)
    rw [HTK.out]
    exact ⟨zeroRc, none, 0, 0, rfl, rfl, Rs.nil_ _, (fun g o e => by cases e), hb9⟩
  | true =>
    have HTK := Lib.hid (show oldTakeRc x = some ⟨(aR, aN), aS, (aB, aC), (aT, aU), ⟨aK, aL, aQ, aY, aV, aZ⟩, ⟨al, aE, aG⟩⟩ from HTK1.out)
    have HCN : Hid (Calls Tryz.prog 29 _ V3 fun e w' => e = .returned (.tuple #[.agg #[.int .i64 aR, .int .i64 aN, .int .i64 aS, .int .i64 aB, .int .i64 aC, .int .i64 aT, .int .i64 aU, .int .i64 aK, .int .i64 aL, .int .i64 aQ, .string aY, .string aV, .int .i64 aZ, .slice aA an ac, .int .i64 aE, .int .i64 aG], .bool true]) ∧ Below V3.heap.size V3 w') := Lib.hid HC0.out
    clear HTK1 HC0
    refine HCN.out.mono ?_
    rintro e v2 ⟨rfl, hb1⟩
    have HXX := Lib.hid (HR2.out.bel (bel_trans HCUR.out hb1))
    replace HCUR := Lib.hid (bel_trans HCUR.out hb1)
    clear hb1 x0 x1 x2 x3 y0 y1 y2 y3
    go_wp2_with (first | fail | (refine wpList_store_blk rfl 32 _ _ rfl (w.heap.size + 1) 32 #[.int .i64 0, .int .i64 0, .int .i64 0, .int .i64 0, .int .i64 0, .int .i64 0, .int .i64 0, .int .i64 0, .int .i64 0, .int .i64 0, .string ⟨#[]⟩, .string ⟨#[]⟩, .int .i64 0, .slice none 0 0, .int .i64 0, .int .i64 0] #[.int .i64 aR, .int .i64 aN, .int .i64 aS, .int .i64 aB, .int .i64 aC, .int .i64 aT, .int .i64 aU, .int .i64 aK, .int .i64 aL, .int .i64 aQ, .string aY, .string aV, .int .i64 aZ, .slice aA an ac, .int .i64 aE, .int .i64 aG] rfl rfl HXX.out (by kernel_rfl) rfl (by kernel_rfl) ?_; intro w9 hblk2 hgr))
    refine bodyPost_ret (v := .tuple #[.agg #[.int .i64 aR, .int .i64 aN, .int .i64 aS, .int .i64 aB, .int .i64 aC, .int .i64 aT, .int .i64 aU, .int .i64 aK, .int .i64 aL, .int .i64 aQ, .string aY, .string aV, .int .i64 aZ, .slice aA an ac, .int .i64 aE, .int .i64 aG], .bool true]) (results_blk_tmp Tryz.results15 _ _ (w.heap.size + 1) 32 _ _ _ rfl rfl hblk2 Tryz.underlying32 rfl (by kernel_rfl)) rfl ?_
    have hsz := HB0.out.size
    have hsw := HSW.out
    have hb9 : Below w.heap.size w w9 := (HB2.out.trans (HCUR.out.mono HB2.out.size)).trans (gr_below hgr (by have := HB2.out.size; have := HCUR.out.size; omega) fun b hb => by injection hb with hb; omega)
    rw [HTK.out]
    have hrs9 := (HRS.out.below HCUR.out).grown hgr (fun g o e => by have := HNEW.out g o e; intro e; injection e with e; omega)
    exact ⟨⟨(aR, aN), aS, (aB, aC), (aT, aU), ⟨aK, aL, aQ, aY, aV, aZ⟩, ⟨al, aE, aG⟩⟩, aA, an, ac, rfl, rfl, hrs9, (fun g o e => by have := HNEW.out g o e; omega), hb9⟩
end Go.Proofs.YtbjooblaamjppaaGreat.Rk
