/-
  Texts of earlier layers, as one.
-/
import Derived.Test.YtbjooblaamjppaaGreatRecItem
/- rec.Old: the old form of a right record, in memory of the call's own. -/
namespace Go.Proofs.YtbjooblaamjppaaGreat.Rk
open Go.RowKit Mem Ids Att Cod

set_option maxRecDepth 100000 in
set_option maxHeartbeats 4000000 in
theorem old_any (aR aN aS aB aC aT aU aK aL aQ : Int) (aY aV : ByteArray) (aZ : Int) (aA : Option Addr) (an ac : Nat) (aE aG : Int) (al : List (Int × Int)) (w : World) (ha : Rs w aA an ac al) :
    Calls Tryz.prog 13 #[.agg #[.int .i64 aR, .int .i64 aN, .int .i64 aS, .int .i64 aB, .int .i64 aC, .int .i64 aT, .int .i64 aU, .int .i64 aK, .int .i64 aL, .int .i64 aQ, .string aY, .string aV, .int .i64 aZ, .slice aA an ac, .int .i64 aE, .int .i64 aG]] w (GivesOld w (recOld ⟨(aR, aN), aS, (aB, aC), (aT, aU), ⟨aK, aL, aQ, aY, aV, aZ⟩, ⟨al, aE, aG⟩⟩)) := by
  obtain ⟨W, hW⟩ : ∃ W, (w.alloc (.cells #[.int .i64 aR, .int .i64 aN, .int .i64 aS, .int .i64 aB, .int .i64 aC, .int .i64 aT, .int .i64 aU, .int .i64 aK, .int .i64 aL, .int .i64 aQ, .string aY, .string aV, .int .i64 aZ, .slice aA an ac, .int .i64 aE, .int .i64 aG] 32)).alloc (.cells #[.int .i64 0, .int .u64 0, .string ⟨#[]⟩, .slice none 0 0] 36) = W := ⟨_, rfl⟩
  obtain ⟨k1, k2, kb, hsW⟩ := two_kinds w _ _ _ _ W hW
  have HK := Lib.hid k1
  have HX := Lib.hid k2
  have HB0 := Lib.hid kb
  have HW := Lib.hid hW
  have HSW := Lib.hid hsW
  have HNE := Lib.hid (show w.heap.size ≠ w.heap.size + 1 by omega)
  have HRS := Lib.hid (ha.below kb)
  obtain ⟨p0, p1, p2, p3, p4, p5, p6, p7, p8, p9, p10, p11, p12, p13, p14, p15⟩ := blk16 k1
  obtain ⟨y0, y1, y2, y3⟩ := blk4 k2
  have hwW : w.heap.size < W.heap.size := by omega
  have hck := rcheck_any aR aN aS aB aC aT aU aK aL aQ aY aV aZ aA an ac aE aG al W (ha.below kb)
  clear k1 k2 kb hW ha hsW
  go_enter Tryz.func13, Tryz.ntmps13
  go_wp2_with fail
  rw [HW.out]
  clear p0 p1 p2 p3 p4 p5 p6 p7 p8 p9 p10 p11 p12 p13 p14 p15 y0 y1 y2 y3
  cases hc : rgt ⟨(aR, aN), aS, (aB, aC), (aT, aU), ⟨aK, aL, aQ, aY, aV, aZ⟩, ⟨al, aE, aG⟩⟩ with
  | false =>
    have hit : recOld ⟨(aR, aN), aS, (aB, aC), (aT, aU), ⟨aK, aL, aQ, aY, aV, aZ⟩, ⟨al, aE, aG⟩⟩ = (zeroIt, 4) := if_neg (by rw [hc]; decide)
    have hv : rchk ⟨(aR, aN), aS, (aB, aC), (aT, aU), ⟨aK, aL, aQ, aY, aV, aZ⟩, ⟨al, aE, aG⟩⟩ = 4 := if_neg (by rw [hc]; decide)
    rw [hv] at hck
    have HIT := Lib.hid hit
    have HCK := Lib.hid hck
    clear hck hit hv hc
    refine HCK.out.mono ?_
    rintro e w2 ⟨rfl, hb2⟩
    have HBK := Lib.hid (HX.out.bel hb2)
    have HD := Lib.hid (bel_trans HB0.out hb2)
    have e1 := HSW.out
    obtain ⟨p0, p1, p2, p3, p4, p5, p6, p7, p8, p9, p10, p11, p12, p13, p14, p15⟩ := blk16 (HK.out.bel hb2)
    clear hb2
    obtain ⟨c0, c1, c2, c3⟩ := blk4 HBK.out
    have z0 := HBK.out.soft 0
    have z1 := HBK.out.soft 1
    have z2 := HBK.out.soft 2
    have z3 := HBK.out.soft 3
    go_wp2_with fail
    obtain ⟨hblk2, hgr⟩ := blk4_set HBK.out (.int .i64 0) (.int .u64 0) (.string ⟨#[]⟩) (.slice none 0 0)
    generalize (((w2.setCell ⟨w.heap.size + 1, 0, none⟩ (.int .i64 0)).setCell ⟨w.heap.size + 1, 1, none⟩ (.int .u64 0)).setCell ⟨w.heap.size + 1, 2, none⟩ (.string ⟨#[]⟩)).setCell ⟨w.heap.size + 1, 3, none⟩ (.slice none 0 0) = w9 at hblk2 hgr ⊢
    obtain ⟨d0, d1, d2, d3⟩ := blk4 hblk2
    refine bodyPost_ret (v := .tuple #[.agg #[.int .i64 0, .int .u64 0, .string ByteArray.empty, .slice none 0 0], .int .i64 4]) (by simp [results, Tryz.results13, go_sem, d0, d1, d2, d3]; rfl) rfl ?_
    rw [HIT.out]
    exact ⟨none, 0, rfl, lies_leaf _ _ (by decide) (by decide) (by decide), HD.out.trans (gr_below hgr (by have := HD.out.size; omega) fun b hb => by cases hb; omega)⟩
  | true =>
  have hv : rchk ⟨(aR, aN), aS, (aB, aC), (aT, aU), ⟨aK, aL, aQ, aY, aV, aZ⟩, ⟨al, aE, aG⟩⟩ = 0 := if_pos hc
  rw [hv] at hck
  have HCK := Lib.hid hck
  clear hv hck
  by_cases ht : aG = 2
  · have hit : recOld ⟨(aR, aN), aS, (aB, aC), (aT, aU), ⟨aK, aL, aQ, aY, aV, aZ⟩, ⟨al, aE, aG⟩⟩ = (zeroIt, 17) := by rw [recOld, if_pos hc, if_pos (.inl ht)]; rfl
    have HIT := Lib.hid hit
    have b1 : (aG == 2) = true := by simpa using ht
    clear hit ht hc
    skip
    refine HCK.out.mono ?_
    rintro e w2 ⟨rfl, hb2⟩
    have HBK := Lib.hid (HX.out.bel hb2)
    have HD := Lib.hid (bel_trans HB0.out hb2)
    have e1 := HSW.out
    obtain ⟨p0, p1, p2, p3, p4, p5, p6, p7, p8, p9, p10, p11, p12, p13, p14, p15⟩ := blk16 (HK.out.bel hb2)
    clear hb2
    obtain ⟨c0, c1, c2, c3⟩ := blk4 HBK.out
    have z0 := HBK.out.soft 0
    have z1 := HBK.out.soft 1
    have z2 := HBK.out.soft 2
    have z3 := HBK.out.soft 3
    go_wp2_with fail
    obtain ⟨hblk2, hgr⟩ := blk4_set HBK.out (.int .i64 0) (.int .u64 0) (.string ⟨#[]⟩) (.slice none 0 0)
    generalize (((w2.setCell ⟨w.heap.size + 1, 0, none⟩ (.int .i64 0)).setCell ⟨w.heap.size + 1, 1, none⟩ (.int .u64 0)).setCell ⟨w.heap.size + 1, 2, none⟩ (.string ⟨#[]⟩)).setCell ⟨w.heap.size + 1, 3, none⟩ (.slice none 0 0) = w9 at hblk2 hgr ⊢
    obtain ⟨d0, d1, d2, d3⟩ := blk4 hblk2
    refine bodyPost_ret (v := .tuple #[.agg #[.int .i64 0, .int .u64 0, .string ByteArray.empty, .slice none 0 0], .int .i64 17]) (by simp [results, Tryz.results13, go_sem, d0, d1, d2, d3]; rfl) rfl ?_
    rw [HIT.out]
    exact ⟨none, 0, rfl, lies_leaf _ _ (by decide) (by decide) (by decide), HD.out.trans (gr_below hgr (by have := HD.out.size; omega) fun b hb => by cases hb; omega)⟩
  by_cases hk : aK = 6
  · have hit : recOld ⟨(aR, aN), aS, (aB, aC), (aT, aU), ⟨aK, aL, aQ, aY, aV, aZ⟩, ⟨al, aE, aG⟩⟩ = (zeroIt, 17) := by rw [recOld, if_pos hc, if_pos (.inr hk)]; rfl
    have HIT := Lib.hid hit
    have b1 : (aG == 2) = false := by simpa using ht
    have b2 : (aK == 6) = true := by simpa using hk
    clear hit ht hk hc
    skip
    refine HCK.out.mono ?_
    rintro e w2 ⟨rfl, hb2⟩
    have HBK := Lib.hid (HX.out.bel hb2)
    have HD := Lib.hid (bel_trans HB0.out hb2)
    have e1 := HSW.out
    obtain ⟨p0, p1, p2, p3, p4, p5, p6, p7, p8, p9, p10, p11, p12, p13, p14, p15⟩ := blk16 (HK.out.bel hb2)
    clear hb2
    obtain ⟨c0, c1, c2, c3⟩ := blk4 HBK.out
    have z0 := HBK.out.soft 0
    have z1 := HBK.out.soft 1
    have z2 := HBK.out.soft 2
    have z3 := HBK.out.soft 3
    go_wp2_with fail
    obtain ⟨hblk2, hgr⟩ := blk4_set HBK.out (.int .i64 0) (.int .u64 0) (.string ⟨#[]⟩) (.slice none 0 0)
    generalize (((w2.setCell ⟨w.heap.size + 1, 0, none⟩ (.int .i64 0)).setCell ⟨w.heap.size + 1, 1, none⟩ (.int .u64 0)).setCell ⟨w.heap.size + 1, 2, none⟩ (.string ⟨#[]⟩)).setCell ⟨w.heap.size + 1, 3, none⟩ (.slice none 0 0) = w9 at hblk2 hgr ⊢
    obtain ⟨d0, d1, d2, d3⟩ := blk4 hblk2
    refine bodyPost_ret (v := .tuple #[.agg #[.int .i64 0, .int .u64 0, .string ByteArray.empty, .slice none 0 0], .int .i64 17]) (by simp [results, Tryz.results13, go_sem, d0, d1, d2, d3]; rfl) rfl ?_
    rw [HIT.out]
    exact ⟨none, 0, rfl, lies_leaf _ _ (by decide) (by decide) (by decide), HD.out.trans (gr_below hgr (by have := HD.out.size; omega) fun b hb => by cases hb; omega)⟩
  have b1 : (aG == 2) = false := by simpa using ht
  have b2 : (aK == 6) = false := by simpa using hk
  have hit : recOld ⟨(aR, aN), aS, (aB, aC), (aT, aU), ⟨aK, aL, aQ, aY, aV, aZ⟩, ⟨al, aE, aG⟩⟩ = (laidIt ⟨(aR, aN), aS, (aB, aC), (aT, aU), ⟨aK, aL, aQ, aY, aV, aZ⟩, ⟨al, aE, aG⟩⟩ (attOld ⟨al, aE, aG⟩).1, 0) := by
    have hn : ¬ (aG = 2 ∨ aK = 6) := fun h => by rcases h with h | h; exact ht h; exact hk h
    rw [recOld, if_pos hc, if_neg hn, old_laid hc hn]
  have hai := fun w (h : Rs w aA an ac al) => attold_any al aE aG aA an ac w h
  have hyw := wt_attOld ⟨al, aE, aG⟩
  generalize attOld ⟨al, aE, aG⟩ = y at hit hai hyw
  obtain ⟨y, ye⟩ := y
  simp only at hit hyw
  have hfm := (fun v (V : Option Addr) (c : Nat) (h : Lies v (fun b => W.heap.size ≤ b ∧ b < v.heap.size) y V c) => form_any aR aN aS aB aC aT aU aK aL aQ aY aV aZ aA an ac aE aG al y V c _ v hc h (fun b hb => hb.2) hyw)
  generalize laidIt ⟨(aR, aN), aS, (aB, aC), (aT, aU), ⟨aK, aL, aQ, aY, aV, aZ⟩, ⟨al, aE, aG⟩⟩ y = x at hit hfm
  have HIT := Lib.hid hit
  have HAI := Lib.hid hai
  have HFM := Lib.hid hfm
  clear hit hai hfm hyw hc ht hk
  refine HCK.out.mono ?_
  rintro e w2 ⟨rfl, hb2⟩
  have HCUR := Lib.hid hb2
  obtain ⟨p0, p1, p2, p3, p4, p5, p6, p7, p8, p9, p10, p11, p12, p13, p14, p15⟩ := blk16 (HK.out.bel hb2)
  clear hb2 HCK
  go_wp2_with fail
  refine (HAI.out _ (HRS.out.below HCUR.out)).mono ?_
  rintro e v1 ⟨V1, c1, rfl, hl1, hb1⟩
  simp only at hl1 ⊢
  have hnow := HCUR.out.trans (hb1.mono HCUR.out.size)
  have hs1 := hnow.size
  have hl2 := (hl1.more (S' := fun b => W.heap.size ≤ b ∧ b < v1.heap.size) fun b hb _ => ⟨Nat.le_trans HCUR.out.size hb.1, hb.2⟩).alloc (.cells #[.int .i64 y.kind, .int .u64 (y.num : Int), .string y.str, .slice V1 y.kids.length c1] 36)
  have hb3 := bel_alloc hnow (.cells #[.int .i64 y.kind, .int .u64 (y.num : Int), .string y.str, .slice V1 y.kids.length c1] 36)
  have hk3 := Blk.new v1 36 #[.int .i64 y.kind, .int .u64 (y.num : Int), .string y.str, .slice V1 y.kids.length c1]
  have hsz := size_alloc v1 (.cells #[.int .i64 y.kind, .int .u64 (y.num : Int), .string y.str, .slice V1 y.kids.length c1] 36)
  have HL1 := Lib.hid (hl2.more (S' := fun b => W.heap.size ≤ b ∧ b < (v1.alloc (.cells #[.int .i64 y.kind, .int .u64 (y.num : Int), .string y.str, .slice V1 y.kids.length c1] 36)).heap.size) fun b hb _ => ⟨hb.1, by omega⟩)
  replace HCUR := Lib.hid hb3
  have HK3 := Lib.hid hk3
  have HSZ := Lib.hid hsz
  clear hb1 hnow hl1 hl2 hb3 hk3 hsz p0 p1 p2 p3 p4 p5 p6 p7 p8 p9 p10 p11 p12 p13 p14 p15
  obtain ⟨V3, hV3⟩ : ∃ v, v1.alloc (.cells #[.int .i64 y.kind, .int .u64 (y.num : Int), .string y.str, .slice V1 y.kids.length c1] 36) = v := ⟨_, rfl⟩
  rw [hV3] at HL1 HCUR HK3 HSZ
  have HV3 := Lib.hid hV3
  clear hV3
  obtain ⟨p0, p1, p2, p3, p4, p5, p6, p7, p8, p9, p10, p11, p12, p13, p14, p15⟩ := blk16 (HK.out.bel HCUR.out)
  obtain ⟨q0, q1, q2, q3⟩ := blk4 HK3.out
  go_wp2_with (rw [HV3.out])
  refine (HFM.out V3 V1 c1 HL1.out).mono ?_
  rintro e w5 ⟨V9, c9, rfl, hl9, hb1⟩
  have hnow := HCUR.out.trans (hb1.mono HCUR.out.size)
  have hs3 := HCUR.out.size
  have HLI := Lib.hid (hl9.more (S' := fun b => W.heap.size ≤ b ∧ b < w5.heap.size) fun b hb _ => ⟨by rcases hb.1 with h | h; exact h.1; omega, hb.2⟩)
  have HBK := Lib.hid (HX.out.bel hnow)
  obtain ⟨c0, c1', c2, c3⟩ := blk4 HBK.out
  have z0 := HBK.out.soft 0
  have z1 := HBK.out.soft 1
  have z2 := HBK.out.soft 2
  have z3 := HBK.out.soft 3
  have HD := Lib.hid (HB0.out.trans (hnow.mono (by omega)))
  clear HFM hb1 hnow hl9 p0 p1 p2 p3 p4 p5 p6 p7 p8 p9 p10 p11 p12 p13 p14 p15 q0 q1 q2 q3 hs3 hs1
  go_wp2_with fail
  obtain ⟨hblk2, hgr⟩ := blk4_set HBK.out (.int .i64 x.kind) (.int .u64 (x.num : Int)) (.string x.str) (.slice V9 x.kids.length c9)
  generalize (((w5.setCell ⟨w.heap.size + 1, 0, none⟩ (.int .i64 x.kind)).setCell ⟨w.heap.size + 1, 1, none⟩ (.int .u64 (x.num : Int))).setCell ⟨w.heap.size + 1, 2, none⟩ (.string x.str)).setCell ⟨w.heap.size + 1, 3, none⟩ (.slice V9 x.kids.length c9) = w9 at hblk2 hgr ⊢
  obtain ⟨d0, d1, d2, d3⟩ := blk4 hblk2
  refine bodyPost_ret (v := .tuple #[.agg #[.int .i64 x.kind, .int .u64 (x.num : Int), .string x.str, .slice V9 x.kids.length c9], .int .i64 0]) (by simp [results, Tryz.results13, go_sem, d0, d1, d2, d3]) rfl ?_
  have hs9 := hgr.size
  have e1 := HSW.out
  have hli9 := (HLI.out.grown hgr (fun b hb e => by injection e with e; omega)).more (S' := fun b => w.heap.size ≤ b ∧ b < w9.heap.size) fun b hb _ => by omega
  rw [HIT.out]
  exact ⟨V9, c9, rfl, hli9, HD.out.trans (gr_below hgr (by have := HD.out.size; omega) fun b hb => by injection hb with hb; omega)⟩
end Go.Proofs.YtbjooblaamjppaaGreat.Rk
