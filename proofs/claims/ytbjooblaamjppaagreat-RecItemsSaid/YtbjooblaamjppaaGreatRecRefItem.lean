/-
  Texts of earlier layers, as one.
-/
import Derived.Test.YtbjooblaamjppaaGreatRecItem
import Derived.Test.YtbjooblaamjppaaGreatRecLaid
import Derived.Test.YtbjooblaamjppaaGreatRecRight
import Derived.Test.YtbjooblaamjppaaGreatRAttAny
/- The document's Item of a right record, and its Old of any. -/
namespace Go.Proofs.YtbjooblaamjppaaGreat.Rk
open Go.RowKit Mem Ids Att Cod

theorem rgt_aok {r : Rc} (h : rgt r = true) : aok r.at_ := by
  obtain ⟨_, _, _, _, _, h6, h7⟩ := rgt_parts h
  by_cases hs : r.st = 0
  · rw [(h7 hs).2.2]
    exact aok_zero
  · exact aok_of (h6 hs).2
theorem wt_ok {a : At} (h : aok a) : wt (attIt a) ≤ 60000 ∧ wt (oldIt a) ≤ 60000 := by
  have hl := aok_len h
  have e2 : wt (Ids.setIt a.dp) = 1 + a.dp.length * 2 := by
    show 1 + ByteArray.empty.size + wts (Ids.its a.dp) = _
    rw [Ids.wts_its]
    rfl
  constructor
  · show 1 + ByteArray.empty.size + wts [Ids.numIt a.tg, Ids.numIt a.sq, Ids.setIt a.dp] ≤ _
    simp only [wts, e2]
    simp [Ids.numIt, wt, wts]
    omega
  · show 1 + ByteArray.empty.size + wts [Ids.numIt a.sq, Ids.setIt a.dp] ≤ _
    simp only [wts, e2]
    simp [Ids.numIt, wt, wts]
    omega

set_option maxRecDepth 100000 in
set_option maxHeartbeats 4000000 in
theorem refitem_any (aR aN aS aB aC aT aU aK aL aQ : Int) (aY aV : ByteArray) (aZ : Int) (aA : Option Addr) (an ac : Nat) (aE aG : Int) (al : List (Int × Int)) (w : World) (ha : Rs w aA an ac al) (hc : rgt ⟨(aR, aN), aS, (aB, aC), (aT, aU), ⟨aK, aL, aQ, aY, aV, aZ⟩, ⟨al, aE, aG⟩⟩ = true) :
    Calls Tryz.prog 11 #[.agg #[.int .i64 aR, .int .i64 aN, .int .i64 aS, .int .i64 aB, .int .i64 aC, .int .i64 aT, .int .i64 aU, .int .i64 aK, .int .i64 aL, .int .i64 aQ, .string aY, .string aV, .int .i64 aZ, .slice aA an ac, .int .i64 aE, .int .i64 aG]] w (GivesNew w (recIt ⟨(aR, aN), aS, (aB, aC), (aT, aU), ⟨aK, aL, aQ, aY, aV, aZ⟩, ⟨al, aE, aG⟩⟩)) := by
  obtain ⟨W, hW⟩ : ∃ W, (w.alloc (.cells #[.int .i64 aR, .int .i64 aN, .int .i64 aS, .int .i64 aB, .int .i64 aC, .int .i64 aT, .int .i64 aU, .int .i64 aK, .int .i64 aL, .int .i64 aQ, .string aY, .string aV, .int .i64 aZ, .slice aA an ac, .int .i64 aE, .int .i64 aG] 32)).alloc (.cells #[.int .i64 0, .int .u64 0, .string ⟨#[]⟩, .slice none 0 0] 36) = W := ⟨_, rfl⟩
  obtain ⟨k1, k2, kb, hsW⟩ := two_kinds w _ _ _ _ W hW
  have HK := Lib.hid k1
  have HX := Lib.hid k2
  have HB0 := Lib.hid kb
  have HW := Lib.hid hW
  have HSW := Lib.hid hsW
  have HNE := Lib.hid (show w.heap.size ≠ w.heap.size + 1 by omega)
  have HRS := Lib.hid (ha.below kb)
  obtain ⟨p0, p1, p2, p3, p4, p5, p6, p7, p8, p9, p10, p11, p12, p13, p14, p15⟩ := blk16 k1
  obtain ⟨y0, y1, y2, y3⟩ := blk4 k2
  have hwW : w.heap.size < W.heap.size := by omega
  have hok := rgt_aok hc
  have hit : recIt ⟨(aR, aN), aS, (aB, aC), (aT, aU), ⟨aK, aL, aQ, aY, aV, aZ⟩, ⟨al, aE, aG⟩⟩ = laidIt ⟨(aR, aN), aS, (aB, aC), (aT, aU), ⟨aK, aL, aQ, aY, aV, aZ⟩, ⟨al, aE, aG⟩⟩ (attIt ⟨al, aE, aG⟩) := rfl
  have hai := fun w (h : Rs w aA an ac al) => refattitem_ok al aE aG aA an ac w h hok
  have hyw := (wt_ok hok).1
  simp only at hyw
  generalize attIt ⟨al, aE, aG⟩ = y at hit hai hyw
  have hfm := (fun v (V : Option Addr) (c : Nat) (h : Lies v (fun b => W.heap.size ≤ b ∧ b < v.heap.size) y V c) => laid_any aR aN aS aB aC aT aU aK aL aQ aY aV aZ aA an ac aE aG al y V c _ v hc h (fun b hb => hb.2) hyw)
  generalize laidIt ⟨(aR, aN), aS, (aB, aC), (aT, aU), ⟨aK, aL, aQ, aY, aV, aZ⟩, ⟨al, aE, aG⟩⟩ y = x at hit hfm
  have HIT := Lib.hid hit
  have HAI := Lib.hid hai
  have HFM := Lib.hid hfm
  clear k1 k2 kb hW ha hsW hit hai hfm hyw hok hc
  go_enter Tryz.func11, Tryz.ntmps11
  go_wp2_with fail
  rw [HW.out]
  have HCUR := Lib.hid (Below.drew (Below.refl W.heap.size W))
  go_region_held3 (fun w' => w'.cell? ⟨w.heap.size, 0, none⟩ = some (.int .i64 aR) ∧ w'.cell? ⟨w.heap.size, 1, none⟩ = some (.int .i64 aN) ∧ w'.cell? ⟨w.heap.size, 2, none⟩ = some (.int .i64 aS) ∧ w'.cell? ⟨w.heap.size, 3, none⟩ = some (.int .i64 aB) ∧ w'.cell? ⟨w.heap.size, 4, none⟩ = some (.int .i64 aC) ∧ w'.cell? ⟨w.heap.size, 5, none⟩ = some (.int .i64 aT) ∧ w'.cell? ⟨w.heap.size, 6, none⟩ = some (.int .i64 aU) ∧ w'.cell? ⟨w.heap.size, 7, none⟩ = some (.int .i64 aK) ∧ w'.cell? ⟨w.heap.size, 8, none⟩ = some (.int .i64 aL) ∧ w'.cell? ⟨w.heap.size, 9, none⟩ = some (.int .i64 aQ) ∧ w'.cell? ⟨w.heap.size, 10, none⟩ = some (.string aY) ∧ w'.cell? ⟨w.heap.size, 11, none⟩ = some (.string aV) ∧ w'.cell? ⟨w.heap.size, 12, none⟩ = some (.int .i64 aZ) ∧ w'.cell? ⟨w.heap.size, 13, none⟩ = some (.slice aA an ac) ∧ w'.cell? ⟨w.heap.size, 14, none⟩ = some (.int .i64 aE) ∧ w'.cell? ⟨w.heap.size, 15, none⟩ = some (.int .i64 aG)) (first | (with_reducible exact held16s HK.out HCUR.out HNE.out _ _ _ _) | (with_reducible exact held16 HK.out HCUR.out))
    (first
    | (go_at_call 33
       with_reducible refine (HAI.out _ (HRS.out.below HCUR.out)).mono ?_
       rintro e v1 ⟨V1, c1, rfl, hl1, hb1⟩
       have hnow := HCUR.out.trans (hb1.mono HCUR.out.size)
       have HL1 := Lib.hid (hl1.more (S' := fun b => W.heap.size ≤ b ∧ b < v1.heap.size) fun b hb _ => ⟨Nat.le_trans HCUR.out.size hb.1, hb.2⟩)
       have hsv := hnow.size
       replace HCUR := Lib.hid hnow
       clear HAI hb1 hnow hl1)
    | (go_at_call 32
       with_reducible refine (HFM.out v1 V1 c1 HL1.out).mono ?_
       rintro e w5 ⟨V9, c9, rfl, hl9, hb1⟩
       have hnow := HCUR.out.trans (hb1.mono HCUR.out.size)
       have HLI := Lib.hid (hl9.more (S' := fun b => W.heap.size ≤ b ∧ b < w5.heap.size) fun b hb _ => ⟨by rcases hb.1 with h | h; exact h.1; omega, hb.2⟩)
       have HBK := Lib.hid (HX.out.bel hnow)
       obtain ⟨c0, c1', c2, c3⟩ := blk4 HBK.out
       have z0 := HBK.out.soft 0
       have z1 := HBK.out.soft 1
       have z2 := HBK.out.soft 2
       have z3 := HBK.out.soft 3
       have HD := Lib.hid (HB0.out.trans (hnow.mono (by omega)))
       replace HCUR := Lib.hid hnow
       clear HFM hb1 hnow hl9))
  go_wp2_with fail
  obtain ⟨hblk2, hgr⟩ := blk4_set HBK.out (.int .i64 x.kind) (.int .u64 (x.num : Int)) (.string x.str) (.slice V9 x.kids.length c9)
  generalize (((w5.setCell ⟨w.heap.size + 1, 0, none⟩ (.int .i64 x.kind)).setCell ⟨w.heap.size + 1, 1, none⟩ (.int .u64 (x.num : Int))).setCell ⟨w.heap.size + 1, 2, none⟩ (.string x.str)).setCell ⟨w.heap.size + 1, 3, none⟩ (.slice V9 x.kids.length c9) = w9 at hblk2 hgr ⊢
  obtain ⟨d0, d1, d2, d3⟩ := blk4 hblk2
  refine bodyPost_ret (v := .agg #[.int .i64 x.kind, .int .u64 (x.num : Int), .string x.str, .slice V9 x.kids.length c9]) (by simp [results, Tryz.results11, go_sem, d0, d1, d2, d3]) rfl ?_
  have hs9 := hgr.size
  have e1 := HSW.out
  have hli9 := (HLI.out.grown hgr (fun b hb e => by injection e with e; omega)).more (S' := fun b => w.heap.size ≤ b ∧ b < w9.heap.size) fun b hb _ => by omega
  rw [HIT.out]
  exact ⟨V9, c9, rfl, hli9, HD.out.trans (gr_below hgr (by have := HD.out.size; omega) fun b hb => by injection hb with hb; omega)⟩

set_option maxRecDepth 100000 in
set_option maxHeartbeats 4000000 in
theorem refold_any (aR aN aS aB aC aT aU aK aL aQ : Int) (aY aV : ByteArray) (aZ : Int) (aA : Option Addr) (an ac : Nat) (aE aG : Int) (al : List (Int × Int)) (w : World) (ha : Rs w aA an ac al) (hy : aY.size ≤ 1073741824) :
    Calls Tryz.prog 14 #[.agg #[.int .i64 aR, .int .i64 aN, .int .i64 aS, .int .i64 aB, .int .i64 aC, .int .i64 aT, .int .i64 aU, .int .i64 aK, .int .i64 aL, .int .i64 aQ, .string aY, .string aV, .int .i64 aZ, .slice aA an ac, .int .i64 aE, .int .i64 aG]] w (GivesOld w (recOld ⟨(aR, aN), aS, (aB, aC), (aT, aU), ⟨aK, aL, aQ, aY, aV, aZ⟩, ⟨al, aE, aG⟩⟩)) := by
  obtain ⟨W, hW⟩ : ∃ W, (w.alloc (.cells #[.int .i64 aR, .int .i64 aN, .int .i64 aS, .int .i64 aB, .int .i64 aC, .int .i64 aT, .int .i64 aU, .int .i64 aK, .int .i64 aL, .int .i64 aQ, .string aY, .string aV, .int .i64 aZ, .slice aA an ac, .int .i64 aE, .int .i64 aG] 32)).alloc (.cells #[.int .i64 0, .int .u64 0, .string ⟨#[]⟩, .slice none 0 0] 36) = W := ⟨_, rfl⟩
  obtain ⟨k1, k2, kb, hsW⟩ := two_kinds w _ _ _ _ W hW
  have HK := Lib.hid k1
  have HX := Lib.hid k2
  have HB0 := Lib.hid kb
  have HW := Lib.hid hW
  have HSW := Lib.hid hsW
  have HNE := Lib.hid (show w.heap.size ≠ w.heap.size + 1 by omega)
  have HRS := Lib.hid (ha.below kb)
  obtain ⟨p0, p1, p2, p3, p4, p5, p6, p7, p8, p9, p10, p11, p12, p13, p14, p15⟩ := blk16 k1
  obtain ⟨y0, y1, y2, y3⟩ := blk4 k2
  have hwW : w.heap.size < W.heap.size := by omega
  have hck := refright_any aR aN aS aB aC aT aU aK aL aQ aY aV aZ aA an ac aE aG al W (ha.below kb) hy
  clear k1 k2 kb hW ha hsW hy
  go_enter Tryz.func14, Tryz.ntmps14
  go_wp2_with fail
  rw [HW.out]
  clear p0 p1 p2 p3 p4 p5 p6 p7 p8 p9 p10 p11 p12 p13 p14 p15 y0 y1 y2 y3
  cases hc : rgt ⟨(aR, aN), aS, (aB, aC), (aT, aU), ⟨aK, aL, aQ, aY, aV, aZ⟩, ⟨al, aE, aG⟩⟩ with
  | false =>
    have hit : recOld ⟨(aR, aN), aS, (aB, aC), (aT, aU), ⟨aK, aL, aQ, aY, aV, aZ⟩, ⟨al, aE, aG⟩⟩ = (zeroIt, 4) := if_neg (by rw [hc]; decide)
    rw [hc] at hck
    have HIT := Lib.hid hit
    have HCK := Lib.hid hck
    clear hck hit hc
    refine HCK.out.mono ?_
    rintro e w2 ⟨rfl, hb2⟩
    have HBK := Lib.hid (HX.out.bel hb2)
    have HD := Lib.hid (bel_trans HB0.out hb2)
    have e1 := HSW.out
    obtain ⟨p0, p1, p2, p3, p4, p5, p6, p7, p8, p9, p10, p11, p12, p13, p14, p15⟩ := blk16 (HK.out.bel hb2)
    clear hb2
    obtain ⟨c0, c1, c2, c3⟩ := blk4 HBK.out
    have z0 := HBK.out.soft 0
    have z1 := HBK.out.soft 1
    have z2 := HBK.out.soft 2
    have z3 := HBK.out.soft 3
    go_wp2_with fail
    obtain ⟨hblk2, hgr⟩ := blk4_set HBK.out (.int .i64 0) (.int .u64 0) (.string ⟨#[]⟩) (.slice none 0 0)
    generalize (((w2.setCell ⟨w.heap.size + 1, 0, none⟩ (.int .i64 0)).setCell ⟨w.heap.size + 1, 1, none⟩ (.int .u64 0)).setCell ⟨w.heap.size + 1, 2, none⟩ (.string ⟨#[]⟩)).setCell ⟨w.heap.size + 1, 3, none⟩ (.slice none 0 0) = w9 at hblk2 hgr ⊢
    obtain ⟨d0, d1, d2, d3⟩ := blk4 hblk2
    refine bodyPost_ret (v := .tuple #[.agg #[.int .i64 0, .int .u64 0, .string ByteArray.empty, .slice none 0 0], .int .i64 4]) (by simp [results, Tryz.results14, go_sem, d0, d1, d2, d3]; rfl) rfl ?_
    rw [HIT.out]
    exact ⟨none, 0, rfl, lies_leaf _ _ (by decide) (by decide) (by decide), HD.out.trans (gr_below hgr (by have := HD.out.size; omega) fun b hb => by cases hb; omega)⟩
  | true =>
  rw [hc] at hck
  have HCK := Lib.hid hck
  clear hck
  by_cases hk : aK = 6
  · have hit : recOld ⟨(aR, aN), aS, (aB, aC), (aT, aU), ⟨aK, aL, aQ, aY, aV, aZ⟩, ⟨al, aE, aG⟩⟩ = (zeroIt, 17) := by rw [recOld, if_pos hc, if_pos (.inr hk)]; rfl
    have HIT := Lib.hid hit
    have b2 : (aK == 6) = true := by simpa using hk
    clear hit hk hc
    skip
    refine HCK.out.mono ?_
    rintro e w2 ⟨rfl, hb2⟩
    have HBK := Lib.hid (HX.out.bel hb2)
    have HD := Lib.hid (bel_trans HB0.out hb2)
    have e1 := HSW.out
    obtain ⟨p0, p1, p2, p3, p4, p5, p6, p7, p8, p9, p10, p11, p12, p13, p14, p15⟩ := blk16 (HK.out.bel hb2)
    clear hb2
    obtain ⟨c0, c1, c2, c3⟩ := blk4 HBK.out
    have z0 := HBK.out.soft 0
    have z1 := HBK.out.soft 1
    have z2 := HBK.out.soft 2
    have z3 := HBK.out.soft 3
    go_wp2_with fail
    obtain ⟨hblk2, hgr⟩ := blk4_set HBK.out (.int .i64 0) (.int .u64 0) (.string ⟨#[]⟩) (.slice none 0 0)
    generalize (((w2.setCell ⟨w.heap.size + 1, 0, none⟩ (.int .i64 0)).setCell ⟨w.heap.size + 1, 1, none⟩ (.int .u64 0)).setCell ⟨w.heap.size + 1, 2, none⟩ (.string ⟨#[]⟩)).setCell ⟨w.heap.size + 1, 3, none⟩ (.slice none 0 0) = w9 at hblk2 hgr ⊢
    obtain ⟨d0, d1, d2, d3⟩ := blk4 hblk2
    refine bodyPost_ret (v := .tuple #[.agg #[.int .i64 0, .int .u64 0, .string ByteArray.empty, .slice none 0 0], .int .i64 17]) (by simp [results, Tryz.results14, go_sem, d0, d1, d2, d3]; rfl) rfl ?_
    rw [HIT.out]
    exact ⟨none, 0, rfl, lies_leaf _ _ (by decide) (by decide) (by decide), HD.out.trans (gr_below hgr (by have := HD.out.size; omega) fun b hb => by cases hb; omega)⟩
  by_cases ht : aG = 2
  · have hit : recOld ⟨(aR, aN), aS, (aB, aC), (aT, aU), ⟨aK, aL, aQ, aY, aV, aZ⟩, ⟨al, aE, aG⟩⟩ = (zeroIt, 17) := by rw [recOld, if_pos hc, if_pos (.inl ht)]; rfl
    have HIT := Lib.hid hit
    have b1 : (aG == 2) = true := by simpa using ht
    have b2 : (aK == 6) = false := by simpa using hk
    clear hit ht hk hc
    skip
    refine HCK.out.mono ?_
    rintro e w2 ⟨rfl, hb2⟩
    have HBK := Lib.hid (HX.out.bel hb2)
    have HD := Lib.hid (bel_trans HB0.out hb2)
    have e1 := HSW.out
    obtain ⟨p0, p1, p2, p3, p4, p5, p6, p7, p8, p9, p10, p11, p12, p13, p14, p15⟩ := blk16 (HK.out.bel hb2)
    clear hb2
    obtain ⟨c0, c1, c2, c3⟩ := blk4 HBK.out
    have z0 := HBK.out.soft 0
    have z1 := HBK.out.soft 1
    have z2 := HBK.out.soft 2
    have z3 := HBK.out.soft 3
    go_wp2_with fail
    obtain ⟨hblk2, hgr⟩ := blk4_set HBK.out (.int .i64 0) (.int .u64 0) (.string ⟨#[]⟩) (.slice none 0 0)
    generalize (((w2.setCell ⟨w.heap.size + 1, 0, none⟩ (.int .i64 0)).setCell ⟨w.heap.size + 1, 1, none⟩ (.int .u64 0)).setCell ⟨w.heap.size + 1, 2, none⟩ (.string ⟨#[]⟩)).setCell ⟨w.heap.size + 1, 3, none⟩ (.slice none 0 0) = w9 at hblk2 hgr ⊢
    obtain ⟨d0, d1, d2, d3⟩ := blk4 hblk2
    refine bodyPost_ret (v := .tuple #[.agg #[.int .i64 0, .int .u64 0, .string ByteArray.empty, .slice none 0 0], .int .i64 17]) (by simp [results, Tryz.results14, go_sem, d0, d1, d2, d3]; rfl) rfl ?_
    rw [HIT.out]
    exact ⟨none, 0, rfl, lies_leaf _ _ (by decide) (by decide) (by decide), HD.out.trans (gr_below hgr (by have := HD.out.size; omega) fun b hb => by cases hb; omega)⟩
  have b1 : (aG == 2) = false := by simpa using ht
  have b2 : (aK == 6) = false := by simpa using hk
  have hok := rgt_aok hc
  have hit : recOld ⟨(aR, aN), aS, (aB, aC), (aT, aU), ⟨aK, aL, aQ, aY, aV, aZ⟩, ⟨al, aE, aG⟩⟩ = (laidIt ⟨(aR, aN), aS, (aB, aC), (aT, aU), ⟨aK, aL, aQ, aY, aV, aZ⟩, ⟨al, aE, aG⟩⟩ (oldIt ⟨al, aE, aG⟩), 0) := by
    have hn : ¬ (aG = 2 ∨ aK = 6) := fun h => by rcases h with h | h; exact ht h; exact hk h
    rw [recOld, if_pos hc, if_neg hn]
    rfl
  have hai := fun w (h : Rs w aA an ac al) => refattold_ok al aE aG aA an ac w h hok
  have hyw := (wt_ok hok).2
  simp only at hyw
  generalize oldIt ⟨al, aE, aG⟩ = y at hit hai hyw
  have hfm := (fun v (V : Option Addr) (c : Nat) (h : Lies v (fun b => W.heap.size ≤ b ∧ b < v.heap.size) y V c) => laid_any aR aN aS aB aC aT aU aK aL aQ aY aV aZ aA an ac aE aG al y V c _ v hc h (fun b hb => hb.2) hyw)
  generalize laidIt ⟨(aR, aN), aS, (aB, aC), (aT, aU), ⟨aK, aL, aQ, aY, aV, aZ⟩, ⟨al, aE, aG⟩⟩ y = x at hit hfm
  have HIT := Lib.hid hit
  have HAI := Lib.hid hai
  have HFM := Lib.hid hfm
  clear hit hai hfm hyw hc ht hk hok
  refine HCK.out.mono ?_
  rintro e w2 ⟨rfl, hb2⟩
  have HCUR := Lib.hid (Below.drew hb2)
  obtain ⟨p0, p1, p2, p3, p4, p5, p6, p7, p8, p9, p10, p11, p12, p13, p14, p15⟩ := blk16 (HK.out.bel hb2)
  obtain ⟨y0, y1, y2, y3⟩ := blk4 (HX.out.bel hb2)
  clear hb2 HCK
  go_wp2_with fail
  go_region_held3 (fun w' => w'.cell? ⟨w.heap.size, 0, none⟩ = some (.int .i64 aR) ∧ w'.cell? ⟨w.heap.size, 1, none⟩ = some (.int .i64 aN) ∧ w'.cell? ⟨w.heap.size, 2, none⟩ = some (.int .i64 aS) ∧ w'.cell? ⟨w.heap.size, 3, none⟩ = some (.int .i64 aB) ∧ w'.cell? ⟨w.heap.size, 4, none⟩ = some (.int .i64 aC) ∧ w'.cell? ⟨w.heap.size, 5, none⟩ = some (.int .i64 aT) ∧ w'.cell? ⟨w.heap.size, 6, none⟩ = some (.int .i64 aU) ∧ w'.cell? ⟨w.heap.size, 7, none⟩ = some (.int .i64 aK) ∧ w'.cell? ⟨w.heap.size, 8, none⟩ = some (.int .i64 aL) ∧ w'.cell? ⟨w.heap.size, 9, none⟩ = some (.int .i64 aQ) ∧ w'.cell? ⟨w.heap.size, 10, none⟩ = some (.string aY) ∧ w'.cell? ⟨w.heap.size, 11, none⟩ = some (.string aV) ∧ w'.cell? ⟨w.heap.size, 12, none⟩ = some (.int .i64 aZ) ∧ w'.cell? ⟨w.heap.size, 13, none⟩ = some (.slice aA an ac) ∧ w'.cell? ⟨w.heap.size, 14, none⟩ = some (.int .i64 aE) ∧ w'.cell? ⟨w.heap.size, 15, none⟩ = some (.int .i64 aG)) (first | (with_reducible exact held16s HK.out HCUR.out HNE.out _ _ _ _) | (with_reducible exact held16 HK.out HCUR.out))
    (first
    | (go_at_call 36
       with_reducible refine (HAI.out _ (HRS.out.below HCUR.out)).mono ?_
       rintro e v1 ⟨V1, c1, rfl, hl1, hb1⟩
       have hnow := HCUR.out.trans (hb1.mono HCUR.out.size)
       have HL1 := Lib.hid (hl1.more (S' := fun b => W.heap.size ≤ b ∧ b < v1.heap.size) fun b hb _ => ⟨Nat.le_trans HCUR.out.size hb.1, hb.2⟩)
       have hsv := hnow.size
       replace HCUR := Lib.hid hnow
       clear HAI hb1 hnow hl1)
    | (go_at_call 32
       with_reducible refine (HFM.out v1 V1 c1 HL1.out).mono ?_
       rintro e w5 ⟨V9, c9, rfl, hl9, hb1⟩
       have hnow := HCUR.out.trans (hb1.mono HCUR.out.size)
       have HLI := Lib.hid (hl9.more (S' := fun b => W.heap.size ≤ b ∧ b < w5.heap.size) fun b hb _ => ⟨by rcases hb.1 with h | h; exact h.1; omega, hb.2⟩)
       have HBK := Lib.hid (HX.out.bel hnow)
       obtain ⟨c0, c1', c2, c3⟩ := blk4 HBK.out
       have z0 := HBK.out.soft 0
       have z1 := HBK.out.soft 1
       have z2 := HBK.out.soft 2
       have z3 := HBK.out.soft 3
       have HD := Lib.hid (HB0.out.trans (hnow.mono (by omega)))
       replace HCUR := Lib.hid hnow
       clear HFM hb1 hnow hl9))
  go_wp2_with fail
  obtain ⟨hblk2, hgr⟩ := blk4_set HBK.out (.int .i64 x.kind) (.int .u64 (x.num : Int)) (.string x.str) (.slice V9 x.kids.length c9)
  generalize (((w5.setCell ⟨w.heap.size + 1, 0, none⟩ (.int .i64 x.kind)).setCell ⟨w.heap.size + 1, 1, none⟩ (.int .u64 (x.num : Int))).setCell ⟨w.heap.size + 1, 2, none⟩ (.string x.str)).setCell ⟨w.heap.size + 1, 3, none⟩ (.slice V9 x.kids.length c9) = w9 at hblk2 hgr ⊢
  obtain ⟨d0, d1, d2, d3⟩ := blk4 hblk2
  refine bodyPost_ret (v := .tuple #[.agg #[.int .i64 x.kind, .int .u64 (x.num : Int), .string x.str, .slice V9 x.kids.length c9], .int .i64 0]) (by simp [results, Tryz.results14, go_sem, d0, d1, d2, d3]) rfl ?_
  have hs9 := hgr.size
  have e1 := HSW.out
  have hli9 := (HLI.out.grown hgr (fun b hb e => by injection e with e; omega)).more (S' := fun b => w.heap.size ≤ b ∧ b < w9.heap.size) fun b hb _ => by omega
  rw [HIT.out]
  exact ⟨V9, c9, rfl, hli9, HD.out.trans (gr_below hgr (by have := HD.out.size; omega) fun b hb => by injection hb with hb; omega)⟩
end Go.Proofs.YtbjooblaamjppaaGreat.Rk
