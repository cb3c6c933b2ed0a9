/-
  attr.Old: the old form, in memory of the call's own.
-/
import Derived.Test.YtccbkpdkmdnmfaaAttItem
namespace Go.Proofs.Ytccbkpdkmdnmfaa
open Go.RowKit Mem Ids Att Cod


set_option maxRecDepth 100000 in
set_option maxHeartbeats 4000000 in
theorem attold_any (l : List (Int × Int)) (s t : Int) (A : Option Addr) (n c : Nat) (w : World) (hr : Rs w A n c l) :
    Calls Try.prog 15 #[.agg #[.slice A n c, .int .i64 s, .int .i64 t]] w (GivesOld w (attOld ⟨l, s, t⟩)) := by
  obtain ⟨W, hW⟩ : ∃ W, (w.alloc (.cells #[.slice A n c, .int .i64 s, .int .i64 t] 24)).alloc (.cells #[.int .i64 0, .int .u64 0, .string ⟨#[]⟩, .slice none 0 0] 37) = W := ⟨_, rfl⟩
  obtain ⟨k1, k2, kb, hsW⟩ := two_kinds w _ _ _ _ W hW
  have HK1 := Lib.hid k1
  have HBX := Lib.hid k2
  have HB0 := Lib.hid kb
  have HW := Lib.hid hW
  have HRS := Lib.hid (hr.below kb)
  obtain ⟨p0, p1, p2⟩ := blk3 k1
  obtain ⟨y0, y1, y2, y3⟩ := blk4 k2
  have hck := acheck_any l s t A n c W (hr.below kb)
  clear k1 k2 kb hW hr
  go_enter Try.func15, Try.ntmps15
  go_wp2_with fail
  rw [HW.out]
  by_cases hc : achk ⟨l, s, t⟩ = 0
  case neg =>
    have hit : attOld ⟨l, s, t⟩ = (zeroIt, 4) := by rw [attOld, if_neg hc]
    have HIT := Lib.hid hit
    generalize achk ⟨l, s, t⟩ = v at hck hc
    have hne : (v != 0) = true := by simpa using hc
    have HCK := Lib.hid hck
    clear hck hit hc p0 p1 p2 y0 y1 y2 y3
    refine HCK.out.mono ?_
    rintro e w2 ⟨rfl, hb2⟩
    have hblk := HBX.out.bel hb2
    have HB2 := Lib.hid (bel_trans HB0.out hb2)
    obtain ⟨c0, c1, c2, c3⟩ := blk4 hblk
    have z0 := hblk.soft 0
    have z1 := hblk.soft 1
    have z2 := hblk.soft 2
    have z3 := hblk.soft 3
    have hs2 := hb2.size
    clear hb2
    go_wp2_with fail
    obtain ⟨hblk2, hgr⟩ := blk4_set hblk (.int .i64 0) (.int .u64 0) (.string ⟨#[]⟩) (.slice none 0 0)
    generalize (((w2.setCell ⟨w.heap.size + 1, 0, none⟩ (.int .i64 0)).setCell ⟨w.heap.size + 1, 1, none⟩ (.int .u64 0)).setCell ⟨w.heap.size + 1, 2, none⟩ (.string ⟨#[]⟩)).setCell ⟨w.heap.size + 1, 3, none⟩ (.slice none 0 0) = w9 at hblk2 hgr ⊢
    obtain ⟨d0, d1, d2, d3⟩ := blk4 hblk2
    refine bodyPost_ret (v := .tuple #[.agg #[.int .i64 0, .int .u64 0, .string ByteArray.empty, .slice none 0 0], .int .i64 4]) (by simp [results, Try.results15, go_sem, d0, d1, d2, d3]; rfl) rfl ?_
    rw [HIT.out]
    exact ⟨none, 0, rfl, lies_leaf _ _ (by omega) (by omega) (by decide), HB2.out.trans (gr_below hgr (by omega) fun b hb => by cases hb; omega)⟩
  rw [hc] at hck
  by_cases ht : t = 1
  case neg =>
    have hit : attOld ⟨l, s, t⟩ = (zeroIt, 17) := by rw [attOld, if_pos hc, if_neg ht]
    have HIT := Lib.hid hit
    have hne : (t != 1) = true := by simpa using ht
    have HCK := Lib.hid hck
    clear hck hit hc ht p0 p1 p2 y0 y1 y2 y3
    refine HCK.out.mono ?_
    rintro e w2 ⟨rfl, hb2⟩
    obtain ⟨p0, p1, p2⟩ := blk3 (HK1.out.bel hb2)
    have hblk := HBX.out.bel hb2
    have HB2 := Lib.hid (bel_trans HB0.out hb2)
    obtain ⟨c0, c1, c2, c3⟩ := blk4 hblk
    have z0 := hblk.soft 0
    have z1 := hblk.soft 1
    have z2 := hblk.soft 2
    have z3 := hblk.soft 3
    have hs2 := hb2.size
    clear hb2
    go_wp2_with fail
    obtain ⟨hblk2, hgr⟩ := blk4_set hblk (.int .i64 0) (.int .u64 0) (.string ⟨#[]⟩) (.slice none 0 0)
    generalize (((w2.setCell ⟨w.heap.size + 1, 0, none⟩ (.int .i64 0)).setCell ⟨w.heap.size + 1, 1, none⟩ (.int .u64 0)).setCell ⟨w.heap.size + 1, 2, none⟩ (.string ⟨#[]⟩)).setCell ⟨w.heap.size + 1, 3, none⟩ (.slice none 0 0) = w9 at hblk2 hgr ⊢
    obtain ⟨d0, d1, d2, d3⟩ := blk4 hblk2
    refine bodyPost_ret (v := .tuple #[.agg #[.int .i64 0, .int .u64 0, .string ByteArray.empty, .slice none 0 0], .int .i64 17]) (by simp [results, Try.results15, go_sem, d0, d1, d2, d3]; rfl) rfl ?_
    rw [HIT.out]
    exact ⟨none, 0, rfl, lies_leaf _ _ (by omega) (by omega) (by decide), HB2.out.trans (gr_below hgr (by omega) fun b hb => by cases hb; omega)⟩
  subst ht
  have hit : attOld ⟨l, s, 1⟩ = (oldIt ⟨l, s, 1⟩, 0) := by rw [attOld, if_pos hc, if_pos rfl]
  have HIT := Lib.hid hit
  have HCK := Lib.hid hck
  clear hit hck
  have HCH := Lib.hid hc
  obtain ⟨b0, b1, b2, b3⟩ := achk_sq hc
  simp only at b0 b1 b2 b3
  have HSZ := Lib.hid ((wts_three hc).2)
  have HI := Lib.hid (fun w (h : Rs w A n c l) => setitem_any l A n c w h (achk_zero.1 hc).2.2)
  have H1 := Lib.hid (num_any s)
  have u1 : IntKind.u64.wrap s = s := u64_in (by omega) (by omega)
  clear hc b0 b1 b2 b3
  refine HCK.out.mono ?_
  rintro e w2 ⟨rfl, hb2⟩
  have HCUR := Lib.hid (Below.drew hb2)
  obtain ⟨p0, p1, p2⟩ := blk3 (HK1.out.bel hb2)
  obtain ⟨y0, y1, y2, y3⟩ := blk4 (HBX.out.bel hb2)
  clear hb2 HCK
  go_wp2_with fail
  go_region_held3 (fun w' => w'.cell? ⟨w.heap.size, 0, none⟩ = some (.slice A n c) ∧ w'.cell? ⟨w.heap.size, 1, none⟩ = some (.int .i64 s) ∧ w'.cell? ⟨w.heap.size, 2, none⟩ = some (.int .i64 1)) (first | (with_reducible exact held3a HK1.out HCUR.out _) | (with_reducible exact held3 HK1.out HCUR.out) | (with_reducible exact HLAST.out _ _ _ _))
    (first
    | (go_at_call 34
       refine (H1.out _).mono ?_
       rintro e v1 ⟨rfl, hb1⟩
       have hnow := HCUR.out.trans (hb1.mono HCUR.out.size)
       replace HCUR := Lib.hid hnow
       clear H1 hb1 hnow)
    | (go_at_call 35
       refine (HI.out _ (HRS.out.below HCUR.out)).mono ?_
       rintro e v1 ⟨VI, cI, rfl, hli, hb1⟩
       have hnow := HCUR.out.trans (hb1.mono HCUR.out.size)
       have HLI := Lib.hid (hli.more (S' := fun b => W.heap.size ≤ b ∧ b < v1.heap.size) fun b hb _ => ⟨Nat.le_trans HCUR.out.size hb.1, hb.2⟩)
       replace HCUR := Lib.hid hnow
       clear HI hb1 hnow hli)
    | (go_at_call 33
       refine (list_more _ 2 2 _ [numIt s, setIt l] _ (row_of2 HCH.out v1 37 VI cI _ HCUR.out.size HLI.out) (fun b hb => by have := size_alloc v1 (.cells #[.int .i64 0, .int .u64 s, .string ByteArray.empty, .slice none 0 0, .int .i64 2, .int .u64 0, .string ByteArray.empty, .slice VI (l.length * 2) cI] 37); omega) HSZ.out).mono ?_
       rintro e w5 ⟨V5, c5, rfl, hr5, hb5⟩
       have hs6 := size_alloc v1 (.cells #[.int .i64 0, .int .u64 s, .string ByteArray.empty, .slice none 0 0, .int .i64 2, .int .u64 0, .string ByteArray.empty, .slice VI (l.length * 2) cI] 37)
       have hs5 := hb5.size
       have hsv := HCUR.out.size
       have hnow := (HCUR.out.alloc HCUR.out.size (.cells #[.int .i64 0, .int .u64 s, .string ByteArray.empty, .slice none 0 0, .int .i64 2, .int .u64 0, .string ByteArray.empty, .slice VI (l.length * 2) cI] 37)).trans (hb5.mono (by omega))
       have hblk := HBX.out.bel hnow
       obtain ⟨c0, c1, c2, c3⟩ := blk4 hblk
       have z0 := hblk.soft 0
       have z1 := hblk.soft 1
       have z2 := hblk.soft 2
       have z3 := hblk.soft 3
       have HR5 := Lib.hid hr5
       have HB5 := Lib.hid hnow
       replace HCUR := Lib.hid hnow
       have HKB := Lib.hid hblk
       have hs7 : W.heap.size ≤ v1.heap.size := hsv
       have HVV := Lib.hid (And.intro hs6 (And.intro hs5 hs7))
       have HLAST := Lib.hid (show ∀ (x0 x1 x2 x3 : Value), _ from fun x0 x1 x2 x3 => blk3 (((((HK1.out.bel hnow).far (p := ⟨w.heap.size + 1, 0, none⟩) (by simp) x0).far (p := ⟨w.heap.size + 1, 1, none⟩) (by simp) x1).far (p := ⟨w.heap.size + 1, 2, none⟩) (by simp) x2).far (p := ⟨w.heap.size + 1, 3, none⟩) (by simp) x3))
       clear hr5 hb5 hnow hblk hs6 hs5 hsv hs7))
  go_wp2_with fail
  obtain ⟨hblk2, hgr⟩ := blk4_set HKB.out (.int .i64 2) (.int .u64 0) (.string ByteArray.empty) (.slice V5 2 c5)
  generalize (((w5.setCell ⟨w.heap.size + 1, 0, none⟩ (.int .i64 2)).setCell ⟨w.heap.size + 1, 1, none⟩ (.int .u64 0)).setCell ⟨w.heap.size + 1, 2, none⟩ (.string ByteArray.empty)).setCell ⟨w.heap.size + 1, 3, none⟩ (.slice V5 2 c5) = w9 at hblk2 hgr ⊢
  obtain ⟨d0, d1, d2, d3⟩ := blk4 hblk2
  refine bodyPost_ret (v := .tuple #[.agg #[.int .i64 2, .int .u64 0, .string ByteArray.empty, .slice V5 2 c5], .int .i64 0]) (by simp [results, Try.results15, go_sem, d0, d1, d2, d3]) rfl ?_
  obtain ⟨e1, e2, e3⟩ := HVV.out
  have hs9 := hgr.size
  have hrow9 : Cod.Row w9 (fun b => w.heap.size ≤ b ∧ b < w9.heap.size) V5 2 c5 [numIt s, setIt l] := (HR5.out.grown hgr (fun b hb e => by injection e with e; omega)).more fun b hb _ => by omega
  rw [HIT.out]
  refine ⟨V5, c5, rfl, hrow9.lies (by omega) (by omega) (by decide), ?_⟩
  exact (HB0.out.trans (HB5.out.mono (by omega))).trans (gr_below hgr (by have := HB5.out.size; omega) fun b hb => by injection hb with hb; omega)
end Go.Proofs.Ytccbkpdkmdnmfaa
