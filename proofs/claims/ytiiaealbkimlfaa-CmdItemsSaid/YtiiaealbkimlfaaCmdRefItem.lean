/-
  The document's Item of a right command: in memory of the call's own.
-/
import Derived.Test.YtiiaealbkimlfaaCmdItem
import Derived.Test.YtiiaealbkimlfaaCmdCheck
import Derived.Test.YtiiaealbkimlfaaCodRefMake
import Derived.Test.YtiiaealbkimlfaaCodList
import Derived.Deep.RegionHeld3
namespace Go.Proofs.Ytiiaealbkimlfaa
open Go.RowKit Mem Cmd Cod


set_option maxRecDepth 100000 in
set_option maxHeartbeats 4000000 in
theorem refcmitem_any (kd cl sq : Int) (ky vl : ByteArray) (rv : Int) (w : World) (hc : Cmd.chk ⟨kd, cl, sq, ky, vl, rv⟩ = 0) :
    Calls Try.prog 19 #[.agg #[.int .i64 kd, .int .i64 cl, .int .i64 sq, .string ky, .string vl, .int .i64 rv]] w (GivesIt w (cmIt ⟨kd, cl, sq, ky, vl, rv⟩)) := by
  obtain ⟨W, hW⟩ : ∃ W, (w.alloc (.cells #[.int .i64 kd, .int .i64 cl, .int .i64 sq, .string ky, .string vl, .int .i64 rv] 23)).alloc (.cells #[.int .i64 0, .int .u64 0, .string ⟨#[]⟩, .slice none 0 0] 33) = W := ⟨_, rfl⟩
  obtain ⟨k1, k2, kb, hsW⟩ := two_kinds w _ _ _ _ W hW
  have HK1 := Lib.hid k1
  have HBX := Lib.hid k2
  have HB0 := Lib.hid kb
  have HW := Lib.hid hW
  obtain ⟨p0, p1, p2, p3, p4, p5⟩ := blk6 k1
  obtain ⟨y0, y1, y2, y3⟩ := blk4 k2
  have HCH := Lib.hid hc
  obtain ⟨b1, b2, b3, b4, b5, b6⟩ := chk_right hc
  simp only at b1 b2 b3 b4 b5 b6
  have HSZ := Lib.hid (show wts (parts ⟨kd, cl, sq, ky, vl, rv⟩) ≤ 100000 by rw [wts_parts]; simp only; omega)
  have H0 := Lib.hid (refnum_any kd b1.1 (by omega))
  have H1 := Lib.hid (refnum_any cl b2.1 (by omega))
  have H2 := Lib.hid (refnum_any sq b3.1 (by omega))
  have H3 := Lib.hid (fun w => reftext_any ky w)
  have H4 := Lib.hid (fun w => reftext_any vl w)
  have H5 := Lib.hid (refnum_any rv b4.1 (by omega))
  clear hc b1 b2 b3 b4 b5 b6
  have HCUR := Lib.hid (Below.drew (Below.refl W.heap.size W))
  clear k1 k2 kb hW
  go_enter Try.func19, Try.ntmps19
  go_wp2_with fail
  rw [HW.out]
  go_region_held3 (fun w' => w'.cell? ⟨w.heap.size, 0, none⟩ = some (.int .i64 kd) ∧ w'.cell? ⟨w.heap.size, 1, none⟩ = some (.int .i64 cl) ∧ w'.cell? ⟨w.heap.size, 2, none⟩ = some (.int .i64 sq) ∧ w'.cell? ⟨w.heap.size, 3, none⟩ = some (.string ky) ∧ w'.cell? ⟨w.heap.size, 4, none⟩ = some (.string vl) ∧ w'.cell? ⟨w.heap.size, 5, none⟩ = some (.int .i64 rv)) (first | (with_reducible exact held6a HK1.out HCUR.out _) | (with_reducible exact held6 HK1.out HCUR.out) | (with_reducible exact HLAST.out _ _ _ _))
    (first
    | (go_at_call 34
       refine (H0.out _).mono ?_
       rintro e v1 ⟨rfl, hb1⟩
       have hnow := HCUR.out.trans (hb1.mono HCUR.out.size)
       replace HCUR := Lib.hid hnow
       clear H0 hb1 hnow)
    | (go_at_call 34
       refine (H1.out _).mono ?_
       rintro e v1 ⟨rfl, hb1⟩
       have hnow := HCUR.out.trans (hb1.mono HCUR.out.size)
       replace HCUR := Lib.hid hnow
       clear H1 hb1 hnow)
    | (go_at_call 34
       refine (H2.out _).mono ?_
       rintro e v1 ⟨rfl, hb1⟩
       have hnow := HCUR.out.trans (hb1.mono HCUR.out.size)
       replace HCUR := Lib.hid hnow
       clear H2 hb1 hnow)
    | (go_at_call 35
       refine (H3.out _).mono ?_
       rintro e v1 ⟨rfl, hb1⟩
       have hnow := HCUR.out.trans (hb1.mono HCUR.out.size)
       replace HCUR := Lib.hid hnow
       clear H3 hb1 hnow)
    | (go_at_call 35
       refine (H4.out _).mono ?_
       rintro e v1 ⟨rfl, hb1⟩
       have hnow := HCUR.out.trans (hb1.mono HCUR.out.size)
       replace HCUR := Lib.hid hnow
       clear H4 hb1 hnow)
    | (go_at_call 34
       refine (H5.out _).mono ?_
       rintro e v1 ⟨rfl, hb1⟩
       have hnow := HCUR.out.trans (hb1.mono HCUR.out.size)
       replace HCUR := Lib.hid hnow
       clear H5 hb1 hnow)
    | (go_at_call 33
       refine (reflist_any _ 6 6 _).mono ?_
       rintro e w5 ⟨rfl, hb5⟩
       have hs6 := size_alloc v1 (.cells #[.int .i64 0, .int .u64 kd, .string ByteArray.empty, .slice none 0 0, .int .i64 0, .int .u64 cl, .string ByteArray.empty, .slice none 0 0, .int .i64 0, .int .u64 sq, .string ByteArray.empty, .slice none 0 0, .int .i64 1, .int .u64 0, .string ky, .slice none 0 0, .int .i64 1, .int .u64 0, .string vl, .slice none 0 0, .int .i64 0, .int .u64 rv, .string ByteArray.empty, .slice none 0 0] 33)
       have hs5 := hb5.size
       have hr5 := (hung6_row HCH.out v1 33).below hb5 (fun b hb => by have := size_alloc v1 (.cells #[.int .i64 0, .int .u64 kd, .string ByteArray.empty, .slice none 0 0, .int .i64 0, .int .u64 cl, .string ByteArray.empty, .slice none 0 0, .int .i64 0, .int .u64 sq, .string ByteArray.empty, .slice none 0 0, .int .i64 1, .int .u64 0, .string ky, .slice none 0 0, .int .i64 1, .int .u64 0, .string vl, .slice none 0 0, .int .i64 0, .int .u64 rv, .string ByteArray.empty, .slice none 0 0] 33); omega)
       have hsv := HCUR.out.size
       have hnow := (HCUR.out.alloc HCUR.out.size (.cells #[.int .i64 0, .int .u64 kd, .string ByteArray.empty, .slice none 0 0, .int .i64 0, .int .u64 cl, .string ByteArray.empty, .slice none 0 0, .int .i64 0, .int .u64 sq, .string ByteArray.empty, .slice none 0 0, .int .i64 1, .int .u64 0, .string ky, .slice none 0 0, .int .i64 1, .int .u64 0, .string vl, .slice none 0 0, .int .i64 0, .int .u64 rv, .string ByteArray.empty, .slice none 0 0] 33)).trans (hb5.mono (by omega))
       have hblk := HBX.out.bel hnow
       obtain ⟨c0, c1, c2, c3⟩ := blk4 hblk
       have z0 := hblk.soft 0
       have z1 := hblk.soft 1
       have z2 := hblk.soft 2
       have z3 := hblk.soft 3
       have HR5 := Lib.hid hr5
       have HB5 := Lib.hid hnow
       replace HCUR := Lib.hid hnow
       have HKB := Lib.hid hblk
       have hs7 : W.heap.size ≤ v1.heap.size := hsv
       have HVV := Lib.hid (And.intro hs6 (And.intro hs5 hs7))
       obtain ⟨p0, p1, p2, p3, p4, p5⟩ := blk6 (HK1.out.bel hnow)
       have HLAST := Lib.hid (show ∀ (x0 x1 x2 x3 : Value), _ from fun x0 x1 x2 x3 => blk6 (((((HK1.out.bel hnow).far (p := ⟨w.heap.size + 1, 0, none⟩) (by simp) x0).far (p := ⟨w.heap.size + 1, 1, none⟩) (by simp) x1).far (p := ⟨w.heap.size + 1, 2, none⟩) (by simp) x2).far (p := ⟨w.heap.size + 1, 3, none⟩) (by simp) x3))
       clear hr5 hb5 hnow hblk hs6 hs5 hsv hs7))
  go_wp2_with fail
  obtain ⟨hblk2, hgr⟩ := blk4_set HKB.out (.int .i64 2) (.int .u64 0) (.string ByteArray.empty) (.slice (some ⟨v1.heap.size, 0, none⟩) 6 6)
  generalize (((w5.setCell ⟨w.heap.size + 1, 0, none⟩ (.int .i64 2)).setCell ⟨w.heap.size + 1, 1, none⟩ (.int .u64 0)).setCell ⟨w.heap.size + 1, 2, none⟩ (.string ByteArray.empty)).setCell ⟨w.heap.size + 1, 3, none⟩ (.slice (some ⟨v1.heap.size, 0, none⟩) 6 6) = w9 at hblk2 hgr ⊢
  obtain ⟨d0, d1, d2, d3⟩ := blk4 hblk2
  refine bodyPost_ret (v := .agg #[.int .i64 2, .int .u64 0, .string ByteArray.empty, .slice (some ⟨v1.heap.size, 0, none⟩) 6 6]) (by simp [results, Try.results19, go_sem, d0, d1, d2, d3]) rfl ?_
  obtain ⟨e1, e2, e3⟩ := HVV.out
  have hs9 := hgr.size
  have hrow9 : Cod.Row w9 (fun b => b < w9.heap.size) (some ⟨v1.heap.size, 0, none⟩) 6 6 (parts ⟨kd, cl, sq, ky, vl, rv⟩) := (HR5.out.grown hgr (fun b hb e => by injection e with e; omega)).more fun b hb _ => by omega
  refine ⟨(some ⟨v1.heap.size, 0, none⟩), 6, rfl, hrow9.lies (by omega) (by omega) (by decide), ?_⟩
  exact (HB0.out.trans (HB5.out.mono (by omega))).trans (gr_below hgr (by have := HB5.out.size; omega) fun b hb => by injection hb with hb; omega)
end Go.Proofs.Ytiiaealbkimlfaa
