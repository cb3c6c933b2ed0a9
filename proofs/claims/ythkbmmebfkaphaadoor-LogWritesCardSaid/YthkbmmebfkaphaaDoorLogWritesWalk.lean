/-
  Texts of earlier layers, as one.
-/
import Derived.Test.YthkbmmebfkaphaaDoorLogWrite
import Derived.Test.YthkbmmebfkaphaaDoorLogAwake
import Derived.Deep.Cut
/- The law of a file that is written anew. -/
namespace Go.Proofs.YthkbmmebfkaphaaDoor.Lg
open Go.RowKit Mem Dsk

theorem ftab_arg {w w1 : World} {S : Nat → Prop} (h : Cr.Tab w) (hl : ∀ k, S k → w.heap.size ≤ k) (hb : Below w.heap.size w w1) : FTab w1 S := by
  refine ⟨h.below hb, fun hs => ?_⟩
  have h1 := World.block_lt_of_cell? _ _ (h 0 (by decide))
  have h2 := hl _ hs
  simp only at h1
  omega
/-- What came in: records, right ones, small ones. -/
theorem small_parts {w : World} {A : Option Addr} {n c : Nat} {ps : List Cr.Part} (hm : Cr.Mat w A n c ps) (hg : great (ps.map (·.bs)) = false) : (forms (ps.map (·.bs))).length ≤ 1050 ∧ Ok (ps.map (·.bs)) ∧ (∀ p ∈ ps, p.n ≤ 100) ∧ n ≤ 10 := by
  obtain ⟨h1, h2⟩ := great_no hg
  have h3 := forms_length h2
  have hl := hm.row.len
  rw [List.length_map] at hl h1
  have hn : ∀ p ∈ ps, p.n ≤ 100 := fun p hp => by
    have h := h2 p.bs (List.mem_map.2 ⟨p, hp, rfl⟩)
    have h4 := (hm.part p hp).1.len
    rw [length_cs] at h4
    omega
  refine ⟨by rw [List.length_map] at h3; omega, fun q hq => ?_, hn, by omega⟩
  obtain ⟨p, hp, rfl⟩ := List.mem_map.1 hq
  exact ⟨by have := h2 p.bs hq; omega, (hm.part p hp).2⟩
set_option maxRecDepth 20000 in
set_option maxHeartbeats 8000000 in
theorem log_writes {I : Held} (hH : Has2 I) (A B : Option Addr) (n c m d : Nat) (ps qs : List Cr.Part) (z : Nat) (keep : Int) (w : World) (ht : Cr.Tab w) (hx : Cr.Mat w A n c ps) (hy : Cr.Mat w B m d qs) (hz : z ≤ 255) :
    Calls Tryd.prog 4 #[.slice A n c, .slice B m d, .int .u8 (z : Int), .int .i64 keep] w (Tells true w) := by
  have hFr : Dsk.Frame (fun v S => FNew w v S ∧ ((FMat A n c ps v S ∧ FMat B m d qs v S) ∧ FTab v S)) := (frame_new w).and (((frame_mat A n c ps).and (frame_mat B m d qs)).and frame_tab)
  have HW := Lib.hid (fun (u : World) (h : Cr.Tab u) => lawake_any u h)
  have HG1 := Lib.hid (great_any A n c ps w hx)
  have HG2 := Lib.hid (great_any B m d qs w hy)
  have HT := Lib.hid ht
  have HX := Lib.hid hx
  have HY := Lib.hid hy
  clear ht hx hy
  obtain ⟨g1, hg1⟩ : ∃ g1, great (ps.map (·.bs)) = g1 := ⟨_, rfl⟩
  obtain ⟨g2, hg2⟩ : ∃ g2, great (qs.map (·.bs)) = g2 := ⟨_, rfl⟩
  rw [hg1] at HG1
  rw [hg2] at HG2
  go_enter Tryd.func4, Tryd.ntmps4
  go_wp2_with fail
  refine HG1.out.mono ?_
  rintro e w1 ⟨rfl, rfl⟩
  cases g1 with
  | true =>
    clear hg1 hg2
    go_wp2_with fail
    refine (HW.out w1 HT.out).mono ?_
    rintro e w2 ⟨rfl, hb⟩
    have HB := Lib.hid hb
    clear hb
    go_wp2_with fail
    go_ret
    exact ⟨rfl, HB.out⟩
  | false =>
  go_wp2_with fail
  refine HG2.out.mono ?_
  rintro e w2 ⟨rfl, rfl⟩
  cases g2 with
  | true =>
    clear hg1 hg2
    go_wp2_with fail
    refine (HW.out w2 HT.out).mono ?_
    rintro e w3 ⟨rfl, hb⟩
    have HB := Lib.hid hb
    clear hb
    go_wp2_with fail
    go_ret
    exact ⟨rfl, HB.out⟩
  | false =>
  rename World => w
  have HA := Lib.hid (small_parts HX.out hg1)
  have HBB := Lib.hid (small_parts HY.out hg2)
  clear hg1 hg2
  have HN := Lib.hid (hH.new 10000 w)
  go_wp2_with fail
  refine HN.out.mono ?_
  rintro e w3 ⟨p, S, rfl, hI, hl, hb⟩
  have HFr := Lib.hid hFr
  have HF3 := Lib.hid (show FNew w w3 S ∧ ((FMat A n c ps w3 S ∧ FMat B m d qs w3 S) ∧ FTab w3 S) from ⟨⟨hl, hb⟩, ⟨fmat_arg HX.out hl hb, fmat_arg HY.out hl hb⟩, ftab_arg HT.out hl hb⟩)
  have hw1 := write_any hH p S (newDk 10000) A n c ps w3 hI (fine_new (by decide)) HF3.out.2.2 HF3.out.2.1.1 (fun p hp => by have := HA.out.2.2.1 p hp; omega) (by have := HA.out.1; omega)
  rw [writes_first (by have := HA.out.1; omega)] at hw1
  have HW1 := Lib.hid hw1
  clear hw1 hI hl hb hFr
  unfold Dsk.ptr at *
  go_wp2_with fail
  refine HW1.out.mono ?_
  rintro e w4 ⟨rfl, S4, hI4, hg4, hk4⟩
  have HF4 := Lib.hid (HFr.out.go HF3.out hk4 hg4)
  have HI4 := Lib.hid hI4
  have HWN := Lib.hid (write_nil A n c w4)
  clear hI4 hg4 hk4
  go_wp2_with fail
  refine HWN.out.mono ?_
  rintro e w5 ⟨rfl, rfl⟩
  obtain ⟨R, hR⟩ : ∃ R : Nat, ((z : Int) % 6) = (R : Int) := ⟨z % 6, by omega⟩
  have hR6 : R < 6 := by omega
  have hfu := hH.fuse p S4 (st true (forms (ps.map (·.bs))) [] (-1) false) (R : Int) w5 HI4.out (fine_st (by have := HA.out.1; simp only [List.length_nil]; omega) (by omega))
  rw [show ({ st true (forms (ps.map (·.bs))) [] (-1) false with fuse := max (R : Int) (-1) } : Dk) = st true (forms (ps.map (·.bs))) [] (R : Int) false from by unfold st; simp only [if_true]; rw [show max (R : Int) (-1) = (R : Int) by omega]] at hfu
  have HFU := Lib.hid hfu
  clear hfu
  unfold Dsk.ptr at HFU
  go_wp2_with fail
  refine HFU.out.mono ?_
  rintro e w6 ⟨rfl, S6, hI6, hg6, hk6⟩
  have HF6 := Lib.hid (HFr.out.go HF4.out hk6 hg6)
  have hw2 := write_any hH p S6 (st true (forms (ps.map (·.bs))) [] (R : Int) false) B m d qs w6 hI6 (fine_st (by have := HA.out.1; simp only [List.length_nil]; omega) (by omega)) HF6.out.2.2 HF6.out.2.1.2 (fun p hp => by have := HBB.out.2.2.1 p hp; omega) (by have := HBB.out.1; omega)
  obtain ⟨r, d2, hr, hbt, hf1, hf2, hend⟩ := writes_end (A := forms (ps.map (·.bs))) (b := forms (qs.map (·.bs))) (by have := HA.out.1; have := HBB.out.1; omega) hR6 keep
  rw [hr] at hw2
  have HW2 := Lib.hid hw2
  have HBT := Lib.hid (And.intro hbt (And.intro hf1 hf2))
  have HEND := Lib.hid hend
  clear hw2 hI6 hg6 hk6 hr hbt hf1 hf2 hend hR
  unfold Dsk.ptr at HW2
  go_wp2_with fail
  refine HW2.out.mono ?_
  rintro e w7 ⟨rfl, hst⟩
  obtain ⟨S7, hI7, hg7, hk7⟩ := hst
  have HM7 := Lib.hid (show Mine I (fun v S => FNew w v S ∧ ((FMat A n c ps v S ∧ FMat B m d qs v S) ∧ FTab v S)) w7 p r.2 from ⟨S7, hI7, HFr.out.go HF6.out hk7 hg7⟩)
  clear hI7 hg7 hk7
  obtain ⟨S8, hI8, hF8, hn8⟩ := Mine.lit2 HM7.out hH HFr.out (.cells #[.int .i64 keep] 3)
  have hbo := hH.boot p S8 r.2 (some ⟨w7.heap.size, 0, none⟩) 1 1 [keep] _ hI8 HBT.out.2.1 (Rd.lit w7 (vs [keep]) 3 1 rfl (by unfold maxLen; decide)) (outs_lit hn8)
  rw [HBT.out.1] at hbo
  have HBO := Lib.hid hbo
  have HF8 := Lib.hid hF8
  clear hI8 hF8 hn8 hbo
  unfold Dsk.ptr at HBO
  go_wp2_with fail
  refine HBO.out.mono ?_
  rintro e w9 ⟨rfl, S9, hI9, hg9, hk9⟩
  have HF9 := Lib.hid (HFr.out.go HF8.out hk9 hg9)
  have HI9 := Lib.hid hI9
  clear hI9 hg9 hk9
  obtain ⟨r1, r2⟩ := r
  simp only at HEND
  rcases HEND.out with ⟨e0, hrd⟩ | ⟨e0, hrd⟩
  · subst e0
    have hop := open_any hH p S9 d2 d2 nlog (forms (qs.map (·.bs))) (qs.map (·.bs)) [] w9 HI9.out HBT.out.2.2 HF9.out.2.2 (by decide) (.inl hrd) HBB.out.2.1.lt (by have := HBB.out.1; omega) (reads_forms HBB.out.2.1) (fun _ => rfl) (fun h => absurd rfl h)
    have HOP := Lib.hid hop
    clear hop hrd
    unfold Dsk.ptr at HOP
    simp only
    go_wp2_with fail
    refine HOP.out.mono ?_
    rintro e w10 ⟨g, V, k, rs, rfl, S10, hI10, hg10, hk10, hfl, hfm, hrs⟩
    have HF10 := Lib.hid (HFr.out.go HF9.out hk10 hg10)
    have hsm := sameall_any V (qs.map (·.bs)).length k rs B m d qs w10 hfm.mat HF10.out.2.1.2.mat
    rw [decide_eq_true hrs] at hsm
    obtain ⟨lq, hlq⟩ : ∃ lq, (qs.map (·.bs)).length = lq := ⟨_, rfl⟩
    rw [hlq] at hsm ⊢
    clear hlq
    have HSM := Lib.hid hsm
    clear hsm hfm hfl hI10 hg10 hk10 hrs
    go_wp2_with fail
    refine HSM.out.mono ?_
    rintro e w11 ⟨rfl, q, hq⟩
    have hb11 : Below w10.heap.size w10 w11 := by rw [hq]; exact below_drewN (Below.refl _ _) q
    have HB11 := Lib.hid (HF10.out.1.2.trans (hb11.mono HF10.out.1.2.size))
    clear hq hb11
    go_wp2_with fail
    refine (HW.out w11 (HT.out.below HB11.out)).mono ?_
    rintro e w12 ⟨rfl, hb⟩
    have HB := Lib.hid (HB11.out.trans (hb.mono HB11.out.size))
    clear hb
    go_wp2_with fail
    go_ret
    exact ⟨rfl, HB.out⟩
  · subst e0
    have hop := open_any hH p S9 d2 d2 nlog (forms (ps.map (·.bs))) (ps.map (·.bs)) [] w9 HI9.out HBT.out.2.2 HF9.out.2.2 (by decide) (.inl hrd) HA.out.2.1.lt (by have := HA.out.1; omega) (reads_forms HA.out.2.1) (fun _ => rfl) (fun h => absurd rfl h)
    have HOP := Lib.hid hop
    clear hop hrd
    unfold Dsk.ptr at HOP
    simp only
    go_wp2_with fail
    refine HOP.out.mono ?_
    rintro e w10 ⟨g, V, k, rs, rfl, S10, hI10, hg10, hk10, hfl, hfm, hrs⟩
    have HF10 := Lib.hid (HFr.out.go HF9.out hk10 hg10)
    have hsm := sameall_any V (ps.map (·.bs)).length k rs B m d qs w10 hfm.mat HF10.out.2.1.2.mat
    obtain ⟨D, hD⟩ : ∃ D, decide (rs.map (·.bs) = qs.map (·.bs)) = D := ⟨_, rfl⟩
    rw [hD] at hsm
    have hfm2 := hfm.mat
    obtain ⟨lq, hlq⟩ : ∃ lq, (ps.map (·.bs)).length = lq := ⟨_, rfl⟩
    rw [hlq] at hsm hfm2 ⊢
    clear hlq
    have HSM := Lib.hid hsm
    have HFM := Lib.hid (And.intro hfm2 hrs)
    clear hsm hfm hfm2 hfl hI10 hg10 hk10 hrs hD
    go_wp2_with fail
    refine HSM.out.mono ?_
    rintro e w11 ⟨rfl, q, hq⟩
    have hb1 : Below w10.heap.size w10 w11 := by rw [hq]; exact below_drewN (Below.refl _ _) q
    have HB1 := Lib.hid hb1
    have HB11 := Lib.hid (HF10.out.1.2.trans (hb1.mono HF10.out.1.2.size))
    clear hq hb1
    cases D with
    | true =>
      go_wp2_with fail
      refine (HW.out w11 (HT.out.below HB11.out)).mono ?_
      rintro e w12 ⟨rfl, hb⟩
      have HB := Lib.hid (HB11.out.trans (hb.mono HB11.out.size))
      clear hb
      go_wp2_with fail
      go_ret
      exact ⟨rfl, HB.out⟩
    | false =>
      have hsm2 := sameall_any V lq k rs A n c ps w11 (HFM.out.1.below HB1.out) ((HX.out).below HB11.out)
      rw [decide_eq_true HFM.out.2] at hsm2
      have HSM2 := Lib.hid hsm2
      clear hsm2
      go_wp2_with fail
      refine HSM2.out.mono ?_
      rintro e w13 ⟨rfl, q, hq⟩
      have hb13 : Below w11.heap.size w11 w13 := by rw [hq]; exact below_drewN (Below.refl _ _) q
      have HB13 := Lib.hid (HB11.out.trans (hb13.mono HB11.out.size))
      clear hq hb13
      go_wp2_with fail
      refine (HW.out w13 (HT.out.below HB13.out)).mono ?_
      rintro e w12 ⟨rfl, hb⟩
      have HB := Lib.hid (HB13.out.trans (hb.mono HB13.out.size))
      clear hb
      go_wp2_with fail
      go_ret
      exact ⟨rfl, HB.out⟩
end Go.Proofs.YthkbmmebfkaphaaDoor.Lg
