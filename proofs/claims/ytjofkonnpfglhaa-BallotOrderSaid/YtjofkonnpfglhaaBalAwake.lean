/-
  The document's example: awake answers true, whenever it is asked.
-/
import Derived.Test.YtjofkonnpfglhaaBalSmall
namespace Go.Proofs.Ytjofkonnpfglhaa.Bal
open Go.RowKit Mem

set_option maxHeartbeats 1000000 in
theorem awake_any (w : World) : Calls Try.prog 8 #[] w (Tells true w) := by
  have h1 := fun w => less_any (1, 0) (1, 2) w
  rw [show less (1, 0) (1, 2) = true by decide] at h1
  have h2 := fun w => less_any (1, 2) (2, 0) w
  rw [show less (1, 2) (2, 0) = true by decide] at h2
  have h3 := fun w => less_any (2, 0) (1, 0) w
  rw [show less (2, 0) (1, 0) = false by decide] at h3
  have h4 := fun w => first_any 2 w
  have h5 := fun w => right_any (2, 0) w
  rw [show right (2, 0) = true by decide] at h5
  have heq := eql_bal (0, 2) (0, 2)
  rw [decide_eq_true rfl] at heq
  have H1 := Lib.hid h1
  have H2 := Lib.hid h2
  have H3 := Lib.hid h3
  have H4 := Lib.hid h4
  have H5 := Lib.hid h5
  clear h1 h2 h3 h4 h5
  obtain ⟨ka, kb, kc, hbw⟩ := three_boxes w 23 #[.int .i64 1, .int .i64 0] #[.int .i64 1, .int .i64 2] #[.int .i64 2, .int .i64 0]
  go_enter Try.func8, Try.ntmps8
  have Hka := Lib.hid ka
  have Hkb := Lib.hid kb
  have Hkc := Lib.hid kc
  have HB := Lib.hid hbw
  clear ka kb kc hbw
  go_wp2_with fail
  obtain ⟨W, hW⟩ : ∃ W, ((w.alloc (.cells #[.int .i64 1, .int .i64 0] 23)).alloc (.cells #[.int .i64 1, .int .i64 2] 23)).alloc (.cells #[.int .i64 2, .int .i64 0] 23) = W := ⟨_, rfl⟩
  rw [hW] at Hka Hkb Hkc HB ⊢
  clear hW
  refine (H1.out _).mono ?_
  rintro e w1 ⟨rfl, hb1⟩
  have ka := Hka.out.bel hb1
  have kac0 := ka.cell 0
  have kac1 := ka.cell 1
  have kb := Hkb.out.bel hb1
  have kbc0 := kb.cell 0
  have kbc1 := kb.cell 1
  have kc := Hkc.out.bel hb1
  have kcc0 := kc.cell 0
  have kcc1 := kc.cell 1
  simp at kac0 kac1 kbc0 kbc1 kcc0 kcc1
  replace Hka := Lib.hid ka
  clear ka
  replace Hkb := Lib.hid kb
  clear kb
  replace Hkc := Lib.hid kc
  clear kc
  replace HB := Lib.hid (bel_trans HB.out hb1)
  clear hb1 H1
  go_wp2_with fail
  refine (H2.out _).mono ?_
  rintro e w2 ⟨rfl, hb1⟩
  have ka := Hka.out.bel hb1
  have kac0 := ka.cell 0
  have kac1 := ka.cell 1
  have kb := Hkb.out.bel hb1
  have kbc0 := kb.cell 0
  have kbc1 := kb.cell 1
  have kc := Hkc.out.bel hb1
  have kcc0 := kc.cell 0
  have kcc1 := kc.cell 1
  simp at kac0 kac1 kbc0 kbc1 kcc0 kcc1
  replace Hka := Lib.hid ka
  clear ka
  replace Hkb := Lib.hid kb
  clear kb
  replace Hkc := Lib.hid kc
  clear kc
  replace HB := Lib.hid (bel_trans HB.out hb1)
  clear hb1 H2
  go_wp2_with fail
  refine (H3.out _).mono ?_
  rintro e w3 ⟨rfl, hb1⟩
  have ka := Hka.out.bel hb1
  have kac0 := ka.cell 0
  have kac1 := ka.cell 1
  have kb := Hkb.out.bel hb1
  have kbc0 := kb.cell 0
  have kbc1 := kb.cell 1
  have kc := Hkc.out.bel hb1
  have kcc0 := kc.cell 0
  have kcc1 := kc.cell 1
  simp at kac0 kac1 kbc0 kbc1 kcc0 kcc1
  replace Hka := Lib.hid ka
  clear ka
  replace Hkb := Lib.hid kb
  clear kb
  replace Hkc := Lib.hid kc
  clear kc
  replace HB := Lib.hid (bel_trans HB.out hb1)
  clear hb1 H3
  go_wp2_with fail
  refine (H4.out _).mono ?_
  rintro e w4 ⟨rfl, hb1⟩
  have kc := Hkc.out.bel hb1
  have kcc0 := kc.cell 0
  have kcc1 := kc.cell 1
  simp at kcc0 kcc1
  replace Hkc := Lib.hid kc
  clear kc
  replace HB := Lib.hid (bel_trans HB.out hb1)
  clear hb1 H4
  go_wp2_with fail
  refine (H5.out _).mono ?_
  rintro e w5 ⟨rfl, hb1⟩
  replace HB := Lib.hid (bel_trans HB.out hb1)
  clear hb1 H5
  go_wp2_with fail
  go_ret
  exact ⟨rfl, HB.out⟩
end Go.Proofs.Ytjofkonnpfglhaa.Bal
