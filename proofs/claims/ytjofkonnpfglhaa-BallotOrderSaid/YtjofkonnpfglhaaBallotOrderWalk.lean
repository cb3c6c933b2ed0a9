/-
  The walk of the statement BallotOrder.
-/
import Derived.Test.YtjofkonnpfglhaaBalAwake
import Derived.Test.YtjofkonnpfglhaaQuiet
import Derived.Deep.Cut
namespace Go.Proofs.Ytjofkonnpfglhaa.Bal
open Go.RowKit Mem

set_option maxHeartbeats 4000000 in
theorem ballotorder_true (a b c : Int × Int) (y : Int) (w : World) (h1 : -9223372036854775808 ≤ a.1) (h2 : a.1 ≤ 9223372036854775807) :
    Calls Try.prog 3 #[.agg #[.int .i64 a.1, .int .i64 a.2], .agg #[.int .i64 b.1, .int .i64 b.2], .agg #[.int .i64 c.1, .int .i64 c.2], .int .i64 y] w (Tells true w) := by
  obtain ⟨ka, kb, kc, hbw⟩ := three_boxes w 23 #[.int .i64 a.1, .int .i64 a.2] #[.int .i64 b.1, .int .i64 b.2] #[.int .i64 c.1, .int .i64 c.2]
  obtain ⟨W, hW⟩ : ∃ W, W = ((w.alloc (.cells #[.int .i64 a.1, .int .i64 a.2] 23)).alloc (.cells #[.int .i64 b.1, .int .i64 b.2] 23)).alloc (.cells #[.int .i64 c.1, .int .i64 c.2] 23) := ⟨_, rfl⟩
  rw [← hW] at ka kb kc hbw
  have HB := Lib.hid hbw
  have HNX := Lib.hid (fun W => next_any a y W h1 h2)
  clear hbw h1 h2
  go_enter Try.func3, Try.ntmps3
  go_wp2_with fail
  rw [← hW]
  clear hW
  have a0 := fun p : BelBy W => p.cell (a := ⟨w.heap.size, 0, none⟩) ka.lt (ka.cell 0)
  have a1 := fun p : BelBy W => p.cell (a := ⟨w.heap.size, 1, none⟩) ka.lt (ka.cell 1)
  have b0 := fun p : BelBy W => p.cell (a := ⟨w.heap.size + 1, 0, none⟩) kb.lt (kb.cell 0)
  have b1 := fun p : BelBy W => p.cell (a := ⟨w.heap.size + 1, 1, none⟩) kb.lt (kb.cell 1)
  have H1 := Lib.hid (fun W => less_any a b W)
  have H2 := Lib.hid (fun W => less_any b a W)
  have HKA := Lib.hid ka
  have HKB := Lib.hid kb
  have HKC := Lib.hid kc
  clear ka kb kc
  obtain ⟨x, hx⟩ : ∃ x, less a b = x := ⟨_, rfl⟩
  obtain ⟨z, hz⟩ : ∃ z, less b a = z := ⟨_, rfl⟩
  rw [hx] at H1
  rw [hz] at H2
  have HXY := Lib.hid (And.intro hx hz)
  clear hx hz
  refine wp_region_bel (by kernel_rfl) (by kernel_rfl) ?_
  repeat (first | ((with_reducible refine wpQuiet_skip ?_ ?_); (focus rfl); simp only [Act.put, List.setIfInBounds_toArray, List.set_cons_zero, List.set_cons_succ]) | ((with_reducible refine wpQuiet_step (fun K hK => ?_)); go_simp; (with_reducible refine hK _ ?_); clear hK K))
  with_reducible refine wpQuiet_step (fun K hK => ?_)
  go_simp
  apply Exists.intro
  refine ⟨fun _ => ?_, hK _ ?_⟩
  exact Calls.bel_tells (H1.out _)
  clear hK K
  repeat (first | ((with_reducible refine wpQuiet_skip ?_ ?_); (focus rfl); simp only [Act.put, List.setIfInBounds_toArray, List.set_cons_zero, List.set_cons_succ]) | ((with_reducible refine wpQuiet_step (fun K hK => ?_)); go_simp; (with_reducible refine hK _ ?_); clear hK K))
  with_reducible refine wpQuiet_step (fun K hK => ?_)
  go_simp
  apply Exists.intro
  refine ⟨fun _ => ?_, hK _ ?_⟩
  exact Calls.bel_tells (H2.out _)
  clear hK K
  repeat (first | ((with_reducible refine wpQuiet_skip ?_ ?_); (focus rfl); simp only [Act.put, List.setIfInBounds_toArray, List.set_cons_zero, List.set_cons_succ]) | ((with_reducible refine wpQuiet_step (fun K hK => ?_)); go_simp; (with_reducible refine hK _ ?_); clear hK K))
  with_reducible refine wpQuiet_nil ?_
  intro W9 hw'
  obtain ⟨p9, hp9⟩ := hw'
  have hW9 := p9.h
  rw [← hp9] at hW9
  clear hp9 p9
  have HW9 := Lib.hid hW9
  clear hW9 a0 a1 b0 b1
  go_upto_region 2 with fail
  go_cut [49] from 19 (fun cv wx => cv = .bool false ∧ Below W.heap.size W wx)
  case first =>
    have f0 := (HKA.out.bel HW9.out).cell 0
    have f1 := (HKA.out.bel HW9.out).cell 1
    have d0 := (HKB.out.bel HW9.out).cell 0
    have d1 := (HKB.out.bel HW9.out).cell 1
    have e0 := (HKC.out.bel HW9.out).cell 0
    have e1 := (HKC.out.bel HW9.out).cell 1
    simp at d0 d1 e0 e1 f0 f1
    cases x with
    | true =>
      cases z with
      | true =>
        have h1 := less_asymm HXY.out.1
        rw [HXY.out.2] at h1
        cases h1
      | false =>
        have hl3 := less_any b c W9
        cases hbc : less b c with
        | true =>
          rw [hbc] at hl3
          have HAC := Lib.hid (less_trans HXY.out.1 hbc)
          have HL3 := Lib.hid hl3
          clear hl3 hbc H1 H2 HNX
          go_wp2_with fail
          refine HL3.out.mono ?_
          rintro e Wy ⟨rfl, hby⟩
          have f0 := (HKA.out.bel (bel_trans HW9.out hby)).cell 0
          have f1 := (HKA.out.bel (bel_trans HW9.out hby)).cell 1
          have g0 := (HKC.out.bel (bel_trans HW9.out hby)).cell 0
          have g1 := (HKC.out.bel (bel_trans HW9.out hby)).cell 1
          simp at f0 f1 g0 g1
          have HBY := Lib.hid hby
          have hl4 := less_any a c Wy
          rw [HAC.out] at hl4
          have HL4 := Lib.hid hl4
          clear hby hl4
          go_wp2_with fail
          refine HL4.out.mono ?_
          rintro e Wx ⟨rfl, hbz⟩
          have HBZ := Lib.hid hbz
          clear hbz
          go_wp2_with fail
          go_meet
          case rel => exact ⟨rfl, bel_trans HW9.out (bel_trans HBY.out HBZ.out)⟩
        | false =>
          rw [hbc] at hl3
          have HL3 := Lib.hid hl3
          clear hl3 hbc H1 H2 HNX
          go_wp2_with fail
          refine HL3.out.mono ?_
          rintro e Wx ⟨rfl, hby⟩
          have HBY := Lib.hid hby
          clear hby
          go_wp2_with fail
          go_meet
          case rel => exact ⟨rfl, bel_trans HW9.out HBY.out⟩
    | false =>
      cases z with
      | true =>
        go_wp2_with fail
        go_meet
        case rel => exact ⟨rfl, HW9.out⟩
      | false =>
        have hab' : a = b := less_tri HXY.out.1 HXY.out.2
        have hneq := neq_bal a b
        rw [decide_eq_true hab'] at hneq
        simp only [Bool.not_true] at hneq
        clear hab'
        go_wp2_with fail
        go_meet
        case rel => exact ⟨rfl, HW9.out⟩
  case rest =>
    obtain ⟨rfl, hbx⟩ := hcut
    generalize wc = Wx at hbx ⊢
    have f0 := (HKA.out.bel hbx).cell 0
    have f1 := (HKA.out.bel hbx).cell 1
    simp at f0 f1
    have HBX := Lib.hid hbx
    clear hbx H1 H2 HXY HKB HKC HW9
    go_wp2_with fail
    refine (HNX.out _).mono ?_
    rintro e w1 ⟨rfl, hb1⟩
    have HKN := Lib.hid (HKA.out.bel (bel_trans HBX.out hb1))
    have HB1 := Lib.hid (bel_trans HB.out (bel_trans HBX.out hb1))
    clear hb1 f0 f1 HKA HBX HNX
    have HA := Lib.hid awake_any
    cases hr : right (a.1 + 1, y) with
    | false =>
      rw [next, if_neg (by rw [hr]; decide)]
      clear hr
      simp only
      go_wp2_with fail
      refine (HA.out _).mono ?_
      rintro e w2 ⟨rfl, hb2⟩
      have HB2 := Lib.hid (bel_trans (bel_alloc HB1.out _) hb2)
      clear hb2
      go_wp2_with fail
      go_ret
      exact ⟨rfl, HB2.out⟩
    | true =>
      rw [next, if_pos hr]
      have hl3 := fun W => less_any a (a.1 + 1, y) W
      rw [less_next] at hl3
      have HL := Lib.hid hl3
      have hr3 := fun W => right_any (a.1 + 1, y) W
      rw [hr] at hr3
      have HR := Lib.hid hr3
      simp only at HL HR ⊢
      obtain ⟨u, hu⟩ : ∃ u, a.1 + 1 = u := ⟨_, rfl⟩
      rw [hu] at HL HR ⊢
      clear hl3 hr3 hr hu
      have HKA := Lib.hid (HKN.out.alloc (.cells #[.int .i64 u, .int .i64 y] 23))
      have HKX := Lib.hid (Blk.new w1 23 #[.int .i64 u, .int .i64 y])
      have f0 := HKN.out.cell 0
      have f1 := HKN.out.cell 1
      simp at f0 f1
      have l0 := HKN.out.lt
      clear HKN
      go_wp2_with fail
      refine (HL.out _).mono ?_
      rintro e w2 ⟨rfl, hb2⟩
      have HB2 := Lib.hid (bel_trans (bel_alloc HB1.out _) hb2)
      have kx := HKX.out.bel hb2
      have x0 := kx.cell 0
      have x1 := kx.cell 1
      simp at x0 x1
      have HX2 := Lib.hid kx
      clear hb2 kx f0 f1 HL HKA HKX l0
      go_wp2_with fail
      refine (HR.out _).mono ?_
      rintro e w3 ⟨rfl, hb3⟩
      have HB3 := Lib.hid (bel_trans HB2.out hb3)
      have x3 := (HX2.out.bel hb3).cell 1
      simp at x3
      clear hb3 x0 x1 HR HB2
      go_wp2_with fail
      refine (HA.out _).mono ?_
      rintro e w4 ⟨rfl, hb4⟩
      have HB4 := Lib.hid (bel_trans HB3.out hb4)
      clear hb4
      go_wp2_with fail
      go_ret
      exact ⟨rfl, HB4.out⟩
end Go.Proofs.Ytjofkonnpfglhaa.Bal
