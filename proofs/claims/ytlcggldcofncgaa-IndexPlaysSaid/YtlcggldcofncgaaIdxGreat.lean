/-
  Texts of earlier layers, as one.
-/
import Derived.Test.YtlcggldcofncgaaIdxAwake
import Derived.Test.YtlcggldcofncgaaIdxOpen
import Derived.Test.YtlcggldcofncgaaIdxRefMet
/- Whether there is more of acts than is looked at. -/
namespace Go.Proofs.Ytlcggldcofncgaa.Ix
open Go.RowKit Mem Dsk Cmd Ids Ky

theorem ten {w : World} {g o : Nat} {x : Ac} (h : w.rangeAt g o (LA.enc x)) : w.cell? ⟨g, o, none⟩ = some (.int .i64 x.d) ∧ w.cell? ⟨g, o + 1, none⟩ = some (.int .i64 x.i.1) ∧ w.cell? ⟨g, o + 2, none⟩ = some (.int .i64 x.i.2) ∧ w.cell? ⟨g, o + 3, none⟩ = some (.int .i64 x.c.kd) ∧ w.cell? ⟨g, o + 4, none⟩ = some (.int .i64 x.c.cl) ∧ w.cell? ⟨g, o + 5, none⟩ = some (.int .i64 x.c.sq) ∧ w.cell? ⟨g, o + 6, none⟩ = some (.string x.c.ky) ∧ w.cell? ⟨g, o + 7, none⟩ = some (.string x.c.vl) ∧ w.cell? ⟨g, o + 8, none⟩ = some (.int .i64 x.c.rv) ∧ w.cell? ⟨g, o + 9, none⟩ = some (.int .i64 x.s) :=
  ⟨h 0 _ rfl, h 1 _ rfl, h 2 _ rfl, h 3 _ rfl, h 4 _ rfl, h 5 _ rfl, h 6 _ rfl, h 7 _ rfl, h 8 _ rfl, h 9 _ rfl⟩
/-- The command's cells in an act. -/
theorem act_cmd {w : World} {g o : Nat} {x : Ac} (h : w.rangeAt g o (LA.enc x)) : w.rangeAt g (o + 3) [.int .i64 x.c.kd, .int .i64 x.c.cl, .int .i64 x.c.sq, .string x.c.ky, .string x.c.vl, .int .i64 x.c.rv] := fun j u hu => by
  have hj : j < 6 := (List.getElem?_eq_some_iff.1 hu).1
  have := h (j + 3) u (by
    rw [← hu]
    rcases (show j = 0 ∨ j = 1 ∨ j = 2 ∨ j = 3 ∨ j = 4 ∨ j = 5 by omega) with rfl | rfl | rfl | rfl | rfl | rfl <;> rfl)
  rw [Nat.add_assoc, Nat.add_comm 3 j]
  exact this
/-- More than is looked at. -/
def bigA (l : List Ac) : Bool := (l.take 60).any (fun y => great y.c) || decide (60 < l.length)
theorem bigA_no {l : List Ac} (h : bigA l = false) : l.length ≤ 60 ∧ ∀ y ∈ l, y.c.ky.size ≤ 200 := by
  unfold bigA at h
  rw [Bool.or_eq_false_iff, decide_eq_false_iff_not] at h
  obtain ⟨h1, h2⟩ := h
  refine ⟨by omega, fun y hy => ?_⟩
  rw [List.take_of_length_le (by omega)] at h1
  have := List.any_eq_false.1 h1 y hy
  simp [great] at this
  omega
theorem small_cmd {c : Cm} (h : great c = false) : c.ky.size ≤ 200 := by
  simp only [great, Bool.or_eq_false_iff, decide_eq_false_iff_not] at h
  omega
def GrRel (w : World) (l : List Ac) (v3 : Value) (wr : World) : Prop := ∃ k : Nat, v3 = .int .i64 (k : Int) ∧ k ≤ l.length ∧ k ≤ 60 ∧ (l.take k).any (fun y => great y.c) = false ∧ Below w.heap.size w wr
set_option maxRecDepth 20000 in
set_option maxHeartbeats 8000000 in
theorem bigA_any (A : Option Addr) (n c : Nat) (l : List Ac) (w : World) (hr : Rw LA w A n c l) : Calls Try.prog 6 #[.slice A n c] w (Tells (bigA l) w) := by
  have hln := hr.len
  have hcap := And.intro hr.le hr.cap
  unfold maxLen at hcap
  have HR := Lib.hid hr
  clear hr
  go_enter Try.func6, Try.ntmps6
  go_wp2_with fail
  go_loopw [3] (GrRel w l) (fun v _ => n - (intOf v).toNat)
  case atStart => exact ⟨0, rfl, Nat.zero_le _, Nat.zero_le _, rfl, Below.refl _ _⟩
  case round =>
    obtain ⟨k, rfl, hk, hk60, hno, hbw⟩ := hrel
    by_cases hlt : k < n
    · by_cases h60 : k < 60
      · obtain ⟨g, o, ⟨y1, ⟨i1, i2⟩, ⟨kd, cl, sq, ky, vl, rv⟩, s⟩, rfl, hg, hx, hcx⟩ := (HR.out.below hbw).at_ hlt
        obtain ⟨c0, c1, c2, c3, c4, c5, c6, c7, c8, c9⟩ := ten hcx
        rw [show o + k * LA.s = o + k * 10 from rfl] at c0 c1 c2 c3 c4 c5 c6 c7 c8 c9
        have hgr := fun u => Cw.great_any kd cl sq ky vl rv u
        obtain ⟨q, hq⟩ : ∃ q, great (⟨kd, cl, sq, ky, vl, rv⟩ : Cm) = q := ⟨_, rfl⟩
        rw [hq] at hgr
        simp only at c0 c1 c2 c3 c4 c5 c6 c7 c8 c9
        have hst := snoc_take hx
        have hany : (l.take (k + 1)).any (fun y => great y.c) = q := by
          rw [hst, List.any_append, hno]
          simp [hq]
        have HG := Lib.hid hgr
        have HX := Lib.hid (And.intro hany (And.intro hx hbw))
        clear hcx hg hx hbw hno hgr hq hst hany c0 c1 c2 c9
        cases q with
        | true =>
          go_wp2_with (go_at_call 7; (with_reducible refine (HG.out _).mono ?_); rintro e u ⟨rfl, hbu⟩; have HU := Lib.hid hbu; clear hbu c3 c4 c5 c6 c7 c8)
          go_ret
          refine ⟨?_, bel_trans HX.out.2.2 HU.out⟩
          have : bigA l = true := by
            unfold bigA
            rw [Bool.or_eq_true]
            left
            obtain ⟨y, hy, hg⟩ := List.any_eq_true.1 HX.out.1
            exact List.any_eq_true.2 ⟨y, (List.take_subset_take_left l (show k + 1 ≤ 60 by omega)) hy, hg⟩
          rw [this]
          rfl
        | false =>
          go_wp2_with (go_at_call 7; (with_reducible refine (HG.out _).mono ?_); rintro e u ⟨rfl, hbu⟩; have HU := Lib.hid hbu; clear hbu c3 c4 c5 c6 c7 c8)
          go_roundw
          case rel => exact ⟨k + 1, by simp, by omega, by omega, HX.out.1, bel_trans HX.out.2.2 HU.out⟩
          case measure =>
            simp [intOf]
            omega
      · have hk' : k = 60 := by omega
        have hgt : (60 : Int) < (n : Int) := by omega
        have HX := Lib.hid hbw
        clear hno hbw
        subst hk'
        go_wp2_with fail
        go_ret
        refine ⟨?_, HX.out⟩
        have : bigA l = true := by
          unfold bigA
          rw [Bool.or_eq_true]
          right
          exact decide_eq_true (by omega)
        rw [this]
        rfl
    · have hkn : k = n := by omega
      have hle : ¬ (60 : Int) < (n : Int) := by omega
      have HX := Lib.hid (And.intro hno hbw)
      clear hno hbw
      go_wp2_with fail
      go_ret
      refine ⟨?_, HX.out.2⟩
      have : bigA l = false := by
        unfold bigA
        rw [Bool.or_eq_false_iff]
        have h1 := HX.out.1
        rw [List.take_of_length_le (by omega)] at h1
        exact ⟨by rw [List.take_of_length_le (by omega)]; exact h1, decide_eq_false (by omega)⟩
      rw [this]
      rfl
end Go.Proofs.Ytlcggldcofncgaa.Ix
