/-
  Texts of earlier layers, as one.
-/
import Derived.Test.YtgnpnjfoenmfbaaProg
import Derived.Test.YtgnpnjfoenmfbaaRBase
/- Same, of the document's answer, of any two slices of bytes says whether they hold the same bytes; it only reads. -/
namespace Go.Proofs.Ytgnpnjfoenmfbaa
open Go.RowKit Mem

/-- The ending: a bool; only draws. -/
def Says (b : Bool) (w : World) (e : Ending) (w' : World) : Prop := e = .returned (.bool b) ∧ ∃ q, w' = w.drewN q

def SameRel (w : World) (n : Nat) (xs ys : List Nat) (i : Value) (wr : World) : Prop :=
  ∃ k : Nat, k ≤ n ∧ i = .int .i64 k ∧ xs.take k = ys.take k ∧ ∃ q, wr = w.drewN q

theorem take_step {xs ys : List Nat} {k b : Nat} (h : xs.take k = ys.take k) (hx : xs[k]? = some b) (hy : ys[k]? = some b) : xs.take (k + 1) = ys.take (k + 1) := by
  rw [List.take_add_one, List.take_add_one, h, hx, hy]
theorem take_part {xs ys : List Nat} {k a b : Nat} (hx : xs[k]? = some a) (hy : ys[k]? = some b) (h : a ≠ b) : decide (xs = ys) = false := by
  rw [decide_eq_false_iff_not]
  rintro rfl
  rw [hx] at hy
  cases hy
  exact h rfl

set_option maxHeartbeats 1000000 in
theorem same_any (A B : Option Addr) (n m c d : Nat) (xs ys : List Nat) (w : World) (hx : Rd w A n c (cs xs)) (hy : Rd w B m d (cs ys)) :
    Calls Try.prog 21 #[.slice A n c, .slice B m d] w (Says (decide (xs = ys)) w) := by
  have lx := hx.len
  have ly := hy.len
  rw [length_cs] at lx ly
  have bx := hx.le
  have cx := hx.cap
  unfold maxLen at cx
  by_cases hnm : n = m
  · subst hnm
    have LX := Lib.hid lx
    have LY := Lib.hid ly
    clear lx ly
    go_enter Try.func21, Try.ntmps21
    go_wp2
    go_loopw [5] (SameRel w n xs ys) (fun i _ => n - (intOf i).toNat)
    case atStart => exact ⟨0, Nat.zero_le _, rfl, rfl, 0, rfl⟩
    case round =>
      obtain ⟨k, hk, rfl, hpre, q, rfl⟩ := hrel
      have HP := Lib.hid hpre
      clear hpre
      by_cases hlt : k < n
      · obtain ⟨ad, a, rfl, ha, hca⟩ := hx.byte hlt
        obtain ⟨bd, b, rfl, hb, hcb⟩ := hy.byte hlt
        have HA := Lib.hid ha
        have HB := Lib.hid hb
        clear ha hb
        by_cases hab : a = b
        · have hne : ((a : Int) != (b : Int)) = false := by simp [hab]
          have HAB := Lib.hid hab
          clear hab
          go_wp2
          go_quiet (fail)
          go_wp2
          exact ⟨⟨k + 1, by omega, by simp, take_step HP.out HA.out (by rw [HB.out, HAB.out]), q + nq, rfl⟩, by simp [intOf]; omega⟩
        · have hne : ((a : Int) != (b : Int)) = true := by rw [bne_iff_ne]; omega
          have HAB := Lib.hid hab
          clear hab
          go_wp2
          go_quiet (fail)
          go_wp2
          go_ret
          exact ⟨by rw [take_part HA.out HB.out HAB.out]; rfl, q + nq, by rw [World.drewN_drewN]⟩
      · go_wp2
        go_ret
        refine ⟨?_, q, rfl⟩
        have h1 := LX.out
        have h2 := LY.out
        have h3 := HP.out
        rw [List.take_of_length_le (by omega), List.take_of_length_le (by omega)] at h3
        rw [h3, decide_eq_true rfl]
        rfl
  · have hne : ((n : Int) != (m : Int)) = true := by rw [bne_iff_ne]; omega
    go_enter Try.func21, Try.ntmps21
    go_wp2
    go_ret
    refine ⟨?_, 0, rfl⟩
    rw [show decide (xs = ys) = false from by rw [decide_eq_false_iff_not]; rintro rfl; omega]
    rfl

end Go.Proofs.Ytgnpnjfoenmfbaa
/- What other layers ask of num and of the document's own answers of layer 1: a number put behind nothing, two slices of bytes held against each other, as contracts that tell 'what was there stays'. -/
namespace Go.Proofs.Ytgnpnjfoenmfbaa
open Go.RowKit Mem

/-- The document's Same. -/
theorem same_tells (A B : Option Addr) (n m c d : Nat) (xs ys : List Nat) (b : Bool) (w : World) (hx : Rd w A n c (cs xs)) (hy : Rd w B m d (cs ys)) (hb : decide (xs = ys) = b) :
    Calls Try.prog 21 #[.slice A n c, .slice B m d] w (Tells b w) := by
  refine (same_any A B n m c d xs ys w hx hy).mono fun e w' ⟨he, q, hq⟩ => ?_
  subst hb
  subst hq
  exact ⟨he, below_drewN (Below.refl _ _) q⟩

end Go.Proofs.Ytgnpnjfoenmfbaa
