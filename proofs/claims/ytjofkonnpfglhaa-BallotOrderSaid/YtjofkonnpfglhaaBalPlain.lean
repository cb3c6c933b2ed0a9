/-
  Ballots as pairs (the round, whose it is): when one is right, which is ahead, which is next; plain mathematics, of no program.
-/
import Derived.ProofKit
namespace Go.Proofs.Ytjofkonnpfglhaa.Bal
def right (b : Int × Int) : Bool := decide (0 ≤ b.1 ∧ b.1 ≤ 1099511627776 ∧ 0 ≤ b.2 ∧ b.2 < 7)
def less (a b : Int × Int) : Bool := decide (a.1 < b.1 ∨ a.1 = b.1 ∧ a.2 < b.2)
/-- The next one of y, and whether there is one. -/
def next (a : Int × Int) (y : Int) : (Int × Int) × Bool := if right (a.1 + 1, y) = true then ((a.1 + 1, y), true) else ((0, 0), false)
theorem less_asymm {a b : Int × Int} (h : less a b = true) : less b a = false := by
  simp [less] at *
  omega
theorem less_trans {a b c : Int × Int} (h : less a b = true) (h' : less b c = true) : less a c = true := by
  simp [less] at *
  omega
theorem less_tri {a b : Int × Int} (h : less a b = false) (h' : less b a = false) : a = b := by
  simp [less] at *
  exact Prod.ext (by omega) (by omega)
theorem less_next (a : Int × Int) (y : Int) : less a (a.1 + 1, y) = true := by
  simp [less]
  omega
end Go.Proofs.Ytjofkonnpfglhaa.Bal
