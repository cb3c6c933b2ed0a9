/-
  Texts of earlier layers, as one.
-/
import Derived.Test.YtpalmnjapiijaaaCompClose
import Derived.Lib.MinMax
/- The program's there; a graph's rows by their place. -/
namespace Go.Proofs.Ytpalmnjapiijaaa.Gr
open Go.RowKit Mem Dsk

theorem mat_at {w : World} {g o n c k : Nat} {e : Graph} (h : Mat w (some ⟨g, o, none⟩) n c e) (hk : k < n) : ∃ (R : Option Addr) (rn rc : Nat) (l : List Int), g < w.heap.size ∧ e[k]? = some l ∧ w.cell? ⟨g, o + k, none⟩ = some (.slice R rn rc) ∧ Rw LN w R rn rc l := by
  obtain ⟨g', o', R, rn, rc, l, e', hg, hl, hc, hr⟩ := h.at_ hk
  cases e'
  exact ⟨R, rn, rc, l, hg, hl, hc, hr⟩
set_option maxHeartbeats 1000000 in
theorem there_yes (A : Option Addr) (n c : Nat) (z : Int) (w : World) (h0 : 0 ≤ z) (h1 : z < n) : Calls Try.prog 18 #[.slice A n c, .int .i64 z] w (fun x w' => x = .returned (.bool true) ∧ w = w') := by
  have e0 : decide (0 ≤ z) = true := decide_eq_true h0
  have e1 : decide (z < (n : Int)) = true := decide_eq_true h1
  go_enter Try.func18, Try.ntmps18
  go_wp2_with fail
  go_ret
  exact ⟨rfl, rfl⟩
set_option maxHeartbeats 1000000 in
theorem there_no (A : Option Addr) (n c : Nat) (z : Int) (w : World) (h : z < 0 ∨ n ≤ z) : Calls Try.prog 18 #[.slice A n c, .int .i64 z] w (fun x w' => x = .returned (.bool false) ∧ w = w') := by
  by_cases h0 : 0 ≤ z
  · have e0 : decide (0 ≤ z) = true := decide_eq_true h0
    have hn : ¬ z < (n : Int) := by omega
    have e1 : decide (z < (n : Int)) = false := decide_eq_false hn
    clear h
    go_enter Try.func18, Try.ntmps18
    go_wp2_with fail
    go_ret
    exact ⟨rfl, rfl⟩
  · have e0 : decide (0 ≤ z) = false := decide_eq_false h0
    clear h
    go_enter Try.func18, Try.ntmps18
    go_wp2_with fail
    go_ret
    exact ⟨rfl, rfl⟩
end Go.Proofs.Ytpalmnjapiijaaa.Gr
