/-
  Texts of earlier layers, as one.
-/
import Derived.Test.YthlhchaoedcdbaaDoorMsgReads
import Derived.Test.YthlhchaoedcdbaaDoorMsgRight
import Derived.Test.YthlhchaoedcdbaaDoorMsgItem
import Derived.Test.YthlhchaoedcdbaaDoorMsgFr
import Derived.Test.YthlhchaoedcdbaaDoorMsgOwnTake
import Derived.Test.YthlhchaoedcdbaaDoorRCodS
import Derived.Deep.RegionHeld
import Derived.Deep.Cut
/- The document's Take of bytes. -/
namespace Go.Proofs.YthlhchaoedcdbaaDoor.Mg
open Go.RowKit Mem Ids Att Rk Cod

theorem refTake_zero (x : It) : refTake (x, 0) = if (mright (readMg attTake x) && same x (mgIt (readMg attTake x))) = true then (readMg attTake x, 0) else (zeroMg, 4) := by
  unfold refTake
  rw [if_pos rfl]
theorem refTake_bad (x : It) {e : Nat} (h : ¬ e = 0) : refTake (x, e) = (zeroMg, e) := by
  unfold refTake
  rw [if_neg h]
theorem str_wt (x : It) : x.str.size ≤ wt x := by rw [wt_eq]; omega
theorem kid_small {y : It} {N : Nat} (h : wt y ≤ N) (j : Nat) : (Cmd.kid y j).str.size ≤ N := by
  unfold Cmd.kid
  rw [List.getD_eq_getElem?_getD]
  by_cases hj : j < y.kids.length
  · rw [List.getElem?_eq_getElem hj, Option.getD_some]
    have h1 := wt_kid (x := y) hj
    have h2 := str_wt (y.kids[j])
    omega
  · rw [List.getElem?_eq_none (by omega)]
    exact Nat.zero_le _
theorem at_small {x : It} {N : Nat} (h : wt x ≤ N) (i : Nat) : (Cmd.kid (atOf x i) 3).str.size ≤ N := by
  by_cases hi : i < x.kids.length
  · have e : atOf x i = x.kids[i] := by
      unfold atOf
      rw [if_pos hi, List.getD_eq_getElem?_getD, List.getElem?_eq_getElem hi]
      rfl
    rw [e]
    exact kid_small (by have := wt_kid (x := x) hi; omega) 3
  · have e : atOf x i = noIt := if_neg hi
    rw [e]
    exact Nat.zero_le _
theorem take_key (y : It) : ((Cmd.takeOf y).getD Cmd.zeroCm).ky.size ≤ (Cmd.kid y 3).str.size := by
  unfold Cmd.takeOf
  split
  · exact Nat.le_refl _
  · exact Nat.zero_le _
theorem front_cm (x : It) (kd : Int) : (readFront x kd).1.cm = Cmd.zeroCm := by
  unfold readFront
  simp only
  (repeat' split) <;> rfl
theorem read_key {x : It} {N : Nat} (h : ∀ i, (Cmd.kid (atOf x i) 3).str.size ≤ N) : (readMg attTake x).cm.ky.size ≤ N := by
  have hf := front_cm x (Cmd.cap (atOf x 0).num)
  unfold readMg readRest
  simp only
  generalize readFront x (Cmd.cap (atOf x 0).num) = r at hf ⊢
  have h0 : r.1.cm.ky.size ≤ N := by rw [hf]; exact Nat.zero_le _
  have h1 := Nat.le_trans (take_key (atOf x r.2)) (h r.2)
  (repeat' split) <;> first | exact h1 | exact h0
theorem open_small {v : Nat} {b : List Nat} {x : It} {e N : Nat} (hb : ∀ x ∈ b, x < 256) (hn : b.length ≤ N) (h0 : 1 ≤ N) (h : openX v b = (x, e)) : wt x ≤ N := by
  have hz : ∀ y : It, y = Cmd.zeroIt → wt y ≤ N := fun y hy => by
    rw [hy]
    have : wt Cmd.zeroIt = 1 := by simp [Cmd.zeroIt, wt, wts]
    omega
  unfold openX at h
  split at h
  · injection h with h _; exact hz x h.symm
  split at h
  · injection h with h _; exact hz x h.symm
  split at h
  · injection h with h _; exact hz x h.symm
  split at h
  · injection h with h _
    subst h
    cases hg : Cod.get (b.drop 5) with
    | ok y q =>
      obtain ⟨e1, _, _⟩ := Cp.get_parts_ok hg
      rw [e1]
      obtain ⟨g1, _, g3⟩ := get_good (fun x hx => hb x (List.mem_of_mem_drop hx)) hg
      have h1 := wt_le_form y 0 g1
      rw [g3, List.length_drop] at h1
      omega
    | bad er q =>
      obtain ⟨e1, _, _⟩ := Cp.get_parts_bad hg
      rw [e1]
      exact hz _ rfl
  · injection h with h _; exact hz x h.symm
end Go.Proofs.YthlhchaoedcdbaaDoor.Mg
