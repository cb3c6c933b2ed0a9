/-
  Texts of earlier layers, as one.
-/
import Derived.Test.YtkejjdoaljoooaaGreatDoorLogForm
import Derived.Maps.AppendAt
import Derived.Laws.Pointers
/- What the deeds of a log come to on a plain disk; plain mathematics, of no program. -/
namespace Go.Proofs.YtkejjdoaljoooaaGreatDoor.Lg
open Dsk
def nlog : ByteArray := ⟨#[108, 111, 103]⟩
def nfix : ByteArray := ⟨#[108, 111, 103, 46, 102, 105, 120]⟩
theorem name_log : isName nlog = true := by decide
theorem name_fix : isName nfix = true := by decide
theorem ne_lf : eqn nlog nfix = false := by rw [eqn_eq]; decide
theorem gt_lf : gtn nlog nfix = false := by rw [gtn_eq]; decide
def writes (b : List Nat) (d : Dk) : Nat × Dk :=
 if fg (whole (doRemove nfix) d).1 ≠ 0 then (fg (whole (doRemove nfix) d).1, (whole (doRemove nfix) d).2) else
 if (whole (doAppend nfix b) (whole (doRemove nfix) d).2).1 ≠ 0 then whole (doAppend nfix b) (whole (doRemove nfix) d).2 else
 if (whole (doSync nfix) (whole (doAppend nfix b) (whole (doRemove nfix) d).2).2).1 ≠ 0 then whole (doSync nfix) (whole (doAppend nfix b) (whole (doRemove nfix) d).2).2 else
 whole (doMove nfix nlog) (whole (doSync nfix) (whole (doAppend nfix b) (whole (doRemove nfix) d).2).2).2
theorem fine_whole {f : Dk → Nat × Dk} {d : Dk} (h : Fine d) (hf : ∀ d, Fine d → Fine (f d).2) : Fine (whole f d).2 := by
 unfold whole;split
 · exact h.deed
 · exact hf _ h.deed
theorem fine_remove (s : ByteArray) {d : Dk} (h : Fine d) : Fine (doRemove s d).2 := by
 have hf := fits_remove h.1 s;unfold doRemove at hf ⊢;split
 · exact h
 · rename_i hp; rw [hp] at hf; exact ⟨hf, h.2⟩
theorem fine_append (s : ByteArray) (b : List Nat) {d : Dk} (h : Fine d) : Fine (doAppend s b d).2 := by
 have hf := fits_append h.1 s b
 have hr : (doAppend s b d).2.room = d.room ∧ (doAppend s b d).2.fuse = d.fuse := by
  unfold doAppend;split
  · exact ⟨rfl, rfl⟩
  split
  · exact ⟨rfl, rfl⟩
  split
  · split <;> exact ⟨rfl, rfl⟩
  · exact ⟨rfl, rfl⟩
 exact ⟨hf, by rw [hr.1]; exact h.2.1, by rw [hr.2]; exact h.2.2.1, by rw [hr.2]; exact h.2.2.2⟩
theorem fine_sync (s : ByteArray) {d : Dk} (h : Fine d) : Fine (doSync s d).2 := by
 have hf := fits_sync h.1 s
 have hr : (doSync s d).2.room = d.room ∧ (doSync s d).2.fuse = d.fuse := by
  unfold doSync;split <;> exact ⟨rfl, rfl⟩
 exact ⟨hf, by rw [hr.1]; exact h.2.1, by rw [hr.2]; exact h.2.2.1, by rw [hr.2]; exact h.2.2.2⟩
end Go.Proofs.YtkejjdoaljoooaaGreatDoor.Lg
/- An append onto a row of the call's own, of one-cell elements of whatever type: its run, and its step where a guard wants it or in a region that draws its order. -/
namespace Go.Proofs.YtkejjdoaljoooaaGreatDoor.Lg
open Go.RowKit Mem
theorem wpList_append_w {P : Program} {w w' : World} {ops : Array Oper} {rest : List Oper} {o : Oper} {a : Act} {Q : Exit → Act → World → Prop} {t : TypeId} {v : Value} (s x : Operand)
 (ho : o.op = .call { callee := .builtin .append, args := #[s, x], argTypes := #[t, t] }) (hw : Region.wanted o (yielded ops a.tmps) = true) (hrun : (Builtin.append_ #[t, t] o.type #[a.eval s, a.eval x]).run P w = .ok v w')
 (h : wpList P ops Q rest (a.put o.dst v) w') : wpList P ops Q (o :: rest) a w :=
 wpList_step fun _ hK => by
  rw [if_pos hw];unfold Oper.wp;simp [execOp, ho, resolve, invoke, builtin, hrun, Result.andThen];exact hK _ _ h
end Go.Proofs.YtkejjdoaljoooaaGreatDoor.Lg
