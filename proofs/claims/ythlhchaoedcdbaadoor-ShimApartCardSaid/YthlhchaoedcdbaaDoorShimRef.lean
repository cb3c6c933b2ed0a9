/-
  Texts of earlier layers, as one.
-/
import Derived.Test.YthlhchaoedcdbaaDoorMsgPl
import Derived.Test.YthlhchaoedcdbaaDoorMsgOw
import Derived.Test.YthlhchaoedcdbaaDoorRecItemPlain
import Derived.Test.YthlhchaoedcdbaaDoorMsgRight
import Derived.Test.YthlhchaoedcdbaaDoorMsgItem
import Derived.Test.YthlhchaoedcdbaaDoorMsgFr
import Derived.Deep.RegionHeld
import Derived.Deep.Cut
import Derived.Test.YthlhchaoedcdbaaDoorMsgReads
import Derived.Test.YthlhchaoedcdbaaDoorMsgOwnTake
import Derived.Test.YthlhchaoedcdbaaDoorMsgRefTake
import Derived.Test.YthlhchaoedcdbaaDoorRCodS
/- Messages in the old form, plainly: what goes down, what comes up, and that what goes down comes up as it was; plain mathematics, of no program. -/
namespace Go.Proofs.YthlhchaoedcdbaaDoor.Mg
open Cod Rk

/-- A message's item in the old form; whether it has none. -/
def oldMg (m : Mg) : It := laidMg m (Att.oldIt m.at_)
def noOld (m : Mg) : Bool := decide (m.at_.tg = 2) || decide (m.cm.kd = 6)
/-- The old form, and an error's number. -/
noncomputable def refDown (m : Mg) : List Nat × Nat := if mright m = true then (if noOld m = true then ([], 17) else (frame 1 (form (oldMg m)), 0)) else ([], 4)
/-- The message that goes up of what was opened, and an error's number. -/
noncomputable def refUp (r : It × Nat) : Mg × Nat :=
  if r.2 = 0 then (if (mright (readMg Att.oldTake r.1) && (!decide ((readMg Att.oldTake r.1).cm.kd = 6) && same r.1 (oldMg (readMg Att.oldTake r.1)))) = true then (readMg Att.oldTake r.1, 0) else (zeroMg, 4)) else (zeroMg, r.2)
/-- What a program of a version reads of bytes. -/
noncomputable def refReads (v : Int) (b : List Nat) : Mg × Nat :=
  if v = 1 ∨ v = 2 then (if v = 1 ∨ b.getD 0 0 = 1 then refUp (openX 1 b) else refTake (openX 2 b)) else (zeroMg, 1)
theorem chk_old (m : Mg) : chk (oldMg m) 0 = 0 := chk_laid m (chk_oldAtt _ (by omega))
theorem right_att {m : Mg} (h : mright m = true) (e : hAt m = true) : Att.achk m.at_ = 0 := ((mright_parts h).2.2.2.2.2.2.2.2.2.2.1 e).1
theorem wt_old {m : Mg} (h : mright m = true) : wt (oldMg m) ≤ 60000 := wt_laid h fun e => (wt_att (right_att h e)).2
theorem tag_one {m : Mg} (h : mright m = true) (hn : noOld m = false) (e : hAt m = true) : m.at_.tg = 1 := by
  have h1 := Att.achk_sq (right_att h e)
  unfold noOld at hn
  have h2 := of_decide_eq_false (Bool.or_eq_false_iff.1 hn).1
  omega
/-- What goes down is read as it was. -/
theorem old_back {m : Mg} (h : mright m = true) (hn : noOld m = false) : readMg Att.oldTake (oldMg m) = m :=
  read_laid h _ _ fun e => Att.old_put (right_att h e) (tag_one h hn e)
theorem front_att (x : It) (kd : Int) : (readFront x kd).1.at_ = Att.zeroAt := by
  unfold readFront
  simp only
  (repeat' split) <;> rfl
theorem old_tag {y : It} : ((Att.oldTake y).getD Att.zeroAt).tg ≠ 2 := by
  cases h : Att.oldTake y with
  | none => decide
  | some a =>
    have e : a.tg = 1 := by
      unfold Att.oldTake at h
      split at h
      · split at h
        · unfold Att.takenOf at h
          split at h
          · injection h with h
            rw [← h]
          · cases h
        · cases h
      · cases h
    rw [Option.getD_some, e]
    decide
/-- What is read in the old form is of no new tag. -/
theorem read_tag (x : It) : (readMg Att.oldTake x).at_.tg ≠ 2 := by
  have hf := front_att x (Cmd.cap (atOf x 0).num)
  unfold readMg readRest
  simp only
  generalize readFront x (Cmd.cap (atOf x 0).num) = r at hf ⊢
  have h0 : r.1.at_.tg ≠ 2 := by rw [hf]; decide
  (repeat' split) <;> first | exact old_tag | exact h0
theorem noOld_read (x : It) : noOld (readMg Att.oldTake x) = decide ((readMg Att.oldTake x).cm.kd = 6) := by
  unfold noOld
  rw [decide_eq_false (read_tag x), Bool.false_or]
theorem refUp_zero (x : It) : refUp (x, 0) = if (mright (readMg Att.oldTake x) && (!decide ((readMg Att.oldTake x).cm.kd = 6) && same x (oldMg (readMg Att.oldTake x)))) = true then (readMg Att.oldTake x, 0) else (zeroMg, 4) := by
  unfold refUp
  rw [if_pos rfl]
theorem refUp_bad (x : It) {e : Nat} (h : ¬ e = 0) : refUp (x, e) = (zeroMg, e) := by
  unfold refUp
  rw [if_neg h]
/-- An item goes up just if it is the old form of a right message that has one. -/
theorem refUp_iff {x : It} {m : Mg} : refUp (x, 0) = (m, 0) ↔ mright m = true ∧ noOld m = false ∧ oldMg m = x := by
  rw [refUp_zero, ← noOld_read]
  constructor
  · intro h
    split at h
    · rename_i hc
      injection h with h _
      rw [h, Bool.and_eq_true, Bool.and_eq_true, Bool.not_eq_true'] at hc
      exact ⟨hc.1, hc.2.1, ((same_iff _ _).1 hc.2.2).symm⟩
    · injection h with _ h
      cases h
  · rintro ⟨h, hn, rfl⟩
    rw [old_back h hn, if_pos (by rw [h, hn, (same_iff _ _).2 rfl]; rfl)]
theorem refUp_no {x : It} (h : ∀ m, mright m = true → noOld m = false → oldMg m ≠ x) : refUp (x, 0) = (zeroMg, 4) := by
  rw [refUp_zero, ← noOld_read, if_neg]
  intro hc
  rw [Bool.and_eq_true, Bool.and_eq_true, Bool.not_eq_true'] at hc
  exact h _ hc.1 hc.2.1 ((same_iff _ _).1 hc.2.2).symm
/-- What goes down goes up as it was. -/
theorem up_down {m : Mg} (h : mright m = true) (hn : noOld m = false) (fx : Fit (oldMg m)) : refUp (openX 1 (frame 1 (form (oldMg m)))) = (m, 0) := by
  have h1 := length_form_le (oldMg m) fx
  have h2 := wt_old h
  rw [open_item 1 (chk_old m) fx (by omega)]
  exact refUp_iff.2 ⟨h, hn, rfl⟩
theorem old_inj {a b : Mg} (ha : mright a = true) (na : noOld a = false) (hb : mright b = true) (nb : noOld b = false) (h : oldMg a = oldMg b) : a = b := by
  rw [← old_back ha na, h, old_back hb nb]
/-- Fewer than five bytes are too short for either. -/
theorem open_short (v : Nat) {b : List Nat} (h : b.length < 5) : openX v b = (Cmd.zeroIt, 2) := by
  unfold openX
  rw [if_pos h]
theorem up_new {p : List Nat} : refUp (openX 1 (frame 2 p)) = (zeroMg, 13) := by
  rw [open_new (by omega)]
  exact refUp_bad _ (by decide)
theorem up_short {b : List Nat} (h : b.length < 5) : refUp (openX 1 b) = (zeroMg, 2) := by
  rw [open_short 1 h]
  exact refUp_bad _ (by decide)
end Go.Proofs.YthlhchaoedcdbaaDoor.Mg
/- The document's Down: the old form of a message. -/
namespace Go.Proofs.YthlhchaoedcdbaaDoor.Mg
open Go.RowKit Mem Ids Att Rk Cod

/-- The ending: the old form, or an error's number. -/
def DownIs (m : Mg) (w : World) (e : Ending) (w' : World) : Prop :=
  ∃ A n c, e = .returned (.tuple #[.slice A n c, .int .i64 ((refDown m).2 : Int)]) ∧ Rd w' A n c (cs (refDown m).1) ∧ Below w.heap.size w w' ∧ ((refDown m).2 = 0 → Fit (oldMg m))
theorem down_no {m : Mg} (h : mright m = false) : refDown m = ([], 4) := if_neg (by simp [h])
theorem down_none {m : Mg} (h : mright m = true) (hn : noOld m = true) : refDown m = ([], 17) := by
  unfold refDown
  rw [if_pos h, if_pos hn]
theorem down_yes {m : Mg} (h : mright m = true) (hn : noOld m = false) : refDown m = (frame 1 (form (oldMg m)), 0) := by
  unfold refDown
  rw [if_pos h, if_neg (by simp [hn])]
end Go.Proofs.YthlhchaoedcdbaaDoor.Mg
/- The document's Up: the message whose old form bytes are. -/
namespace Go.Proofs.YthlhchaoedcdbaaDoor.Mg
open Go.RowKit Mem Ids Att Rk Cod

theorem read_key_old {x : It} {N : Nat} (h : ∀ i, (Cmd.kid (atOf x i) 3).str.size ≤ N) : (readMg oldTake x).cm.ky.size ≤ N := by
  have hf := front_cm x (Cmd.cap (atOf x 0).num)
  unfold readMg readRest
  simp only
  generalize readFront x (Cmd.cap (atOf x 0).num) = r at hf ⊢
  have h0 : r.1.cm.ky.size ≤ N := by rw [hf]; exact Nat.zero_le _
  have h1 := Nat.le_trans (take_key (atOf x r.2)) (h r.2)
  (repeat' split) <;> first | exact h1 | exact h0
end Go.Proofs.YthlhchaoedcdbaaDoor.Mg
/- The document's Read: what a program of a version reads of bytes. -/
namespace Go.Proofs.YthlhchaoedcdbaaDoor.Mg
open Go.RowKit Mem Ids Att Rk Cod

theorem reads_none {v : Int} {b : List Nat} (h1 : ¬ v = 1) (h2 : ¬ v = 2) : refReads v b = (zeroMg, 1) := if_neg (by omega)
theorem reads_one {b : List Nat} : refReads 1 b = refUp (openX 1 b) := by
  unfold refReads
  rw [if_pos (.inl rfl), if_pos (.inl rfl)]
theorem reads_up {b : List Nat} (h : b.getD 0 0 = 1) : refReads 2 b = refUp (openX 1 b) := by
  unfold refReads
  rw [if_pos (.inr rfl), if_pos (.inr h)]
theorem reads_take {b : List Nat} (h : ¬ b.getD 0 0 = 1) : refReads 2 b = refTake (openX 2 b) := by
  unfold refReads
  rw [if_pos (.inr rfl), if_neg (by omega)]
end Go.Proofs.YthlhchaoedcdbaaDoor.Mg
