/-
  Texts of earlier layers, as one.
-/
import Derived.Test.YtjfpfbagckckkaaDoorRecSmall
import Derived.Test.YtjfpfbagckckkaaDoorRBalI
import Derived.Test.YtjfpfbagckckkaaDoorRCmdI
import Derived.Test.YtjfpfbagckckkaaDoorRAtt
/- A record's item, and its old form, plainly; which record an item says. -/
namespace Go.Proofs.YtjfpfbagckckkaaDoor.Rk
open Cod Cmd Att

theorem rgt_parts {r : Rc} (h : rgt r = true) : (0 ≤ r.id.1 ∧ r.id.1 ≤ 6) ∧ (0 ≤ r.id.2 ∧ r.id.2 ≤ 1099511627776) ∧ (0 ≤ r.st ∧ r.st ≤ 3) ∧ Bal.right r.bl = true ∧ Bal.right r.tk = true ∧
    (¬ r.st = 0 → Cmd.chk r.cm = 0 ∧ achk r.at_ = 0) ∧ (r.st = 0 → r.tk = (0, 0) ∧ r.cm = zeroCm ∧ r.at_ = zeroAt) := by
  simp only [rgt, promised, Bool.and_eq_true] at h
  obtain ⟨⟨h1, ⟨h2, h3⟩, _⟩, h4⟩ := h
  have h5 := of_decide_eq_true h1
  refine ⟨by omega, by omega, ?_, h2, h3, ?_, ?_⟩
  · unfold filled at h4
    split at h4
    · omega
    · split at h4
      · omega
      · cases h4
  · intro hs
    unfold filled at h4
    rw [if_neg hs] at h4
    split at h4
    · simp only [Bool.and_eq_true, decide_eq_true_eq] at h4
      exact h4.1
    · cases h4
  · intro hs
    unfold filled at h4
    rw [if_pos hs] at h4
    simp only [Bool.and_eq_true, decide_eq_true_eq] at h4
    obtain ⟨k1, k2⟩ := offer_iff.1 h4.2
    exact ⟨h4.1, k1, k2⟩
def fronts (r : Rc) : List It := [numIt r.id.1, numIt r.id.2, numIt r.st, Bal.balIt r.bl, Bal.balIt r.tk]
def laidIt (r : Rc) (y : It) : It := .mk 2 0 ByteArray.empty (if r.st = 0 then fronts r else fronts r ++ [cmIt r.cm, y])
def recIt (r : Rc) : It := laidIt r (attIt r.at_)
def recItem (r : Rc) : It := if rgt r = true then recIt r else zeroIt
def oldRc (r : Rc) : It := laidIt r (oldIt r.at_)
def recOld (r : Rc) : It × Int := if rgt r = true then if r.at_.tg = 2 ∨ r.cm.kd = 6 then (zeroIt, 17) else (oldRc r, 0) else (zeroIt, 4)
theorem laid_none {r : Rc} (h : r.st = 0) (y z : It) : laidIt r y = laidIt r z := by
  unfold laidIt
  rw [if_pos h, if_pos h]
theorem rec_laid {r : Rc} (h : rgt r = true) : laidIt r (attItem r.at_) = recIt r := by
  by_cases hs : r.st = 0
  · exact laid_none hs _ _
  · unfold recIt attItem
    rw [if_pos ((rgt_parts h).2.2.2.2.2.1 hs).2]
theorem old_laid {r : Rc} (h : rgt r = true) (ht : ¬ (r.at_.tg = 2 ∨ r.cm.kd = 6)) : laidIt r (attOld r.at_).1 = oldRc r := by
  by_cases hs : r.st = 0
  · exact laid_none hs _ _
  · obtain ⟨_, h2⟩ := (rgt_parts h).2.2.2.2.2.1 hs
    have h3 := achk_zero.1 h2
    unfold oldRc attOld
    rw [if_pos h2, if_pos (by rcases h3.1 with e | e; exact e; exact absurd (.inl e) ht)]
theorem wt_bal (b : Int × Int) : wt (Bal.balIt b) = 3 := by
  simp [Bal.balIt, wt, wts, numIt]
theorem wt_att {a : At} (h : achk a = 0) : wt (attIt a) ≤ 50000 ∧ wt (oldIt a) ≤ 50000 := by
  have h1 := wts_three h
  have hl := achk_len h
  have e2 : wt (Ids.setIt a.dp) = 1 + a.dp.length * 2 := by
    show 1 + ByteArray.empty.size + wts (Ids.its a.dp) = _
    rw [Ids.wts_its]
    rfl
  constructor
  · show 1 + ByteArray.empty.size + wts [Ids.numIt a.tg, Ids.numIt a.sq, Ids.setIt a.dp] ≤ _
    simp only [wts, e2]
    simp [Ids.numIt, wt, wts]
    omega
  · show 1 + ByteArray.empty.size + wts [Ids.numIt a.sq, Ids.setIt a.dp] ≤ _
    simp only [wts, e2]
    simp [Ids.numIt, wt, wts]
    omega
theorem wts_fronts (r : Rc) : wts (fronts r) = 9 := by
  unfold fronts
  simp only [wts, wt_bal]
  simp [numIt, wt, wts]
theorem wts_seven {r : Rc} {y : It} (h : rgt r = true) (hs : ¬ r.st = 0) (hy : wt y ≤ 60000) : wts (fronts r ++ [cmIt r.cm, y]) ≤ 100000 := by
  have h1 := wt_item r.cm
  rw [itemOf, if_pos ((rgt_parts h).2.2.2.2.2.1 hs).1] at h1
  rw [wts_append, wts_fronts]
  simp only [wts]
  omega
end Go.Proofs.YtjfpfbagckckkaaDoor.Rk
