/-
  Texts of earlier layers, as one.
-/
import Derived.Test.YtjfpfbagckckkaaGreatDoorRecSmall
import Derived.Test.YtjfpfbagckckkaaGreatDoorRBalI
import Derived.Test.YtjfpfbagckckkaaGreatDoorRCmdI
import Derived.Test.YtjfpfbagckckkaaGreatDoorRAtt
/- A record's item, and its old form, plainly; which record an item says. -/
namespace Go.Proofs.YtjfpfbagckckkaaGreatDoor.Rk
open Cod Cmd Att
theorem rgt_parts {r : Rc} (h : rgt r = true) : (0 ≤ r.id.1 ∧ r.id.1 ≤ 6) ∧ (0 ≤ r.id.2 ∧ r.id.2 ≤ 1099511627776) ∧ (0 ≤ r.st ∧ r.st ≤ 3) ∧ Bal.right r.bl = true ∧ Bal.right r.tk = true ∧
 (¬ r.st = 0 → Cmd.chk r.cm = 0 ∧ achk r.at_ = 0) ∧ (r.st = 0 → r.tk = (0, 0) ∧ r.cm = zeroCm ∧ r.at_ = zeroAt) := by
 simp only [rgt, promised, Bool.and_eq_true] at h
 obtain ⟨⟨h1, ⟨h2, h3⟩, _⟩, h4⟩ := h
 have h5 := of_decide_eq_true h1
 refine ⟨by omega, by omega, ?_, h2, h3, ?_, ?_⟩
 · unfold filled at h4
   split at h4
   · omega
   · split at h4
     · omega
     · cases h4
 · intro hs
   unfold filled at h4
   rw [if_neg hs] at h4
   split at h4
   · simp only [Bool.and_eq_true, decide_eq_true_eq] at h4
     exact h4.1
   · cases h4
 · intro hs
   unfold filled at h4
   rw [if_pos hs] at h4
   simp only [Bool.and_eq_true, decide_eq_true_eq] at h4
   obtain ⟨k1, k2⟩ := offer_iff.1 h4.2
   exact ⟨h4.1, k1, k2⟩
theorem wt_bal (b : Int × Int) : wt (Bal.balIt b) = 3 := by
 simp [Bal.balIt, wt, wts, numIt]
theorem wt_att {a : At} (h : achk a = 0) : wt (attIt a) ≤ 50000 ∧ wt (oldIt a) ≤ 50000 := by
 have h1 := wts_three h
 have hl := achk_len h
 have e2 : wt (Ids.setIt a.dp) = 1 + a.dp.length * 2 := by
  show 1 + ByteArray.empty.size + wts (Ids.its a.dp) = _
  rw [Ids.wts_its]
  rfl
 constructor
 · show 1 + ByteArray.empty.size + wts [Ids.numIt a.tg, Ids.numIt a.sq, Ids.setIt a.dp] ≤ _
   simp only [wts, e2]
   simp [Ids.numIt, wt, wts]
   omega
 · show 1 + ByteArray.empty.size + wts [Ids.numIt a.sq, Ids.setIt a.dp] ≤ _
   simp only [wts, e2]
   simp [Ids.numIt, wt, wts]
   omega
end Go.Proofs.YtjfpfbagckckkaaGreatDoor.Rk
