/-
  Texts of earlier layers, as one.
-/
import Derived.Test.YtbjooblaamjppaaGreatRecTake
/- What is put is taken as it was, plainly. -/
namespace Go.Proofs.YtbjooblaamjppaaGreat.Rk
open Cod Att

theorem w64_up {v : Int} (h : 0 ≤ v) (h' : v ≤ 1099511627776) : Cmd.w64 v.toNat = v := by
  rw [Cmd.w64_small (by omega), Int.toNat_of_nonneg h]
/-- The parts of a right record, with its last part as told, read again. -/
theorem read_back {r : Rc} (h : rgt r = true) (T : It → Option At) (y : It) (hz : T Cmd.zeroIt = none) (hy : ¬ r.st = 0 → T y = some r.at_) : readOf T (laidIt r y).kids = r := by
  obtain ⟨h1, h2, h3, h4, h5, h6, h7⟩ := rgt_parts h
  have hb := Bal.take_bal h4
  have ht := Bal.take_bal h5
  obtain ⟨⟨r1, r2⟩, st, bl, tk, cm, att⟩ := r
  simp only at h1 h2 h3 h4 h5 h6 h7 hb ht hy
  have hc0 : Cmd.takeOf Cmd.zeroIt = none := by
    unfold Cmd.takeOf
    exact if_neg fun h => by cases h.1
  by_cases hs : st = 0
  · obtain ⟨k1, k2, k3⟩ := h7 hs
    subst hs k2 k3
    have e : (laidIt ⟨(r1, r2), 0, bl, tk, Cmd.zeroCm, zeroAt⟩ y).kids = [Cmd.numIt r1, Cmd.numIt r2, Cmd.numIt 0, Bal.balIt bl, Bal.balIt tk] := rfl
    rw [e]
    show (⟨(Cmd.w64 r1.toNat, Cmd.w64 r2.toNat), Cmd.w64 (0 : Int).toNat, (Bal.balTake (Bal.balIt bl)).getD (0, 0), (Bal.balTake (Bal.balIt tk)).getD (0, 0), (Cmd.takeOf Cmd.zeroIt).getD Cmd.zeroCm, (T Cmd.zeroIt).getD zeroAt⟩ : Rc) = _
    rw [w64_up h1.1 (by omega), w64_up h2.1 h2.2, w64_up (by decide) (by decide), hb, ht, hc0, hz]
    rfl
  · obtain ⟨k1, k2⟩ := h6 hs
    have hcm := Cmd.take_cm k1
    have e : (laidIt ⟨(r1, r2), st, bl, tk, cm, att⟩ y).kids = [Cmd.numIt r1, Cmd.numIt r2, Cmd.numIt st, Bal.balIt bl, Bal.balIt tk, Cmd.cmIt cm, y] := by
      unfold laidIt
      rw [if_neg hs]
      rfl
    rw [e]
    show (⟨(Cmd.w64 r1.toNat, Cmd.w64 r2.toNat), Cmd.w64 st.toNat, (Bal.balTake (Bal.balIt bl)).getD (0, 0), (Bal.balTake (Bal.balIt tk)).getD (0, 0), (Cmd.takeOf (Cmd.cmIt cm)).getD Cmd.zeroCm, (T y).getD zeroAt⟩ : Rc) = _
    rw [w64_up h1.1 (by omega), w64_up h2.1 h2.2, w64_up h3.1 (by omega), hb, ht, hcm, hy hs]
    rfl
theorem attTake_zero : attTake Cmd.zeroIt = none := if_neg (by decide)
theorem oldTake_zero : oldTake Cmd.zeroIt = none := if_neg (by decide)
theorem rec_read {r : Rc} (h : rgt r = true) : readOf attTake (recIt r).kids = r :=
  read_back h attTake _ attTake_zero fun hs => att_put ((rgt_parts h).2.2.2.2.2.1 hs).2
theorem rec_back {r : Rc} (h : rgt r = true) : takeRc (recItem r) = some r := by
  have e : recItem r = recIt r := if_pos h
  unfold takeRc
  rw [e, rec_read h, e]
  have hs : same (recIt r) (recIt r) = true := (same_iff _ _).2 rfl
  rw [hs]
  rfl
theorem len_recItem (r : Rc) : (recItem r).kids.length ≤ 1000000000 := by
  unfold recItem
  split
  · show (if r.st = 0 then fronts r else fronts r ++ [Cmd.cmIt r.cm, attIt r.at_]).length ≤ _
    split
    · show 5 ≤ _; decide
    · show 7 ≤ _; decide
  · decide
end Go.Proofs.YtbjooblaamjppaaGreat.Rk
