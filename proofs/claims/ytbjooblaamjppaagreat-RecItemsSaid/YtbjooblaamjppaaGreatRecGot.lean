/-
  Texts of earlier layers, as one.
-/
import Derived.Test.YtbjooblaamjppaaGreatRecFront
import Derived.Test.YtbjooblaamjppaaGreatRecBack
import Derived.Test.YtbjooblaamjppaaGreatRecOld
import Derived.Test.YtbjooblaamjppaaGreatRBase
/- The record that the document takes of an item, plainly: it is the one whose item, or old form, the item is, as it is of the program. -/
namespace Go.Proofs.YtbjooblaamjppaaGreat.Rk
open Go.RowKit Cod Ids Att Mem

theorem front_zero (l : List It) : (frontRc l).cm = Cmd.zeroCm ∧ (frontRc l).at_ = zeroAt := by
  unfold frontRc
  split
  · exact ⟨rfl, rfl⟩
  · exact ⟨rfl, rfl⟩
theorem front_seven {l : List It} (h : frontB l = true) (hs : ¬ (frontRc l).st = 0) : l.length = 7 := by
  unfold frontB at h
  split at h
  · rename_i hl
    rcases hl with hl | hl
    · exfalso
      apply hs
      unfold frontRc
      rw [if_pos (.inl hl)]
      unfold frontOk at h
      simp only [Bool.and_eq_true] at h
      have h2 := h.2
      rw [hl] at h2
      have h3 : (Cmd.cap (l.getD 2 Cmd.zeroIt).num == 0) = true := by
        cases hc : (Cmd.cap (l.getD 2 Cmd.zeroIt).num == 0) with
        | true => rfl
        | false => rw [hc] at h2; cases h2
      exact eq_of_beq h3
    · exact hl
  · cases h
/-- What the document reads, and whether all its parts are so. -/
noncomputable def gotRc (T : It → Option At) (l : List It) : Rc :=
  if frontB l = true ∧ ¬ (frontRc l).st = 0 then ⟨(frontRc l).id, (frontRc l).st, (frontRc l).bl, (frontRc l).tk, (Cmd.takeOf (l.getD 5 Cmd.zeroIt)).getD Cmd.zeroCm, (T (l.getD 6 Cmd.zeroIt)).getD zeroAt⟩ else frontRc l
noncomputable def gotB (T : It → Option At) (l : List It) : Bool :=
  if frontB l = true ∧ ¬ (frontRc l).st = 0 then (Cmd.takeOf (l.getD 5 Cmd.zeroIt)).isSome && (T (l.getD 6 Cmd.zeroIt)).isSome else frontB l
noncomputable def refTakeRc (x : It) : Option Rc := if (gotB attTake x.kids && (rgt (gotRc attTake x.kids) && same x (recIt (gotRc attTake x.kids)))) = true then some (gotRc attTake x.kids) else none
noncomputable def refOldRc (x : It) : Option Rc := if (gotB oldTake x.kids && ((recOld (gotRc oldTake x.kids)).2 == 0 && same x (recOld (gotRc oldTake x.kids)).1)) = true then some (gotRc oldTake x.kids) else none

theorem got_key (T : It → Option At) {l : List It} (h : (Cmd.kid (l.getD 5 Cmd.zeroIt) 3).str.size ≤ 1073741824) : (gotRc T l).cm.ky.size ≤ 1073741824 := by
  unfold gotRc
  split
  · show ((Cmd.takeOf (l.getD 5 Cmd.zeroIt)).getD Cmd.zeroCm).ky.size ≤ _
    unfold Cmd.takeOf
    split
    · exact h
    · decide
  · rw [(front_zero l).1]
    decide
theorem cap_up {v : Int} (h : 0 ≤ v) (h' : v ≤ 1099511627776) : Cmd.cap v.toNat = v := by
  rw [Cmd.cap, if_neg (by omega), w64_up h h']
/-- The parts of a right record, with its last part as told, read again. -/
theorem got_back {r : Rc} (h : rgt r = true) (T : It → Option At) (y : It) (hy : ¬ r.st = 0 → T y = some r.at_) : gotRc T (laidIt r y).kids = r ∧ gotB T (laidIt r y).kids = true := by
  obtain ⟨h1, h2, h3, h4, h5, h6, h7⟩ := rgt_parts h
  have hb := Bal.take_bal h4
  have ht := Bal.take_bal h5
  obtain ⟨⟨r1, r2⟩, st, bl, tk, cm, att⟩ := r
  simp only at h1 h2 h3 h4 h5 h6 h7 hb ht hy
  by_cases hs : st = 0
  · obtain ⟨k1, k2, k3⟩ := h7 hs
    subst hs k2 k3
    have e : (laidIt ⟨(r1, r2), 0, bl, tk, Cmd.zeroCm, zeroAt⟩ y).kids = [Cmd.numIt r1, Cmd.numIt r2, Cmd.numIt 0, Bal.balIt bl, Bal.balIt tk] := rfl
    rw [e]
    have ef : frontRc [Cmd.numIt r1, Cmd.numIt r2, Cmd.numIt 0, Bal.balIt bl, Bal.balIt tk] = ⟨(r1, r2), 0, bl, tk, Cmd.zeroCm, zeroAt⟩ := by
      unfold frontRc
      rw [if_pos (.inl rfl)]
      show (⟨(Cmd.cap r1.toNat, Cmd.cap r2.toNat), Cmd.cap (0 : Int).toNat, (Bal.balTake (Bal.balIt bl)).getD (0, 0), (Bal.balTake (Bal.balIt tk)).getD (0, 0), Cmd.zeroCm, zeroAt⟩ : Rc) = _
      rw [cap_up h1.1 (by omega), cap_up h2.1 h2.2, cap_up (by decide) (by decide), hb, ht]
      rfl
    have eb : frontB [Cmd.numIt r1, Cmd.numIt r2, Cmd.numIt 0, Bal.balIt bl, Bal.balIt tk] = true := by
      unfold frontB
      rw [if_pos (.inl rfl)]
      show ((Bal.balTake (Bal.balIt bl)).isSome && (Bal.balTake (Bal.balIt tk)).isSome && (((5 : Int) == 5) == (Cmd.cap (0 : Int).toNat == 0))) = true
      rw [hb, ht, cap_up (by decide) (by decide)]
      rfl
    have hn : ¬ (true = true ∧ ¬ (⟨(r1, r2), 0, bl, tk, Cmd.zeroCm, zeroAt⟩ : Rc).st = 0) := fun h => h.2 rfl
    unfold gotRc gotB
    rw [ef, eb, if_neg hn, if_neg hn]
    exact ⟨rfl, rfl⟩
  · obtain ⟨k1, k2⟩ := h6 hs
    have hcm := Cmd.take_cm k1
    have e : (laidIt ⟨(r1, r2), st, bl, tk, cm, att⟩ y).kids = [Cmd.numIt r1, Cmd.numIt r2, Cmd.numIt st, Bal.balIt bl, Bal.balIt tk, Cmd.cmIt cm, y] := by
      unfold laidIt
      rw [if_neg hs]
      rfl
    rw [e]
    have ef : frontRc [Cmd.numIt r1, Cmd.numIt r2, Cmd.numIt st, Bal.balIt bl, Bal.balIt tk, Cmd.cmIt cm, y] = ⟨(r1, r2), st, bl, tk, Cmd.zeroCm, zeroAt⟩ := by
      unfold frontRc
      rw [if_pos (.inr rfl)]
      show (⟨(Cmd.cap r1.toNat, Cmd.cap r2.toNat), Cmd.cap st.toNat, (Bal.balTake (Bal.balIt bl)).getD (0, 0), (Bal.balTake (Bal.balIt tk)).getD (0, 0), Cmd.zeroCm, zeroAt⟩ : Rc) = _
      rw [cap_up h1.1 (by omega), cap_up h2.1 h2.2, cap_up h3.1 (by omega), hb, ht]
      rfl
    have eb : frontB [Cmd.numIt r1, Cmd.numIt r2, Cmd.numIt st, Bal.balIt bl, Bal.balIt tk, Cmd.cmIt cm, y] = true := by
      unfold frontB
      rw [if_pos (.inr rfl)]
      show ((Bal.balTake (Bal.balIt bl)).isSome && (Bal.balTake (Bal.balIt tk)).isSome && (((7 : Int) == 5) == (Cmd.cap st.toNat == 0))) = true
      have hf : (st == 0) = false := beq_eq_false_iff_ne.2 hs
      rw [hb, ht, cap_up h3.1 (by omega), hf]
      rfl
    have hn : true = true ∧ ¬ (⟨(r1, r2), st, bl, tk, Cmd.zeroCm, zeroAt⟩ : Rc).st = 0 := ⟨rfl, hs⟩
    unfold gotRc gotB
    rw [ef, eb, if_pos hn, if_pos hn]
    show (⟨(r1, r2), st, bl, tk, (Cmd.takeOf (Cmd.cmIt cm)).getD Cmd.zeroCm, (T y).getD zeroAt⟩ : Rc) = _ ∧ ((Cmd.takeOf (Cmd.cmIt cm)).isSome && (T y).isSome) = true
    rw [hcm, hy hs]
    exact ⟨rfl, rfl⟩
theorem kind_laid (r : Rc) (y : It) : (laidIt r y).kind = 2 := rfl
theorem takeRc_iff {x : It} {r : Rc} : takeRc x = some r ↔ rgt r = true ∧ recIt r = x := by
  constructor
  · intro h
    unfold takeRc at h
    split at h
    · rename_i hc
      injection h with h
      rw [Bool.and_eq_true] at hc
      have h2 := (same_iff _ _).1 hc.2
      have h1 := eq_of_beq hc.1
      rw [h] at h2
      unfold recItem at h2
      split at h2
      · rename_i h3
        exact ⟨h3, h2⟩
      · rw [← h2] at h1
        cases h1
    · cases h
  · rintro ⟨h, hx⟩
    have h1 := rec_back h
    have e : recItem r = recIt r := if_pos h
    rw [e, hx] at h1
    exact h1
theorem refTakeRc_iff {x : It} {r : Rc} : refTakeRc x = some r ↔ rgt r = true ∧ recIt r = x := by
  constructor
  · intro h
    unfold refTakeRc at h
    split at h
    · rename_i hc
      injection h with h
      rw [h, Bool.and_eq_true, Bool.and_eq_true] at hc
      exact ⟨hc.2.1, ((same_iff _ _).1 hc.2.2).symm⟩
    · cases h
  · rintro ⟨h, rfl⟩
    obtain ⟨h1, h2⟩ := got_back h attTake (attIt r.at_) fun hs => att_put ((rgt_parts h).2.2.2.2.2.1 hs).2
    have e : recIt r = laidIt r (attIt r.at_) := rfl
    unfold refTakeRc
    rw [e, h1, h2, h, ← e, (same_iff _ _).2 rfl]
    rfl
theorem ref_take (x : It) : refTakeRc x = takeRc x := by
  cases h : takeRc x with
  | none =>
    cases h' : refTakeRc x with
    | none => rfl
    | some r =>
      rw [takeRc_iff.2 (refTakeRc_iff.1 h')] at h
      cases h
  | some r => exact refTakeRc_iff.2 (takeRc_iff.1 h)
theorem old_of {r : Rc} (h : rgt r = true) (ht : ¬ (r.at_.tg = 2 ∨ r.cm.kd = 6)) : ¬ r.st = 0 → oldTake (oldIt r.at_) = some r.at_ := fun hs => by
  have h2 := ((rgt_parts h).2.2.2.2.2.1 hs).2
  refine old_put h2 ?_
  rcases (achk_zero.1 h2).1 with e | e
  · exact e
  · exact absurd (.inl e) ht
theorem oldTakeRc_iff {x : It} {r : Rc} : oldTakeRc x = some r ↔ (rgt r = true ∧ ¬ (r.at_.tg = 2 ∨ r.cm.kd = 6)) ∧ oldRc r = x := by
  constructor
  · intro h
    unfold oldTakeRc at h
    split at h
    · rename_i hc
      injection h with h
      rw [Bool.and_eq_true] at hc
      have h2 := (same_iff _ _).1 hc.2
      have h1 := eq_of_beq hc.1
      rw [h] at h2
      unfold recOld at h2
      split at h2
      · rename_i h3
        split at h2
        · rw [← h2] at h1
          cases h1
        · rename_i h4
          exact ⟨⟨h3, h4⟩, h2⟩
      · rw [← h2] at h1
        cases h1
    · cases h
  · rintro ⟨⟨h, ht⟩, rfl⟩
    have h1 := read_back h oldTake (oldIt r.at_) oldTake_zero (old_of h ht)
    have e : oldRc r = laidIt r (oldIt r.at_) := rfl
    have e2 : (recOld r).1 = oldRc r := by rw [recOld, if_pos h, if_neg ht]
    unfold oldTakeRc
    rw [e, h1, e2, e, (same_iff _ _).2 rfl]
    rfl
theorem refOldRc_iff {x : It} {r : Rc} : refOldRc x = some r ↔ (rgt r = true ∧ ¬ (r.at_.tg = 2 ∨ r.cm.kd = 6)) ∧ oldRc r = x := by
  constructor
  · intro h
    unfold refOldRc at h
    split at h
    · rename_i hc
      injection h with h
      rw [h, Bool.and_eq_true, Bool.and_eq_true] at hc
      have h1 := eq_of_beq hc.2.1
      have h2 := ((same_iff _ _).1 hc.2.2).symm
      unfold recOld at h1 h2
      split at h1
      · rename_i h3
        rw [if_pos h3] at h2
        split at h1
        · cases h1
        · rename_i h4
          rw [if_neg h4] at h2
          exact ⟨⟨h3, h4⟩, h2⟩
      · cases h1
    · cases h
  · rintro ⟨⟨h, ht⟩, rfl⟩
    obtain ⟨h1, h2⟩ := got_back h oldTake (oldIt r.at_) (old_of h ht)
    have e : oldRc r = laidIt r (oldIt r.at_) := rfl
    have e2 : recOld r = (oldRc r, 0) := by rw [recOld, if_pos h, if_neg ht]
    unfold refOldRc
    rw [e, h1, h2, e2, ← e, (same_iff _ _).2 rfl]
    rfl
theorem ref_old (x : It) : refOldRc x = oldTakeRc x := by
  cases h : oldTakeRc x with
  | none =>
    cases h' : refOldRc x with
    | none => rfl
    | some r =>
      rw [oldTakeRc_iff.2 (refOldRc_iff.1 h')] at h
      cases h
  | some r => exact refOldRc_iff.2 (oldTakeRc_iff.1 h)
/-- What is put is taken as it was. -/
theorem old_back {r : Rc} (h : (recOld r).2 = 0) : oldTakeRc (recOld r).1 = some r := by
  unfold recOld at h ⊢
  split at h
  · rename_i h1
    rw [if_pos h1]
    split at h
    · cases h
    · rename_i h2
      rw [if_neg h2]
      exact oldTakeRc_iff.2 ⟨⟨h1, h2⟩, rfl⟩
  · cases h
/-- Ids in newer blocks stay when a cell is written over. -/
theorem Rs.set1 {w : World} {base r n c : Nat} {V : Option Addr} {l : List (Int × Int)} (h : Rs w V n c l) (hn : ∀ g o, V = some ⟨g, o, none⟩ → base ≤ g) (hr : r < base) (i : Nat) (u : Value) :
    Rs (w.setCell ⟨r, i, none⟩ u) V n c l := by
  refine ⟨h.len, h.le, h.cap, h.nil, fun h0 => ?_⟩
  obtain ⟨g, o, e, hb, hc⟩ := h.spot h0
  have hg := hn g o e
  have hk : ∀ p : Addr, p.block = g → (w.setCell ⟨r, i, none⟩ u).cell? p = w.cell? p := fun p hp => by
    have hne : p.block ≠ r := by omega
    exact World.cell?_of_block (Below.heap_setCell _ ⟨r, i, none⟩ u _ hne)
  exact ⟨g, o, e, by simpa [World.setCell] using hb, fun j y hy => ⟨(hk ⟨g, o + j * 2, none⟩ rfl).trans (hc j y hy).1, (hk ⟨g, o + j * 2 + 1, none⟩ rfl).trans (hc j y hy).2⟩⟩
/-- Where the ways meet: the record that was read, in a box of the call's own. -/
def GotCut (W : World) (q : Rc) (b : Bool) (v4 v5 : Value) (wx : World) : Prop :=
  ∃ p V nv cv, v4 = .pointer (some ⟨p, 0, none⟩) ∧ v5 = .bool b ∧ W.heap.size ≤ p ∧ Blk wx p 32 #[.int .i64 q.id.1, .int .i64 q.id.2, .int .i64 q.st, .int .i64 q.bl.1, .int .i64 q.bl.2, .int .i64 q.tk.1, .int .i64 q.tk.2, .int .i64 q.cm.kd, .int .i64 q.cm.cl, .int .i64 q.cm.sq, .string q.cm.ky, .string q.cm.vl, .int .i64 q.cm.rv, .slice V nv cv, .int .i64 q.at_.sq, .int .i64 q.at_.tg] ∧ Rs wx V nv cv q.at_.dp ∧ (∀ g o, V = some ⟨g, o, none⟩ → W.heap.size ≤ g) ∧ Below W.heap.size W wx
end Go.Proofs.YtbjooblaamjppaaGreat.Rk
