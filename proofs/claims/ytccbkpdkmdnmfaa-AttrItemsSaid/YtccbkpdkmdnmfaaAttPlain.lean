/-
  What instances hang on, as plain values, of no program: what is wrong with one, what two come to, and what holds of that.
-/
import Derived.Test.YtccbkpdkmdnmfaaIdsPlain
namespace Go.Proofs.Ytccbkpdkmdnmfaa.Att
open Ids

/-- What an instance hangs on: its ids, its number, its tag. -/
structure At where
  dp : List (Int × Int)
  sq : Int
  tg : Int
def zeroAt : At := ⟨[], 0, 0⟩
/-- The greater one. -/
def amax (x y : Int) : Int := if x ≤ y then y else x
theorem amax_comm (x y : Int) : amax x y = amax y x := by unfold amax; split <;> split <;> omega
theorem amax_assoc (x y z : Int) : amax (amax x y) z = amax x (amax y z) := by unfold amax; (repeat' split) <;> omega
theorem amax_has (x y : Int) : amax (amax x y) x = amax x y := by unfold amax; split <;> split <;> omega
theorem le_amax (x y : Int) : x ≤ amax x y ∧ y ≤ amax x y := by unfold amax; split <;> omega
def aranged (s t : Int) : Bool := if t = 2 then decide (s = 0) else decide (1 ≤ s ∧ s ≤ 1099511627776)
def achk (a : At) : Int := if a.tg = 1 ∨ a.tg = 2 then if aranged a.sq a.tg = true then if Ids.chk a.dp = true then 0 else 4 else 6 else 17
def asame (a b : At) : Bool := decide (a.tg = b.tg ∧ a.sq = b.sq ∧ a.dp = b.dp)
def ajoin (a b : At) : At × Int :=
  if achk a = 0 ∧ achk b = 0 then
    if a.tg = b.tg then
      if (joinl a.dp b.dp).length ≤ 4096 then (⟨joinl a.dp b.dp, amax a.sq b.sq, a.tg⟩, 0) else (zeroAt, 12)
    else (zeroAt, 17)
  else (zeroAt, 4)

theorem asame_self (a : At) : asame a a = true := by simp [asame]
theorem achk_zero {a : At} : achk a = 0 ↔ (a.tg = 1 ∨ a.tg = 2) ∧ aranged a.sq a.tg = true ∧ Ids.chk a.dp = true := by
  unfold achk
  by_cases h1 : a.tg = 1 ∨ a.tg = 2
  · rw [if_pos h1]
    by_cases h2 : aranged a.sq a.tg = true
    · rw [if_pos h2]
      by_cases h3 : Ids.chk a.dp = true
      · simp [h1, h2, h3]
      · simp [h3]
    · simp [h2]
  · simp [h1]
theorem achk_up {a : At} (h : achk a = 0) : Up a.dp := (of_decide_eq_true (achk_zero.1 h).2.2).2.2
theorem achk_len {a : At} (h : achk a = 0) : a.dp.length ≤ 4096 := (of_decide_eq_true (achk_zero.1 h).2.2).1
theorem chk_joinl {a b : List (Int × Int)} (ha : Ids.chk a = true) (hb : Ids.chk b = true) (hl : (joinl a b).length ≤ 4096) : Ids.chk (joinl a b) = true := by
  have h1 := of_decide_eq_true ha
  have h2 := of_decide_eq_true hb
  refine decide_eq_true ⟨hl, fun x hx => ?_, up_joinl a b⟩
  rcases (mem_joinl a b x).1 hx with h | h
  · exact h1.2.1 x h
  · exact h2.2.1 x h
theorem joinl_comm (a b : List (Int × Int)) : joinl a b = joinl b a :=
  up_unique _ _ (up_joinl a b) (up_joinl b a) fun x => by rw [mem_joinl, mem_joinl]; exact Or.comm
theorem joinl_has {a b : List (Int × Int)} : joinl (joinl a b) a = joinl a b :=
  up_unique _ _ (up_joinl _ _) (up_joinl _ _) fun x => by
    simp only [mem_joinl]
    constructor
    · rintro ((h | h) | h)
      · exact .inl h
      · exact .inr h
      · exact .inl h
    · exact .inl
theorem joinl_assoc (a b c : List (Int × Int)) : joinl (joinl a b) c = joinl a (joinl b c) :=
  up_unique _ _ (up_joinl _ _) (up_joinl _ _) fun x => by simp only [mem_joinl]; exact or_assoc
theorem up_nodup {l : List (Int × Int)} (h : Up l) : l.Nodup := h.imp fun h => lt_ne h
/-- How many ids two sets have: those of the one, and those of the other that it hasn't. -/
theorem joinl_length {a b : List (Int × Int)} (ha : Up a) (hb : Up b) : (joinl a b).length = a.length + (b.filter fun x => !decide (x ∈ a)).length := by
  have hp : (joinl a b).Perm (a ++ b.filter fun x => !decide (x ∈ a)) := by
    refine (List.perm_ext_iff_of_nodup (up_nodup (up_joinl a b)) ?_).2 fun x => ?_
    · refine List.nodup_append.2 ⟨up_nodup ha, (up_nodup hb).filter _, fun x hx y hy e => ?_⟩
      subst e
      have := (List.mem_filter.1 hy).2
      simp [hx] at this
    · rw [mem_joinl, List.mem_append, List.mem_filter]
      by_cases h : x ∈ a <;> simp [h]
  rw [hp.length_eq, List.length_append]

theorem ajoin_comm (a b : At) : ajoin a b = ajoin b a := by
  unfold ajoin
  rw [joinl_comm a.dp b.dp, amax_comm a.sq b.sq]
  by_cases h1 : achk a = 0 ∧ achk b = 0
  · rw [if_pos h1, if_pos h1.symm]
    by_cases h2 : a.tg = b.tg
    · rw [if_pos h2, if_pos h2.symm, h2]
    · rw [if_neg h2, if_neg fun e => h2 e.symm]
  · rw [if_neg h1, if_neg fun e => h1 e.symm]
theorem ajoin_none {a b : At} (h : ¬ (ajoin a b).2 = 0) : (ajoin a b).1 = zeroAt := by
  unfold ajoin at *
  by_cases h1 : achk a = 0 ∧ achk b = 0
  · rw [if_pos h1] at h ⊢
    by_cases h2 : a.tg = b.tg
    · rw [if_pos h2] at h ⊢
      by_cases h3 : (joinl a.dp b.dp).length ≤ 4096
      · rw [if_pos h3] at h
        exact absurd rfl h
      · rw [if_neg h3]
    · rw [if_neg h2]
  · rw [if_neg h1]
theorem ajoin_ok {a b : At} (h : (ajoin a b).2 = 0) : achk a = 0 ∧ achk b = 0 ∧ a.tg = b.tg ∧ (joinl a.dp b.dp).length ≤ 4096 ∧ ajoin a b = (⟨joinl a.dp b.dp, amax a.sq b.sq, a.tg⟩, 0) := by
  unfold ajoin at *
  by_cases h1 : achk a = 0 ∧ achk b = 0
  · rw [if_pos h1] at h ⊢
    by_cases h2 : a.tg = b.tg
    · rw [if_pos h2] at h ⊢
      by_cases h3 : (joinl a.dp b.dp).length ≤ 4096
      · rw [if_pos h3] at h ⊢
        exact ⟨h1.1, h1.2, h2, h3, rfl⟩
      · rw [if_neg h3] at h
        cases h
    · rw [if_neg h2] at h
      cases h
  · rw [if_neg h1] at h
    cases h
theorem ajoin_of {a b : At} (ha : achk a = 0) (hb : achk b = 0) (ht : a.tg = b.tg) (hl : (joinl a.dp b.dp).length ≤ 4096) : ajoin a b = (⟨joinl a.dp b.dp, amax a.sq b.sq, a.tg⟩, 0) := by
  unfold ajoin
  rw [if_pos ⟨ha, hb⟩, if_pos ht, if_pos hl]
theorem ajoin_right {a b : At} (h : (ajoin a b).2 = 0) : achk (ajoin a b).1 = 0 := by
  obtain ⟨h1, h2, h3, h4, e⟩ := ajoin_ok h
  rw [e]
  obtain ⟨t1, r1, c1⟩ := achk_zero.1 h1
  obtain ⟨t2, r2, c2⟩ := achk_zero.1 h2
  rw [← h3] at r2
  refine achk_zero.2 ⟨t1, ?_, chk_joinl c1 c2 h4⟩
  show aranged (amax a.sq b.sq) a.tg = true
  unfold amax
  split
  · exact r2
  · exact r1
/-- Joined to either it stays. -/
theorem ajoin_stays {a b : At} (h : (ajoin a b).2 = 0) : ajoin (ajoin a b).1 a = ((ajoin a b).1, 0) := by
  have hr := ajoin_right h
  obtain ⟨h1, h2, h3, h4, e⟩ := ajoin_ok h
  rw [e] at hr ⊢
  rw [ajoin_of hr h1 rfl (by show (joinl (joinl a.dp b.dp) a.dp).length ≤ 4096; rw [joinl_has]; exact h4)]
  show ((⟨joinl (joinl a.dp b.dp) a.dp, amax (amax a.sq b.sq) a.sq, _⟩ : At), (0 : Int)) = _
  rw [joinl_has, amax_has]
theorem ajoin_has {a b : At} (h : (ajoin a b).2 = 0) : (∀ x ∈ a.dp, x ∈ (ajoin a b).1.dp) ∧ a.sq ≤ (ajoin a b).1.sq ∧ b.sq ≤ (ajoin a b).1.sq := by
  obtain ⟨h1, h2, h3, h4, e⟩ := ajoin_ok h
  rw [e]
  exact ⟨fun x hx => (mem_joinl _ _ x).2 (.inl hx), le_amax a.sq b.sq⟩
/-- Three that are joined, whichever two are joined first. -/
theorem ajoin_three {a b c : At} (h : (ajoin a b).2 = 0) (k : (ajoin b c).2 = 0) (la : a.dp.length ≤ 60) (lb : b.dp.length ≤ 60) (lc : c.dp.length ≤ 60) :
    ∃ z, ajoin (ajoin a b).1 c = (z, 0) ∧ ajoin a (ajoin b c).1 = (z, 0) := by
  have hr := ajoin_right h
  have kr := ajoin_right k
  obtain ⟨h1, h2, h3, h4, e⟩ := ajoin_ok h
  obtain ⟨k1, k2, k3, k4, f⟩ := ajoin_ok k
  have l1 := length_joinl a.dp b.dp
  have l2 := length_joinl b.dp c.dp
  have l3 := length_joinl (joinl a.dp b.dp) c.dp
  have l4 := length_joinl a.dp (joinl b.dp c.dp)
  rw [e] at hr ⊢
  rw [f] at kr ⊢
  refine ⟨_, ajoin_of hr k2 (h3.trans k3) (by show (joinl (joinl a.dp b.dp) c.dp).length ≤ 4096; omega), ?_⟩
  rw [ajoin_of h1 kr h3 (by show (joinl a.dp (joinl b.dp c.dp)).length ≤ 4096; omega)]
  show ((⟨joinl a.dp (joinl b.dp c.dp), amax a.sq (amax b.sq c.sq), _⟩ : At), (0 : Int)) = ((⟨joinl (joinl a.dp b.dp) c.dp, amax (amax a.sq b.sq) c.sq, _⟩ : At), (0 : Int))
  rw [joinl_assoc, amax_assoc]
end Go.Proofs.Ytccbkpdkmdnmfaa.Att
