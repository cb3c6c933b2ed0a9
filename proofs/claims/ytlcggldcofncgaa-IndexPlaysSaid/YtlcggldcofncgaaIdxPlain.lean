/-
  Texts of earlier layers, as one.
-/
import Derived.Test.YtlcggldcofncgaaRIdsP
import Derived.Test.YtlcggldcofncgaaRCmd
/- An index, plainly: entries, each an id, a command, a number; one out, one in; whom a command meets, and the greatest number of these. -/
namespace Go.Proofs.Ytlcggldcofncgaa.Ix
open Ids Cmd

/-- An entry. -/
structure En where
  i : Int × Int
  c : Cm
  s : Int
def dropE (l : List En) (i : Int × Int) : List En := l.filter fun e => decide (e.i ≠ i)
def putE (l : List En) (i : Int × Int) (c : Cm) (s : Int) : List En := dropE l i ++ [⟨i, c, s⟩]
/-- No id twice. -/
def Uq (l : List En) : Prop := l.Pairwise fun a b => a.i ≠ b.i
theorem Uq.eq {l : List En} (u : Uq l) {a b : En} (ha : a ∈ l) (hb : b ∈ l) (e : a.i = b.i) : a = b := by
  induction l with
  | nil => cases ha
  | cons x l ih =>
    obtain ⟨h1, h2⟩ := List.pairwise_cons.1 u
    rcases List.mem_cons.1 ha with ea | ha'
    · rcases List.mem_cons.1 hb with eb | hb'
      · rw [ea, eb]
      · exact absurd (ea ▸ e) (h1 b hb')
    · rcases List.mem_cons.1 hb with eb | hb'
      · exact absurd (eb ▸ e).symm (h1 a ha')
      · exact ih h2 ha' hb'
theorem mem_dropE {l : List En} {i : Int × Int} {e : En} : e ∈ dropE l i ↔ e ∈ l ∧ e.i ≠ i := by simp [dropE]
theorem Uq.drop {l : List En} (u : Uq l) (i : Int × Int) : Uq (dropE l i) := List.Pairwise.filter _ u
theorem Uq.put {l : List En} (u : Uq l) (i : Int × Int) (c : Cm) (s : Int) : Uq (putE l i c s) := List.pairwise_append.2 ⟨u.drop i, List.pairwise_singleton _ _, fun a ha b hb => by
  rw [List.mem_singleton.1 hb]
  exact (mem_dropE.1 ha).2⟩
theorem length_dropE (l : List En) (i : Int × Int) : (dropE l i).length ≤ l.length := List.length_filter_le _ _
theorem length_putE (l : List En) (i : Int × Int) (c : Cm) (s : Int) : (putE l i c s).length ≤ l.length + 1 := by
  have := length_dropE l i
  simp [putE]
  omega
theorem dropE_out {l : List En} {i : Int × Int} (h : ∀ e ∈ l, e.i ≠ i) : dropE l i = l := List.filter_eq_self.2 fun e he => by simpa using h e he
theorem length_dropE_in {l : List En} (u : Uq l) {e : En} (he : e ∈ l) : (dropE l e.i).length + 1 = l.length := by
  induction l with
  | nil => cases he
  | cons x l ih =>
    obtain ⟨h1, h2⟩ := List.pairwise_cons.1 u
    rcases List.mem_cons.1 he with rfl | he
    · have : dropE (e :: l) e.i = dropE l e.i := by simp [dropE]
      rw [this, dropE_out fun y hy => (h1 y hy).symm]
      simp
    · have hne : x.i ≠ e.i := h1 e he
      have : dropE (x :: l) e.i = x :: dropE l e.i := by simp [dropE, hne]
      rw [this, List.length_cons, ih h2 he, List.length_cons]
/-- Whom a command meets, but one. -/
def metE (l : List En) (c : Cm) (but : Int × Int) : List En := l.filter fun e => decide (e.i ≠ but) && meet c e.c
theorem mem_metE {l : List En} {c : Cm} {but : Int × Int} {e : En} : e ∈ metE l c but ↔ e ∈ l ∧ e.i ≠ but ∧ meet c e.c = true := by simp [metE]
def depsE (l : List En) (c : Cm) (but : Int × Int) : List (Int × Int) := setl ((metE l c but).map (·.i))
/-- The greatest of these, and of 0. -/
def top (xs : List Int) : Int := xs.foldl max 0
theorem foldl_max (xs : List Int) : ∀ a : Int, a ≤ xs.foldl max a ∧ (∀ x ∈ xs, x ≤ xs.foldl max a) ∧ (xs.foldl max a = a ∨ xs.foldl max a ∈ xs) := by
  induction xs with
  | nil => intro a; simp
  | cons x xs ih =>
    intro a
    obtain ⟨h1, h2, h3⟩ := ih (max a x)
    simp only [List.foldl_cons]
    refine ⟨by omega, fun y hy => ?_, ?_⟩
    · rcases List.mem_cons.1 hy with rfl | hy
      · omega
      · exact h2 y hy
    · rcases h3 with h3 | h3
      · rw [h3]
        rcases Int.le_total a x with h | h
        · right
          rw [Int.max_eq_right h]
          simp
        · left
          exact Int.max_eq_left h
      · right
        exact List.mem_cons_of_mem _ h3
theorem top_nonneg (xs : List Int) : 0 ≤ top xs := (foldl_max xs 0).1
theorem top_le {xs : List Int} {x : Int} (h : x ∈ xs) : x ≤ top xs := (foldl_max xs 0).2.1 x h
theorem top_cases (xs : List Int) : top xs = 0 ∨ top xs ∈ xs := (foldl_max xs 0).2.2
theorem top_snoc (xs : List Int) (x : Int) : top (xs ++ [x]) = max (top xs) x := by simp [top, List.foldl_append]
theorem top_same {xs ys : List Int} (h : ∀ x, x ∈ xs ↔ x ∈ ys) : top xs = top ys := by
  have h1 : top xs ≤ top ys := by
    rcases top_cases xs with e | e
    · rw [e]; exact top_nonneg ys
    · exact top_le ((h _).1 e)
  have h2 : top ys ≤ top xs := by
    rcases top_cases ys with e | e
    · rw [e]; exact top_nonneg xs
    · exact top_le ((h _).2 e)
  omega
theorem top_bound {xs : List Int} {b : Int} (hb : 0 ≤ b) (h : ∀ x ∈ xs, x ≤ b) : top xs ≤ b := by
  rcases top_cases xs with e | e
  · omega
  · exact h _ e
def topE (l : List En) (c : Cm) (but : Int × Int) : Int := top ((metE l c but).map (·.s))
/-- What Meet asks of a command. -/
def ask (c : Cm) : Cm := if c.kd = 0 ∨ c.kd = 6 then ⟨c.kd, 0, 0, ⟨#[]⟩, ⟨#[]⟩, 0⟩ else ⟨c.kd, c.cl, 0, c.ky, ⟨#[]⟩, 0⟩
theorem ask_kd (c : Cm) : (ask c).kd = c.kd := by
  unfold ask
  split <;> rfl
theorem ask_ky {c : Cm} (h : ¬ (c.kd = 0 ∨ c.kd = 6)) : (ask c).ky = c.ky ∧ (ask c).cl = c.cl := by
  unfold ask
  rw [if_neg h]
  exact ⟨rfl, rfl⟩
theorem ask_ky_size (c : Cm) : (ask c).ky.size ≤ c.ky.size := by
  unfold ask
  split
  · exact Nat.zero_le _
  · exact Nat.le_refl _
theorem meet_ask (a b : Cm) : meet (ask a) b = meet a b := by
  by_cases h : a.kd = 0 ∨ a.kd = 6
  · unfold meet
    rw [ask_kd]
    rcases h with h | h
    · rw [if_pos (.inl h), if_pos (.inl h)]
    · split
      · rfl
      · rw [if_pos (.inl h), if_pos (.inl h)]
  · have h1 := ask_ky h
    unfold meet covers
    rw [ask_kd, h1.1, h1.2]
/-- What the index holds of an id. -/
def heldF (l : List En) (i : Int × Int) : Option (Cm × Int) := (l.find? fun e => decide (e.i = i)).map fun e => (ask e.c, e.s)
theorem heldF_in {l : List En} (u : Uq l) {e : En} (he : e ∈ l) : heldF l e.i = some (ask e.c, e.s) := by
  unfold heldF
  cases hf : l.find? fun x => decide (x.i = e.i) with
  | none =>
    have := List.find?_eq_none.1 hf e he
    simp at this
  | some y =>
    have h1 := List.mem_of_find?_eq_some hf
    have h2 := List.find?_some hf
    simp only [decide_eq_true_eq] at h2
    rw [u.eq h1 he h2]
    rfl
theorem heldF_some {l : List En} {i : Int × Int} {x : Cm × Int} (h : heldF l i = some x) : ∃ e ∈ l, e.i = i ∧ x = (ask e.c, e.s) := by
  unfold heldF at h
  cases hf : l.find? fun x => decide (x.i = i) with
  | none => rw [hf] at h; cases h
  | some y =>
    rw [hf] at h
    have h1 := List.mem_of_find?_eq_some hf
    have h2 := List.find?_some hf
    simp only [decide_eq_true_eq] at h2
    exact ⟨y, h1, h2, (Option.some.inj h).symm⟩
theorem heldF_out {l : List En} {i : Int × Int} (h : ∀ e ∈ l, e.i ≠ i) : heldF l i = none := by
  unfold heldF
  rw [List.find?_eq_none.2 fun t ht => by simpa using h t ht]
  rfl
theorem heldF_none {l : List En} {i : Int × Int} (h : heldF l i = none) : ∀ e ∈ l, e.i ≠ i := by
  unfold heldF at h
  rw [Option.map_eq_none_iff] at h
  intro e he
  simpa using List.find?_eq_none.1 h e he
theorem heldF_drop (l : List En) (i j : Int × Int) : heldF (dropE l i) j = if j = i then none else heldF l j := by
  by_cases e : j = i
  · rw [if_pos e]
    exact heldF_out fun x hx => by rw [e]; exact (mem_dropE.1 hx).2
  · rw [if_neg e]
    unfold heldF dropE
    rw [List.find?_filter]
    congr 2
    funext x
    by_cases h : x.i = j
    · simp [h, e]
    · simp [h]
theorem heldF_put (l : List En) (i j : Int × Int) (c : Cm) (s : Int) : heldF (putE l i c s) j = if j = i then some (ask c, s) else heldF l j := by
  have h1 : heldF (putE l i c s) j = match heldF (dropE l i) j with | some x => some x | none => if i = j then some (ask c, s) else none := by
    unfold heldF putE
    rw [List.find?_append]
    cases hf : (dropE l i).find? fun e => decide (e.i = j) with
    | some x => rfl
    | none =>
      by_cases e : i = j <;> simp [e]
  rw [h1, heldF_drop]
  by_cases e : j = i
  · subst e
    simp
  · rw [if_neg e, if_neg e]
    cases heldF l j with
    | some x => rfl
    | none => simpa using fun h : i = j => e h.symm
end Go.Proofs.Ytlcggldcofncgaa.Ix
