/-
  Texts of earlier layers, as one.
-/
import Derived.Test.YtpalmnjapiijaaaCompTarMem
/- A heap of numbers, of no program: what a step up and a step down keep, the places behind them, two places' turning round. -/
namespace Go.Proofs.Ytpalmnjapiijaaa.Gr.Hq
open Go.RowKit Mem

def tlt (x y : Nat) : Bool := decide (x < y)
def le (x y : Nat) : Prop := tlt y x = false
theorem le_iff {x y : Nat} : le x y ↔ x ≤ y := by unfold le tlt; rw [decide_eq_false_iff_not]; omega
theorem le_refl (x : Nat) : le x x := le_iff.2 (Nat.le_refl x)
theorem le_trans {x y z : Nat} (h : le x y) (k : le y z) : le x z := le_iff.2 (Nat.le_trans (le_iff.1 h) (le_iff.1 k))
theorem le_of {x y : Nat} (h : tlt x y = true) : le x y := le_iff.2 (by unfold tlt at h; have := of_decide_eq_true h; omega)
/-- The first n are a heap. -/
def Hp (n : Nat) (f : Nat → Nat) : Prop := ∀ k, 0 < k → k < n → le (f ((k - 1) / 2)) (f k)
/-- .. but for place j and its parent. -/
def UpI (n : Nat) (f : Nat → Nat) (j : Nat) : Prop := (∀ k, 0 < k → k < n → k ≠ j → le (f ((k - 1) / 2)) (f k)) ∧ ∀ k, 0 < k → k < n → (k - 1) / 2 = j → 0 < j → le (f ((j - 1) / 2)) (f k)
/-- .. but for place i, its children, and its parent where it is i0. -/
def DnI (n : Nat) (f : Nat → Nat) (i i0 : Nat) : Prop := (∀ k, 0 < k → k < n → (k - 1) / 2 ≠ i → (k ≠ i ∨ i ≠ i0) → le (f ((k - 1) / 2)) (f k)) ∧ ∀ k, 0 < k → k < n → (k - 1) / 2 = i → 0 < i → le (f ((i - 1) / 2)) (f k)
def sw (f : Nat → Nat) (i j : Nat) : Nat → Nat := fun k => if k = i then f j else if k = j then f i else f k
theorem sw_l (f : Nat → Nat) (i j : Nat) : sw f i j i = f j := by simp [sw]
theorem sw_r (f : Nat → Nat) (i j : Nat) : sw f i j j = f i := by
  unfold sw
  split
  · rename_i e
    rw [e]
  · simp
theorem sw_o (f : Nat → Nat) {i j k : Nat} (h1 : k ≠ i) (h2 : k ≠ j) : sw f i j k = f k := by simp [sw, h1, h2]
theorem up_step {n j i : Nat} {f : Nat → Nat} (h : UpI n f j) (hj : 0 < j) (hn : j < n) (hi : i = (j - 1) / 2) (hl : tlt (f j) (f i) = true) : UpI n (sw f i j) i := by
  obtain ⟨h1, h2⟩ := h
  have hij : i < j := by omega
  have hlt := le_of hl
  refine ⟨fun k k0 kn hk => ?_, fun k k0 kn hk i0 => ?_⟩
  · by_cases e : k = j
    · subst e
      rw [← hi, sw_l, sw_r]
      exact hlt
    · rw [sw_o f hk e]
      by_cases e1 : (k - 1) / 2 = i
      · rw [e1, sw_l]
        have := h1 k k0 kn e
        rw [e1] at this
        exact le_trans hlt this
      · by_cases e2 : (k - 1) / 2 = j
        · rw [e2, sw_r]
          have := h2 k k0 kn e2 hj
          rwa [← hi] at this
        · rw [sw_o f e1 e2]
          exact h1 k k0 kn e
  · have hpi := h1 i i0 (by omega) (by omega)
    rw [sw_o f (k := (i - 1) / 2) (by omega) (by omega)]
    by_cases e : k = j
    · subst e
      rw [sw_r]
      exact hpi
    · rw [sw_o f (by omega) e]
      have := h1 k k0 kn e
      rw [hk] at this
      exact le_trans hpi this
theorem up_end {n j : Nat} {f : Nat → Nat} (h : UpI n f j) (hl : j = 0 ∨ tlt (f j) (f ((j - 1) / 2)) = false) : Hp n f := fun k k0 kn => by
  by_cases e : k = j
  · subst e
    rcases hl with rfl | hl
    · omega
    · exact hl
  · exact h.1 k k0 kn e
theorem dn_step {n i i0 j : Nat} {f : Nat → Nat} (h : DnI n f i i0) (hi0 : i0 ≤ i) (hj : 0 < j) (hn : j < n) (hi : (j - 1) / 2 = i) (hmin : ∀ k, 0 < k → k < n → (k - 1) / 2 = i → le (f j) (f k)) (hl : tlt (f j) (f i) = true) : DnI n (sw f i j) j i0 := by
  obtain ⟨h1, h2⟩ := h
  have hij : i < j := by omega
  have hlt := le_of hl
  refine ⟨fun k k0 kn hk _ => ?_, fun k k0 kn hk _ => ?_⟩
  · by_cases e : k = j
    · subst e
      rw [hi, sw_l, sw_r]
      exact hlt
    · by_cases e1 : k = i
      · subst e1
        rw [sw_l, sw_o f (k := (k - 1) / 2) (by omega) (by omega)]
        exact h2 j hj hn hi k0
      · rw [sw_o f e1 e]
        by_cases e2 : (k - 1) / 2 = i
        · rw [e2, sw_l]
          exact hmin k k0 kn e2
        · rw [sw_o f e2 hk]
          exact h1 k k0 kn e2 (.inl e1)
  · rw [hi, sw_l, sw_o f (k := k) (by omega) (by omega)]
    have := h1 k k0 kn (by omega) (.inl (by omega))
    rwa [hk] at this
theorem dn_top {n i : Nat} {f : Nat → Nat} (h : DnI n f i i) (hc : ∀ k, 0 < k → k < n → (k - 1) / 2 = i → le (f i) (f k)) : UpI n f i :=
  ⟨fun k k0 kn hk => by
    by_cases e : (k - 1) / 2 = i
    · rw [e]
      exact hc k k0 kn e
    · exact h.1 k k0 kn e (.inl hk), h.2⟩
theorem dn_end {n i i0 : Nat} {f : Nat → Nat} (h : DnI n f i i0) (hne : i ≠ i0) (hc : ∀ k, 0 < k → k < n → (k - 1) / 2 = i → le (f i) (f k)) : Hp n f := fun k k0 kn => by
  by_cases e : (k - 1) / 2 = i
  · rw [e]
    exact hc k k0 kn e
  · exact h.1 k k0 kn e (.inr hne)
theorem Hp.hole {n i : Nat} {f g : Nat → Nat} (h : Hp n f) (hg : ∀ k, k < n → k ≠ i → g k = f k) : DnI n g i i :=
  ⟨fun k k0 kn hk hne => by
    rw [hg k kn (by omega), hg _ (by omega) hk]
    exact h k k0 kn, fun k k0 kn hk i0 => by
    rw [hg k kn (by omega), hg ((i - 1) / 2) (by omega) (by omega)]
    have h1 := h k k0 kn
    rw [hk] at h1
    exact le_trans (h i i0 (by omega)) h1⟩
theorem Hp.push {n : Nat} {f g : Nat → Nat} (h : Hp n f) (hg : ∀ k, k < n → g k = f k) : UpI (n + 1) g n :=
  ⟨fun k k0 kn hk => by
    rw [hg k (by omega), hg _ (by omega)]
    exact h k k0 (by omega), fun k k0 kn hk _ => by omega⟩
theorem Hp.root {n : Nat} {f : Nat → Nat} (h : Hp n f) : ∀ k, k < n → le (f 0) (f k) := fun k => by
  induction k using Nat.strongRecOn with
  | ind k ih =>
    intro kn
    by_cases e : k = 0
    · subst e
      exact le_refl _
    · exact le_trans (ih ((k - 1) / 2) (by omega) (by omega)) (h k (by omega) kn)
theorem Hp.of {n m : Nat} {f g : Nat → Nat} (h : Hp n f) (hm : m ≤ n) (hg : ∀ k, k < m → g k = f k) : Hp m g := fun k k0 km => by
  rw [hg k km, hg _ (by omega)]
  exact h k k0 (by omega)
/-- A list's place. -/
def G (h : List Nat) (k : Nat) : Nat := h.getD k 0
theorem G_at {h : List Nat} {k : Nat} {x : Nat} (e : h[k]? = some x) : G h k = x := by simp [G, List.getD, e]
theorem at_G {h : List Nat} {k : Nat} (hk : k < h.length) : h[k]? = some (G h k) := by simp [G, List.getD, List.getElem?_eq_getElem hk]
def swl (h : List Nat) (i j : Nat) : List Nat := (h.set i (G h j)).set j (G h i)
theorem length_swl (h : List Nat) (i j : Nat) : (swl h i j).length = h.length := by simp [swl]
theorem G_swl {h : List Nat} {i j : Nat} (hi : i < h.length) (hj : j < h.length) : G (swl h i j) = sw (G h) i j := by
  funext k
  unfold sw
  by_cases hk : k < h.length
  · refine G_at ?_
    unfold swl
    rw [List.getElem?_set, List.getElem?_set, List.length_set]
    by_cases e1 : j = k
    · subst e1
      simp only [if_true, if_pos hj]
      by_cases e2 : j = i
      · subst e2; simp
      · rw [if_neg e2]
    · by_cases e2 : i = k
      · subst e2
        simp [if_neg e1, hi]
      · rw [if_neg e1, if_neg e2, if_neg (fun e => e2 e.symm), if_neg (fun e => e1 e.symm)]
        exact at_G hk
  · have e1 : G (swl h i j) k = 0 := by
      unfold G List.getD
      rw [List.getElem?_eq_none (by rw [length_swl]; omega)]
      rfl
    rw [e1, if_neg (by omega), if_neg (by omega)]
    unfold G List.getD
    rw [List.getElem?_eq_none (by omega)]
    rfl
/-- From one list to another one: the same timers, those from n on where they were. -/
def Mv (n : Nat) (h h' : List Nat) : Prop := h'.length = h.length ∧ h'.Perm h ∧ ∀ k, n ≤ k → G h' k = G h k
theorem Mv.refl (n : Nat) (h : List Nat) : Mv n h h := ⟨rfl, List.Perm.refl _, fun _ _ => rfl⟩
theorem Mv.trans {n : Nat} {h h1 h2 : List Nat} (a : Mv n h h1) (b : Mv n h1 h2) : Mv n h h2 := ⟨b.1.trans a.1, b.2.1.trans a.2.1, fun k hk => (b.2.2 k hk).trans (a.2.2 k hk)⟩
theorem swl_perm {h : List Nat} {i j : Nat} (hi : i < h.length) (hj : j < h.length) : (swl h i j).Perm h := by
  have := List.set_set_perm hi hj
  have e1 : G h j = h[j] := G_at (List.getElem?_eq_getElem hj)
  have e2 : G h i = h[i] := G_at (List.getElem?_eq_getElem hi)
  unfold swl
  rw [e1, e2]
  exact this
theorem Mv.swap {n : Nat} {h : List Nat} {i j : Nat} (hi : i < n) (hj : j < n) (hn : n ≤ h.length) : Mv n h (swl h i j) :=
  ⟨length_swl h i j, swl_perm (by omega) (by omega), fun k hk => by
    rw [G_swl (by omega) (by omega)]
    exact sw_o _ (by omega) (by omega)⟩
/-- The first of a heap is the least. -/
theorem root_least {h : List Nat} (hh : Hp h.length (G h)) : ∀ x ∈ h, G h 0 ≤ x := fun x hx => by
  obtain ⟨k, hk, rfl⟩ := List.mem_iff_getElem.1 hx
  have := hh.root k hk
  rw [G_at (List.getElem?_eq_getElem hk)] at this
  exact le_iff.1 this
theorem split_end {h : List Nat} {n : Nat} (hl : h.length = n + 1) : h = h.take n ++ [G h n] := by
  apply List.ext_getElem?
  intro k
  rw [List.getElem?_append, List.length_take]
  by_cases hk : k < n
  · rw [if_pos (by omega), List.getElem?_take, if_pos hk]
  · rw [if_neg (by omega)]
    by_cases e : k = n
    · subst e
      rw [at_G (by omega), show k - min k h.length = 0 by omega]
      rfl
    · rw [List.getElem?_eq_none (by omega), List.getElem?_eq_none (by simp; omega)]
theorem G_take {h : List Nat} {n k : Nat} (hk : k < n) : G (h.take n) k = G h k := by
  unfold G List.getD
  rw [List.getElem?_take, if_pos hk]
theorem hp_snoc {h : List Nat} {t : Nat} (hh : Hp h.length (G h)) : UpI (h.length + 1) (G (h ++ [t])) h.length := hh.push fun k hk => by
  unfold G List.getD
  rw [List.getElem?_append_left hk]
end Go.Proofs.Ytpalmnjapiijaaa.Gr.Hq
