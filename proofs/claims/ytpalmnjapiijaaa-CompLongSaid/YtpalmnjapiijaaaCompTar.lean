/-
  Texts of earlier layers, as one.
-/
import Derived.Test.YtpalmnjapiijaaaCompPlain
/- Tarjan's way, in plain words: the state while a graph is gone through, what holds of it, and what each step keeps. -/
namespace Go.Proofs.Ytpalmnjapiijaaa.Gr

def upd {α : Type} (f : Nat → α) (i : Nat) (x : α) : Nat → α := fun k => if k = i then x else f k
theorem upd_same {α : Type} (f : Nat → α) (i : Nat) (x : α) : upd f i x i = x := by simp [upd]
theorem upd_other {α : Type} {f : Nat → α} {i k : Nat} {x : α} (h : k ≠ i) : upd f i x k = f k := by simp [upd, h]
/-- The greatest int. -/
def MX : Nat := 9223372036854775807
structure TS where
  path : List Nat
  opn : List Nat
  count : Nat
  comps : Nat
  of : Nat → Nat
  fnd : Nat → Nat
  low : Nat → Nat
  gone : Nat → Nat
def TS.closed (s : TS) (v : Nat) : Prop := s.fnd v ≠ 0 ∧ v ∉ s.opn
/-- The last node of the path that was found ahead of v. -/
def Last (s : TS) (p v : Nat) : Prop := p ∈ s.path ∧ s.fnd p ≤ s.fnd v ∧ ∀ q ∈ s.path, s.fnd q ≤ s.fnd v → s.fnd q ≤ s.fnd p
/-- The path's last node is at an edge whose node is done and leads back as far as v does. -/
def Pend (e : Graph) (s : TS) (p v : Nat) : Prop := (∀ q ∈ s.path, s.fnd q ≤ s.fnd p) ∧ ∃ j : Nat, (e.getD p [])[s.gone p]? = some (j : Int) ∧ j ∈ s.opn ∧ s.low j ≤ s.low v
structure TI (e : Graph) (s : TS) : Prop where
  lt : ∀ v, s.fnd v ≠ 0 → v < e.length
  inj : ∀ v w, s.fnd v ≠ 0 → s.fnd v = s.fnd w → v = w
  le : ∀ v, s.fnd v ≤ s.count
  num : ((List.range e.length).filter fun v => decide (s.fnd v ≠ 0)).length = s.count
  opnF : ∀ v ∈ s.opn, s.fnd v ≠ 0
  osort : s.opn.Pairwise fun a b => s.fnd a < s.fnd b
  psort : s.path.Pairwise fun a b => s.fnd a < s.fnd b
  sub : ∀ v ∈ s.path, v ∈ s.opn
  lowC : ∀ v, s.closed v → s.low v = MX
  lowO : ∀ v ∈ s.opn, s.low v ≤ s.fnd v ∧ ∃ u ∈ s.opn, s.fnd u = s.low v ∧ lead e v u = true
  goneZ : ∀ v, s.fnd v = 0 → s.gone v = 0
  goneL : ∀ v ∈ s.opn, v ∉ s.path → s.gone v = (e.getD v []).length
  shut : ∀ v w, s.closed v → lead e v w = true → s.closed w
  edge : ∀ v ∈ s.opn, ∀ (k j : Nat), k < s.gone v → (e.getD v [])[k]? = some (j : Int) → j < e.length → s.fnd j ≠ 0 ∧ (j ∈ s.opn → s.low v ≤ s.fnd j)
  down : ∀ p ∈ s.path, ∀ v ∈ s.opn, s.fnd p ≤ s.fnd v → lead e p v = true
  back : ∀ v ∈ s.opn, ∃ p, Last s p v ∧ lead e v p = true
  grp : ∀ p v, v ∈ s.opn → Last s p v → s.low p ≤ s.low v ∨ Pend e s p v
  chain : ∀ (k p q : Nat), s.path[k]? = some p → s.path[k + 1]? = some q → (e.getD p [])[s.gone p]? = some (q : Int)
  ofC : ∀ v, s.closed v → s.of v < s.comps
  ofM : ∀ v w, s.closed v → s.closed w → (s.of v = s.of w ↔ mutu e v w = true)
  few : s.comps + s.opn.length ≤ s.count
  gle : ∀ v, s.gone v ≤ (e.getD v []).length
def TS.start : TS := ⟨[], [], 0, 0, fun _ => 0, fun _ => 0, fun _ => 0, fun _ => 0⟩
theorem TI.start (e : Graph) : TI e TS.start where
  lt v h := absurd rfl h
  inj v w h := absurd rfl h
  le v := Nat.le_refl _
  num := by simp [TS.start]
  opnF v h := by cases h
  osort := List.Pairwise.nil
  psort := List.Pairwise.nil
  sub v h := by cases h
  lowC v h := absurd rfl h.1
  lowO v h := by cases h
  goneZ v _ := rfl
  goneL v h := by cases h
  shut v w h := absurd rfl h.1
  edge v h := by cases h
  down p h := by cases h
  back v h := by cases h
  grp p v h := by cases h
  chain k p q h := by simp [TS.start] at h
  ofC v h := absurd rfl h.1
  ofM v w h := absurd rfl h.1
  few := Nat.le_refl _
  gle v := Nat.zero_le _
section
variable {e : Graph} {s : TS}
theorem TI.empty (h : TI e s) (hp : s.path = []) : s.opn = [] := by
  cases ho : s.opn with
  | nil => rfl
  | cons v l =>
    obtain ⟨p, hl, _⟩ := h.back v (by rw [ho]; exact List.mem_cons_self ..)
    rw [Last, hp] at hl
    cases hl.1
theorem TI.cnt (h : TI e s) : s.count ≤ e.length := by
  rw [← h.num]
  have := List.length_filter_le (fun v => decide (s.fnd v ≠ 0)) (List.range e.length)
  rwa [List.length_range] at this
theorem TI.top {P : List Nat} {i : Nat} (h : TI e s) (hp : s.path = P ++ [i]) : i ∈ s.path ∧ (∀ q ∈ P, s.fnd q < s.fnd i) ∧ (∀ q ∈ s.path, s.fnd q ≤ s.fnd i) ∧ i ∉ P := by
  have h1 := h.psort
  rw [hp] at h1
  have h2 := (List.pairwise_append.1 h1).2.2
  have h3 : ∀ q ∈ P, s.fnd q < s.fnd i := fun q hq => h2 q hq i (by simp)
  refine ⟨by rw [hp]; simp, h3, fun q hq => ?_, fun hi => Nat.lt_irrefl _ (h3 i hi)⟩
  rw [hp] at hq
  rcases List.mem_append.1 hq with hq | hq
  · exact Nat.le_of_lt (h3 q hq)
  · rw [List.mem_singleton.1 hq]
    exact Nat.le_refl _
/-- A node that wasn't found is found. -/
def TS.enter (s : TS) (j : Nat) : TS := { s with path := s.path ++ [j], opn := s.opn ++ [j], count := s.count + 1, fnd := upd s.fnd j (s.count + 1), low := upd s.low j (s.count + 1) }
theorem filter_one {p q : Nat → Bool} {x n : Nat} (hx : x < n) (hp : p x = false) (hq : q x = true) (h : ∀ y, y ≠ x → q y = p y) : ((List.range n).filter q).length = ((List.range n).filter p).length + 1 := by
  induction n with
  | zero => omega
  | succ n ih =>
    rw [List.range_succ, List.filter_append, List.filter_append, List.length_append, List.length_append]
    by_cases e : x = n
    · subst e
      have : (List.range x).filter q = (List.range x).filter p := List.filter_congr fun y hy => h y (by have := List.mem_range.1 hy; omega)
      rw [this]
      simp [hp, hq]
    · have := ih (by omega)
      have h2 : [n].filter q = [n].filter p := List.filter_congr fun y hy => h y (by rw [List.mem_singleton.1 hy]; exact fun e' => e e'.symm)
      rw [this, h2]
      omega
theorem TI.enter {j : Nat} (h : TI e s) (hj : j < e.length) (hf : s.fnd j = 0) (hlink : s.path = [] ∨ ∃ P i, s.path = P ++ [i] ∧ (e.getD i [])[s.gone i]? = some (j : Int)) : TI e (s.enter j) := by
  have hjo : j ∉ s.opn := fun hm => h.opnF j hm hf
  have hjp : j ∉ s.path := fun hm => hjo (h.sub j hm)
  have fo : ∀ {v}, v ≠ j → (s.enter j).fnd v = s.fnd v := fun hv => upd_other hv
  have lo : ∀ {v}, v ≠ j → (s.enter j).low v = s.low v := fun hv => upd_other hv
  have fj : (s.enter j).fnd j = s.count + 1 := upd_same ..
  have lj : (s.enter j).low j = s.count + 1 := upd_same ..
  have hne : ∀ {v}, v ∈ s.opn → v ≠ j := fun hv e => hjo (e ▸ hv)
  have hnp : ∀ {v}, v ∈ s.path → v ≠ j := fun hv e => hjp (e ▸ hv)
  have mo : ∀ {v}, v ∈ (s.enter j).opn ↔ v ∈ s.opn ∨ v = j := fun {v} => by
    show v ∈ s.opn ++ [j] ↔ _
    simp
  have mp : ∀ {v}, v ∈ (s.enter j).path ↔ v ∈ s.path ∨ v = j := fun {v} => by
    show v ∈ s.path ++ [j] ↔ _
    simp
  have cl : ∀ {v}, (s.enter j).closed v ↔ s.closed v := fun {v} => by
    unfold TS.closed
    rw [mo]
    by_cases e : v = j
    · subst e
      rw [hf]
      simp
    · rw [fo e]
      simp [e]
  have flt : ∀ v, s.fnd v < s.count + 1 := fun v => by have := h.le v; omega
  have hle : j < e.length → lead e j j = true := fun hj => lead_refl hj
  -- who leads to j
  have hdown : ∀ p ∈ s.path, lead e p j = true := fun p hp => by
    rcases hlink with h0 | ⟨P, i, hP, he⟩
    · rw [h0] at hp; cases hp
    · obtain ⟨hi, _, h3, _⟩ := h.top hP
      have hio := h.sub i hi
      exact lead_trans (h.down p hp i hio (h3 p hp)) (lead_edge (h.lt i (h.opnF i hio)) hj (List.mem_of_getElem? he))
  have hlast : ∀ {p v}, v ∈ s.opn → Last (s.enter j) p v → Last s p v := fun {p v} hv ⟨h1, h2, h3⟩ => by
    have hvj := hne hv
    rw [fo hvj] at h2 h3
    have hpj : p ≠ j := fun e => by rw [e, fj] at h2; have := flt v; omega
    rw [fo hpj] at h2 h3
    refine ⟨(mp.1 h1).resolve_right hpj, h2, fun q hq hqv => ?_⟩
    have := h3 q (mp.2 (.inl hq))
    rw [fo (hnp hq)] at this
    exact this hqv
  refine {
    lt := fun v hv => ?_, inj := fun v w hv hw => ?_, le := fun v => ?_, num := ?_, opnF := fun v hv => ?_, osort := ?_, psort := ?_, sub := fun v hv => ?_,
    lowC := fun v hv => ?_, lowO := fun v hv => ?_, goneZ := fun v hv => ?_, goneL := fun v hv hn => ?_, shut := fun v w hv hl => ?_, edge := fun v hv k i hk he hi => ?_,
    down := fun p hp v hv hpv => ?_, back := fun v hv => ?_, grp := fun p v hv hl => ?_, chain := fun k p q hp hq => ?_, ofC := fun v hv => ?_, ofM := fun v w hv hw => ?_, few := ?_, gle := h.gle }
  · by_cases e : v = j
    · rw [e]; exact hj
    · rw [fo e] at hv; exact h.lt v hv
  · by_cases e : v = j
    · by_cases e2 : w = j
      · rw [e, e2]
      · rw [e, fj, fo e2] at hw
        have := flt w
        omega
    · by_cases e2 : w = j
      · rw [e2, fj, fo e] at hw
        have := flt v
        omega
      · rw [fo e] at hv hw
        rw [fo e2] at hw
        exact h.inj v w hv hw
  · show (s.enter j).fnd v ≤ s.count + 1
    by_cases e : v = j
    · rw [e, fj]; omega
    · rw [fo e]; have := flt v; omega
  · show _ = s.count + 1
    rw [← h.num]
    refine filter_one hj (by simp [hf]) (by simp [fj]) fun y hy => ?_
    rw [fo hy]
  · by_cases e : v = j
    · rw [e, fj]; omega
    · rw [fo e]; exact h.opnF v ((mo.1 hv).resolve_right e)
  · show (s.opn ++ [j]).Pairwise _
    rw [List.pairwise_append]
    refine ⟨h.osort.imp_of_mem fun ha hb hab => ?_, List.pairwise_singleton .., fun a ha b hb => ?_⟩
    · rw [fo (hne ha), fo (hne hb)]; exact hab
    · rw [List.mem_singleton.1 hb, fj, fo (hne ha)]; exact flt a
  · show (s.path ++ [j]).Pairwise _
    rw [List.pairwise_append]
    refine ⟨h.psort.imp_of_mem fun ha hb hab => ?_, List.pairwise_singleton .., fun a ha b hb => ?_⟩
    · rw [fo (hnp ha), fo (hnp hb)]; exact hab
    · rw [List.mem_singleton.1 hb, fj, fo (hnp ha)]; exact flt a
  · exact mo.2 ((mp.1 hv).imp (h.sub v) id)
  · have hv := cl.1 hv
    have e : v ≠ j := fun e => hv.1 (by rw [e]; exact hf)
    rw [lo e]
    exact h.lowC v hv
  · by_cases e : v = j
    · rw [e, lj, fj]
      exact ⟨Nat.le_refl _, j, mo.2 (.inr rfl), fj, hle hj⟩
    · have hv := (mo.1 hv).resolve_right e
      obtain ⟨h1, u, hu, h2, h3⟩ := h.lowO v hv
      rw [lo e, fo e]
      exact ⟨h1, u, mo.2 (.inl hu), by rw [fo (hne hu)]; exact h2, h3⟩
  · by_cases e : v = j
    · rw [e, fj] at hv; omega
    · rw [fo e] at hv; exact h.goneZ v hv
  · have e : v ≠ j := fun e => hn (mp.2 (.inr e))
    exact h.goneL v ((mo.1 hv).resolve_right e) fun hp => hn (mp.2 (.inl hp))
  · exact cl.2 (h.shut v w (cl.1 hv) hl)
  · by_cases e : v = j
    · have : s.gone v = 0 := by rw [e]; exact h.goneZ j hf
      have hk : k < s.gone v := hk
      omega
    · have hv := (mo.1 hv).resolve_right e
      obtain ⟨h1, h2⟩ := h.edge v hv k i hk he hi
      have hij : i ≠ j := fun e => h1 (by rw [e]; exact hf)
      rw [fo hij, lo e]
      exact ⟨h1, fun hm => h2 ((mo.1 hm).resolve_right hij)⟩
  · rcases mp.1 hp with hp2 | hp2
    · rcases mo.1 hv with hv2 | hv2
      · rw [fo (hnp hp2), fo (hne hv2)] at hpv
        exact h.down p hp2 v hv2 hpv
      · rw [hv2]; exact hdown p hp2
    · rcases mo.1 hv with hv2 | hv2
      · rw [hp2, fj, fo (hne hv2)] at hpv
        have := flt v
        omega
      · rw [hp2, hv2]; exact hle hj
  · rcases mo.1 hv with hv | rfl
    · obtain ⟨p, ⟨h1, h2, h3⟩, hl⟩ := h.back v hv
      refine ⟨p, ⟨mp.2 (.inl h1), by rw [fo (hnp h1), fo (hne hv)]; exact h2, fun q hq hqv => ?_⟩, hl⟩
      rcases mp.1 hq with hq2 | hq2
      · rw [fo (hnp hq2), fo (hne hv)] at hqv
        rw [fo (hnp hq2), fo (hnp h1)]
        exact h3 q hq2 hqv
      · rw [hq2, fj, fo (hne hv)] at hqv
        have := flt v
        omega
    · exact ⟨v, ⟨mp.2 (.inr rfl), Nat.le_refl _, fun q _ hq => hq⟩, hle hj⟩
  · rcases mo.1 hv with hv | rfl
    · have hl' := hlast hv hl
      have hpj := hnp hl'.1
      rw [lo hpj, lo (hne hv)]
      rcases h.grp p v hv hl' with h1 | ⟨h1, j', h2, h3, _⟩
      · exact .inl h1
      · exfalso
        rcases hlink with h0 | ⟨P, i, hP, he⟩
        · have := hl'.1
          rw [h0] at this
          cases this
        · obtain ⟨hi, _, h5, _⟩ := h.top hP
          have : p = i := h.inj p i (h.opnF p (h.sub p hl'.1)) (Nat.le_antisymm (h5 p hl'.1) (h1 i hi))
          subst this
          rw [he] at h2
          injection h2 with h2
          have : j = j' := by omega
          exact hjo (this ▸ h3)
    · have h1 := hl.2.2 v (mp.2 (.inr rfl)) (Nat.le_refl _)
      rw [fj] at h1
      by_cases e : p = v
      · rw [e]; exact .inl (Nat.le_refl _)
      · rw [fo e] at h1
        have := flt p
        omega
  · have hq' : (s.path ++ [j])[k + 1]? = some q := hq
    have hp' : (s.path ++ [j])[k]? = some p := hp
    by_cases hk : k + 1 < s.path.length
    · rw [List.getElem?_append_left hk] at hq'
      rw [List.getElem?_append_left (by omega)] at hp'
      exact h.chain k p q hp' hq'
    · have hk2 : k + 1 < (s.path ++ [j]).length := (List.getElem?_eq_some_iff.1 hq').1
      rw [List.length_append, List.length_singleton] at hk2
      have hk3 : k + 1 = s.path.length := by omega
      rw [List.getElem?_append_right (by omega), hk3, Nat.sub_self] at hq'
      have hqj : q = j := by simpa using hq'.symm
      rw [List.getElem?_append_left (by omega)] at hp'
      rcases hlink with h0 | ⟨P, i, hP, he⟩
      · rw [h0] at hk3
        simp at hk3
      · rw [hP] at hp' hk3
        have hkP : k = P.length := by simp at hk3; omega
        rw [hkP, List.getElem?_append_right (Nat.le_refl _), Nat.sub_self] at hp'
        have hpi : i = p := by simpa using hp'
        rw [hqj, ← hpi]
        exact he
  · exact h.ofC v (cl.1 hv)
  · exact h.ofM v w (cl.1 hv) (cl.1 hw)
  · show s.comps + (s.opn ++ [j]).length ≤ s.count + 1
    rw [List.length_append, List.length_singleton]
    have := h.few
    omega
/-- An edge is gone along. -/
def TS.step (s : TS) (i x : Nat) : TS := { s with low := upd s.low i x, gone := upd s.gone i (s.gone i + 1) }
theorem TI.step {P : List Nat} {i x : Nat} {z : Int} (h : TI e s) (hp : s.path = P ++ [i]) (hz : (e.getD i [])[s.gone i]? = some z) (hx : x ≤ s.low i) (hu : ∃ u ∈ s.opn, s.fnd u = x ∧ lead e i u = true)
    (hj : ∀ j : Nat, z = (j : Int) → j < e.length → s.fnd j ≠ 0 ∧ (j ∈ s.opn → x ≤ s.low j)) : TI e (s.step i x) := by
  obtain ⟨hi, ht1, ht2, ht3⟩ := h.top hp
  have hio := h.sub i hi
  have lo : ∀ {v}, v ≠ i → (s.step i x).low v = s.low v := fun hv => upd_other hv
  have go : ∀ {v}, v ≠ i → (s.step i x).gone v = s.gone v := fun hv => upd_other hv
  have li : (s.step i x).low i = x := upd_same ..
  have gi : (s.step i x).gone i = s.gone i + 1 := upd_same ..
  have lle : ∀ v, (s.step i x).low v ≤ s.low v := fun v => by
    by_cases e : v = i
    · rw [e, li]; exact hx
    · rw [lo e]; exact Nat.le_refl _
  refine {
    lt := h.lt, inj := h.inj, le := h.le, num := h.num, opnF := h.opnF, osort := h.osort, psort := h.psort, sub := h.sub,
    lowC := fun v hv => ?_, lowO := fun v hv => ?_, goneZ := fun v hv => ?_, goneL := fun v hv hn => ?_, shut := h.shut, edge := fun v hv k j hk he hj' => ?_,
    down := h.down, back := h.back, grp := fun p v hv hl => ?_, chain := fun k p q hp' hq => ?_, ofC := h.ofC, ofM := h.ofM, few := h.few, gle := fun v => ?_ }
  · rw [lo (fun e => hv.2 (by rw [e]; exact hio))]
    exact h.lowC v hv
  · by_cases e : v = i
    · rw [e, li]
      exact ⟨Nat.le_trans hx (h.lowO i hio).1, hu⟩
    · rw [lo e]
      exact h.lowO v hv
  · rw [go (fun e => h.opnF i hio (by rw [← e]; exact hv))]
    exact h.goneZ v hv
  · rw [go (fun e => hn (by rw [e]; exact hi))]
    exact h.goneL v hv hn
  · by_cases e : v = i
    · subst e
      rw [gi] at hk
      by_cases hk2 : k < s.gone v
      · obtain ⟨h1, h2⟩ := h.edge v hv k j hk2 he hj'
        exact ⟨h1, fun hm => Nat.le_trans (lle v) (h2 hm)⟩
      · have : k = s.gone v := by omega
        subst this
        rw [hz] at he
        injection he with he
        obtain ⟨h1, h2⟩ := hj j he hj'
        rw [li]
        exact ⟨h1, fun hm => Nat.le_trans (h2 hm) (h.lowO j hm).1⟩
    · rw [go e] at hk
      obtain ⟨h1, h2⟩ := h.edge v hv k j hk he hj'
      exact ⟨h1, fun hm => Nat.le_trans (lle v) (h2 hm)⟩
  · by_cases e : p = i
    · subst e
      left
      rw [li]
      by_cases e2 : v = p
      · rw [e2, li]; exact Nat.le_refl _
      · rw [lo e2]
        rcases h.grp p v hv hl with h1 | ⟨_, j', h2, h3, h4⟩
        · omega
        · rw [hz] at h2
          injection h2 with h2
          have := (hj j' h2 (h.lt j' (h.opnF j' h3))).2 h3
          omega
    · have hpp := hl.1
      have hv2 : v ≠ i := fun e2 => by
        have h1 := hl.2.2 i hi (by rw [e2]; exact Nat.le_refl _)
        have h1 : s.fnd i ≤ s.fnd p := h1
        exact e (h.inj p i (h.opnF p (h.sub p hpp)) (Nat.le_antisymm (ht2 p hpp) h1))
      rw [lo e, lo hv2]
      rcases h.grp p v hv hl with h1 | ⟨h1, _⟩
      · exact .inl h1
      · exact absurd (h.inj p i (h.opnF p (h.sub p hpp)) (Nat.le_antisymm (ht2 p hpp) (h1 i hi))) e
  · have hp' : s.path[k]? = some p := hp'
    have hq : s.path[k + 1]? = some q := hq
    have hpi : p ≠ i := fun e => by
      have hk2 : k + 1 < s.path.length := (List.getElem?_eq_some_iff.1 hq).1
      rw [hp] at hp' hk2
      simp at hk2
      rw [List.getElem?_append_left hk2] at hp'
      exact ht3 (e ▸ List.mem_of_getElem? hp')
    rw [go hpi]
    exact h.chain k p q hp' hq
  · by_cases e : v = i
    · subst e
      rw [gi]
      exact (List.getElem?_eq_some_iff.1 hz).1
    · rw [go e]
      exact h.gle v
theorem prefix_last {α : Type} {P : List α} (h : P ≠ []) : ∃ Q r, P = Q ++ [r] := by
  refine ⟨P.dropLast, P.getLast h, (List.dropLast_concat_getLast h).symm⟩
theorem TI.nopend {i v : Nat} (h : s.gone i = (e.getD i []).length) : ¬ Pend e s i v := fun ⟨_, j, h2, _⟩ => by
  have := (List.getElem?_eq_some_iff.1 h2).1
  omega
/-- A node is done that leads back. -/
def TS.pop (s : TS) (P : List Nat) : TS := { s with path := P }
theorem TI.pop {P : List Nat} {i : Nat} (h : TI e s) (hp : s.path = P ++ [i]) (hg : s.gone i = (e.getD i []).length) (hl : s.low i ≠ s.fnd i) : TI e (s.pop P) := by
  obtain ⟨hi, ht1, ht2, ht3⟩ := h.top hp
  have hio := h.sub i hi
  obtain ⟨hlo, u, huo, hul, hiu⟩ := h.lowO i hio
  have mp : ∀ {v}, v ∈ s.path ↔ v ∈ P ∨ v = i := fun {v} => by rw [hp]; simp
  obtain ⟨p2, ⟨hp2, hpu, _⟩, hup⟩ := h.back u huo
  have hp2i : p2 ≠ i := fun e => by rw [e] at hpu; omega
  have hp2P : p2 ∈ P := (mp.1 hp2).resolve_right hp2i
  obtain ⟨Q, r, hQ⟩ := prefix_last (P := P) (fun e => by rw [e] at hp2P; cases hp2P)
  have hrP : r ∈ P := by rw [hQ]; simp
  have hr1 : ∀ q ∈ P, s.fnd q ≤ s.fnd r := fun q hq => by
    have h1 := h.psort
    rw [hp, hQ] at h1
    have h2 := (List.pairwise_append.1 (List.pairwise_append.1 h1).1).2.2
    rw [hQ] at hq
    rcases List.mem_append.1 hq with hq | hq
    · exact Nat.le_of_lt (h2 q hq r (by simp))
    · rw [List.mem_singleton.1 hq]; exact Nat.le_refl _
  have hro := h.sub r (mp.2 (.inl hrP))
  have hir : lead e i r = true := lead_trans hiu (lead_trans hup (h.down p2 hp2 r hro (hr1 p2 hp2P)))
  have hchain : (e.getD r [])[s.gone r]? = some (i : Int) := by
    refine h.chain Q.length r i ?_ ?_
    · rw [hp, hQ, List.append_assoc, List.getElem?_append_right (Nat.le_refl _), Nat.sub_self]
      rfl
    · rw [hp, hQ, List.append_assoc, List.getElem?_append_right (by omega), show Q.length + 1 - Q.length = 1 by omega]
      rfl
  have fi : ∀ {a b}, a ∈ s.opn → s.fnd a = s.fnd b → a = b := fun ha hab => h.inj _ _ (h.opnF _ ha) hab
  refine {
    lt := h.lt, inj := h.inj, le := h.le, num := h.num, opnF := h.opnF, osort := h.osort, psort := ?_, sub := fun v hv => h.sub v (mp.2 (.inl hv)),
    lowC := h.lowC, lowO := h.lowO, goneZ := h.goneZ, goneL := fun v hv hn => ?_, shut := h.shut, edge := h.edge,
    down := fun p hpp => h.down p (mp.2 (.inl hpp)), back := fun v hv => ?_, grp := fun p v hv hla => ?_, chain := fun k p q hp' hq => ?_, ofC := h.ofC, ofM := h.ofM, few := h.few, gle := h.gle }
  · have h1 := h.psort
    rw [hp] at h1
    exact (List.pairwise_append.1 h1).1
  · by_cases e : v = i
    · rw [e]; exact hg
    · exact h.goneL v hv fun hm => hn ((mp.1 hm).resolve_right e)
  · obtain ⟨p, ⟨h1, h2, h3⟩, hvp⟩ := h.back v hv
    by_cases e : p = i
    · subst e
      refine ⟨r, ⟨hrP, ?_, fun q hq _ => hr1 q hq⟩, lead_trans hvp hir⟩
      show s.fnd r ≤ s.fnd v
      have := ht1 r hrP
      omega
    · exact ⟨p, ⟨(mp.1 h1).resolve_right e, h2, fun q hq => h3 q (mp.2 (.inl hq))⟩, hvp⟩
  · have hpP : p ∈ P := hla.1
    have h2 : s.fnd p ≤ s.fnd v := hla.2.1
    have h3 : ∀ q ∈ P, s.fnd q ≤ s.fnd v → s.fnd q ≤ s.fnd p := hla.2.2
    by_cases hiv : s.fnd i ≤ s.fnd v
    · have hrv : s.fnd r ≤ s.fnd v := by have := ht1 r hrP; omega
      have : p = r := (fi hro (Nat.le_antisymm (h3 r hrP hrv) (hr1 p hpP))).symm
      subst this
      right
      refine ⟨hr1, i, hchain, hio, ?_⟩
      rcases h.grp i v hv ⟨hi, hiv, fun q hq _ => ht2 q hq⟩ with h5 | h5
      · exact h5
      · exact absurd h5 (TI.nopend hg)
    · rcases h.grp p v hv ⟨mp.2 (.inl hpP), h2, fun q hq hqv => by
        rcases mp.1 hq with hq | rfl
        · exact h3 q hq hqv
        · omega⟩ with h5 | ⟨h5, _⟩
      · exact .inl h5
      · have := h5 i hi
        omega
  · have hp' : P[k]? = some p := hp'
    have hq : P[k + 1]? = some q := hq
    have hk1 := (List.getElem?_eq_some_iff.1 hp').1
    have hk2 := (List.getElem?_eq_some_iff.1 hq).1
    exact h.chain k p q (by rw [hp, List.getElem?_append_left hk1]; exact hp') (by rw [hp, List.getElem?_append_left hk2]; exact hq)
/-- A node is done that leads back to itself alone: its component is whole. D are the nodes behind it. -/
def TS.close (s : TS) (P A : List Nat) (i : Nat) (D : List Nat) : TS := { s with path := P, opn := A, comps := s.comps + 1, of := fun v => if v ∈ i :: D then s.comps else s.of v, low := fun v => if v ∈ i :: D then MX else s.low v }
theorem TI.close {P A D : List Nat} {i : Nat} (h : TI e s) (hp : s.path = P ++ [i]) (ho : s.opn = A ++ i :: D) (hg : s.gone i = (e.getD i []).length) (hl : s.low i = s.fnd i) : TI e (s.close P A i D) := by
  obtain ⟨hi, ht1, ht2, ht3⟩ := h.top hp
  have hio := h.sub i hi
  have mp : ∀ {v}, v ∈ s.path ↔ v ∈ P ∨ v = i := fun {v} => by rw [hp]; simp
  have mo : ∀ {v}, v ∈ s.opn ↔ v ∈ A ∨ v ∈ i :: D := fun {v} => by rw [ho, List.mem_append]
  have hs := h.osort
  rw [ho] at hs
  obtain ⟨hsA, hsD, hsX⟩ := List.pairwise_append.1 hs
  have hA : ∀ v ∈ A, s.fnd v < s.fnd i := fun v hv => hsX v hv i (List.mem_cons_self ..)
  have hD : ∀ v ∈ i :: D, s.fnd i ≤ s.fnd v := fun v hv => by
    rcases List.mem_cons.1 hv with rfl | hv
    · exact Nat.le_refl _
    · exact Nat.le_of_lt ((List.pairwise_cons.1 hsD).1 v hv)
  have hAD : ∀ {v}, v ∈ A → v ∉ i :: D := fun {v} h1 h2 => by have := hA v h1; have := hD v h2; omega
  have hlA : ∀ {v}, v ∈ s.opn → s.fnd v < s.fnd i → v ∈ A := fun {v} h1 h2 => (mo.1 h1).resolve_right fun h3 => by have := hD v h3; omega
  have hCo : ∀ {v}, v ∈ i :: D → v ∈ s.opn := fun h1 => mo.2 (.inr h1)
  have fi : ∀ {a b}, a ∈ s.opn → s.fnd a = s.fnd b → a = b := fun ha hab => h.inj _ _ (h.opnF _ ha) hab
  have c1 : ∀ {v}, v ∈ i :: D → lead e i v = true := fun {v} hv => h.down i hi v (hCo hv) (hD v hv)
  have hlastD : ∀ {v}, v ∈ i :: D → Last s i v := fun {v} hv => ⟨hi, hD v hv, fun q hq _ => ht2 q hq⟩
  have c2 : ∀ {v}, v ∈ i :: D → lead e v i = true := fun {v} hv => by
    obtain ⟨p, ⟨h1, h2, h3⟩, hvp⟩ := h.back v (hCo hv)
    have : i = p := fi hio (Nat.le_antisymm (h3 i hi (hD v hv)) (ht2 p h1))
    rw [this]
    exact hvp
  have c3 : ∀ {v}, v ∈ i :: D → s.fnd i ≤ s.low v := fun {v} hv => by
    rcases h.grp i v (hCo hv) (hlastD hv) with h5 | h5
    · omega
    · exact absurd h5 (TI.nopend hg)
  have cm : ∀ {v w}, v ∈ i :: D → w ∈ i :: D → mutu e v w = true := fun hv hw => mutu_iff.2 ⟨lead_trans (c2 hv) (c1 hw), lead_trans (c2 hw) (c1 hv)⟩
  have cl : ∀ {v}, (s.close P A i D).closed v ↔ s.closed v ∨ v ∈ i :: D := fun {v} => by
    show s.fnd v ≠ 0 ∧ v ∉ A ↔ (s.fnd v ≠ 0 ∧ v ∉ s.opn) ∨ v ∈ i :: D
    rw [mo]
    constructor
    · rintro ⟨h1, h2⟩
      by_cases hv : v ∈ i :: D
      · exact .inr hv
      · exact .inl ⟨h1, fun h3 => h3.elim h2 hv⟩
    · rintro (⟨h1, h2⟩ | h1)
      · exact ⟨h1, fun h3 => h2 (.inl h3)⟩
      · exact ⟨h.opnF v (hCo h1), fun h2 => hAD h2 h1⟩
  have hnD : ∀ {v}, s.closed v → v ∉ i :: D := fun hv h2 => hv.2 (hCo h2)
  have hpD : ∀ {v}, v ∈ D → v ∉ s.path := fun {v} hv hm => by
    have := ht2 v hm
    have := (List.pairwise_cons.1 hsD).1 v hv
    omega
  have hgl : ∀ {v}, v ∈ i :: D → s.gone v = (e.getD v []).length := fun {v} hv => by
    rcases List.mem_cons.1 hv with rfl | hv'
    · exact hg
    · exact h.goneL v (hCo hv) (hpD hv')
  have hedge : ∀ {v j : Nat}, v ∈ i :: D → (j : Int) ∈ e.getD v [] → j < e.length → s.closed j ∨ j ∈ i :: D := fun {v j} hv hj hjl => by
    obtain ⟨k, hk⟩ := List.getElem?_of_mem hj
    have hk2 := (List.getElem?_eq_some_iff.1 hk).1
    obtain ⟨h1, h2⟩ := h.edge v (hCo hv) k j (by rw [hgl hv]; exact hk2) hk hjl
    by_cases hjo : j ∈ s.opn
    · right
      refine (mo.1 hjo).resolve_left fun hjA => ?_
      have := h2 hjo
      have := c3 hv
      have := hA j hjA
      omega
    · exact .inl ⟨h1, hjo⟩
  have hshut : ∀ v w, lead e v w = true → (s.close P A i D).closed v → (s.close P A i D).closed w := lead_ind _ (fun a b hab ha => by
    obtain ⟨hal, hbl, hab⟩ := base_iff.1 hab
    rcases hab with rfl | hab
    · exact ha
    · rcases cl.1 ha with ha | ha
      · exact cl.2 (.inl (h.shut a b ha (lead_edge hal hbl hab)))
      · exact cl.2 (hedge ha hab hbl)) fun a b c h1 h2 ha => h2 (h1 ha)
  have lowA : ∀ {v}, v ∉ i :: D → (s.close P A i D).low v = s.low v := fun hv => if_neg hv
  have lowD : ∀ {v}, v ∈ i :: D → (s.close P A i D).low v = MX := fun hv => if_pos hv
  have ofA : ∀ {v}, v ∉ i :: D → (s.close P A i D).of v = s.of v := fun hv => if_neg hv
  have ofD : ∀ {v}, v ∈ i :: D → (s.close P A i D).of v = s.comps := fun hv => if_pos hv
  have hPA : ∀ {v}, v ∈ P → v ∈ A := fun {v} hv => hlA (h.sub v (mp.2 (.inl hv))) (ht1 v hv)
  have hoA : ∀ {v}, v ∈ A → v ∈ s.opn := fun hv => mo.2 (.inl hv)
  refine {
    lt := h.lt, inj := h.inj, le := h.le, num := h.num, opnF := fun v hv => h.opnF v (hoA hv), osort := hsA, psort := ?_, sub := fun v hv => hPA hv,
    lowC := fun v hv => ?_, lowO := fun v hv => ?_, goneZ := h.goneZ, goneL := fun v hv hn => ?_, shut := fun v w hv hvw => hshut v w hvw hv, edge := fun v hv k j hk he hj => ?_,
    down := fun p hpp v hv => h.down p (mp.2 (.inl hpp)) v (hoA hv), back := fun v hv => ?_, grp := fun p v hv hla => ?_, chain := fun k p q hp' hq => ?_, ofC := fun v hv => ?_, ofM := fun v w hv hw => ?_, few := ?_, gle := h.gle }
  · have h1 := h.psort
    rw [hp] at h1
    exact (List.pairwise_append.1 h1).1
  · rcases cl.1 hv with hv | hv
    · rw [lowA (hnD hv)]; exact h.lowC v hv
    · exact lowD hv
  · obtain ⟨h1, u, hu, h2, h3⟩ := h.lowO v (hoA hv)
    have hAv := hA v hv
    rw [lowA (hAD hv)]
    exact ⟨h1, u, hlA hu (by omega), h2, h3⟩
  · refine h.goneL v (hoA hv) fun hm => ?_
    rcases mp.1 hm with hm | rfl
    · exact hn hm
    · have := hA v hv; omega
  · obtain ⟨h1, h2⟩ := h.edge v (hoA hv) k j hk he hj
    rw [lowA (hAD hv)]
    exact ⟨h1, fun hm => h2 (hoA hm)⟩
  · obtain ⟨p, ⟨h1, h2, h3⟩, hvp⟩ := h.back v (hoA hv)
    have hAv := hA v hv
    have hpi : p ≠ i := fun e => by rw [e] at h2; omega
    exact ⟨p, ⟨(mp.1 h1).resolve_right hpi, h2, fun q hq => h3 q (mp.2 (.inl hq))⟩, hvp⟩
  · have hAv := hA v hv
    have hpP : p ∈ P := hla.1
    rw [lowA (hAD hv), lowA (hAD (hPA hpP))]
    rcases h.grp p v (hoA hv) ⟨mp.2 (.inl hpP), hla.2.1, fun q hq hqv => by
      rcases mp.1 hq with hq | rfl
      · exact hla.2.2 q hq hqv
      · omega⟩ with h5 | ⟨h5, _⟩
    · exact .inl h5
    · have h6 := h5 i hi
      have h7 : s.fnd p ≤ s.fnd v := hla.2.1
      omega
  · have hp' : P[k]? = some p := hp'
    have hq : P[k + 1]? = some q := hq
    have hk1 := (List.getElem?_eq_some_iff.1 hp').1
    have hk2 := (List.getElem?_eq_some_iff.1 hq).1
    exact h.chain k p q (by rw [hp, List.getElem?_append_left hk1]; exact hp') (by rw [hp, List.getElem?_append_left hk2]; exact hq)
  · show _ < s.comps + 1
    rcases cl.1 hv with hv | hv
    · rw [ofA (hnD hv)]
      have := h.ofC v hv
      omega
    · rw [ofD hv]; omega
  · rcases cl.1 hv with hv | hv
    · rcases cl.1 hw with hw | hw
      · rw [ofA (hnD hv), ofA (hnD hw)]
        exact h.ofM v w hv hw
      · rw [ofA (hnD hv), ofD hw]
        refine ⟨fun e => ?_, fun hm => ?_⟩
        · have := h.ofC v hv; omega
        · exact absurd hw (hnD (h.shut v w hv (mutu_iff.1 hm).1))
    · rcases cl.1 hw with hw | hw
      · rw [ofD hv, ofA (hnD hw)]
        refine ⟨fun e => ?_, fun hm => ?_⟩
        · have := h.ofC w hw; omega
        · exact absurd hv (hnD (h.shut w v hw (mutu_iff.1 hm).2))
      · rw [ofD hv, ofD hw]
        exact ⟨fun _ => cm hv hw, fun _ => rfl⟩
  · show s.comps + 1 + A.length ≤ s.count
    have := h.few
    rw [ho, List.length_append, List.length_cons] at this
    omega
end
end Go.Proofs.Ytpalmnjapiijaaa.Gr
