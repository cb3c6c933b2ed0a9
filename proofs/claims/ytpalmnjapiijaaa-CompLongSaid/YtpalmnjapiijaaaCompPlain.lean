/-
  Texts of earlier layers, as one.
-/
import Derived.Lib.Hide
/- Graphs and their components, in plain words: who leads to whom, what the document's way answers, and what is true of it. -/
namespace Go.Proofs.Ytpalmnjapiijaaa.Gr

/-- A graph: of each node its edges. -/
abbrev Graph := List (List Int)
/-- A node leads to itself and along its own edges. -/
def base (e : Graph) (i j : Nat) : Bool := decide (i < e.length) && decide (j < e.length) && (decide (i = j) || (e.getD i []).contains (j : Int))
/-- What goes through k is known, too. -/
def wstep (f : Nat → Nat → Bool) (k : Nat) : Nat → Nat → Bool := fun i j => f i j || (f i k && f k j)
def wars (f : Nat → Nat → Bool) : Nat → Nat → Nat → Bool
  | 0 => f
  | k + 1 => wstep (wars f k) k
/-- i leads to j. -/
def lead (e : Graph) : Nat → Nat → Bool := wars (base e) e.length

theorem base_iff {e : Graph} {i j : Nat} : base e i j = true ↔ i < e.length ∧ j < e.length ∧ (i = j ∨ (j : Int) ∈ e.getD i []) := by
  unfold base
  simp only [Bool.and_eq_true, Bool.or_eq_true, decide_eq_true_eq, List.contains_iff_mem]
  exact ⟨fun ⟨⟨h1, h2⟩, h3⟩ => ⟨h1, h2, h3⟩, fun ⟨h1, h2, h3⟩ => ⟨⟨h1, h2⟩, h3⟩⟩
theorem wstep_iff {f : Nat → Nat → Bool} {k i j : Nat} : wstep f k i j = true ↔ f i j = true ∨ (f i k = true ∧ f k j = true) := by
  unfold wstep
  rw [Bool.or_eq_true, Bool.and_eq_true]
theorem wars_mono {f : Nat → Nat → Bool} {i j : Nat} (k : Nat) (h : f i j = true) : wars f k i j = true := by
  induction k with
  | zero => exact h
  | succ k ih => exact wstep_iff.2 (.inl ih)
theorem wars_sound {f : Nat → Nat → Bool} (Q : Nat → Nat → Prop) (hf : ∀ i j, f i j = true → Q i j) (ht : ∀ i j k, Q i j → Q j k → Q i k) (k : Nat) : ∀ i j, wars f k i j = true → Q i j := by
  induction k with
  | zero => exact hf
  | succ k ih =>
    intro i j h
    rcases wstep_iff.1 h with h | ⟨h1, h2⟩
    · exact ih i j h
    · exact ht i k j (ih i k h1) (ih k j h2)
theorem wars_trans {f : Nat → Nat → Bool} (k : Nat) : ∀ m, m < k → ∀ i j, wars f k i m = true → wars f k m j = true → wars f k i j = true := by
  induction k with
  | zero => intro m hm; omega
  | succ k ih =>
    intro m hm i j h1 h2
    have h1' := wstep_iff.1 h1
    have h2' := wstep_iff.1 h2
    refine wstep_iff.2 ?_
    by_cases hk : m = k
    · subst hk
      have a : wars f m i m = true := by rcases h1' with h | ⟨h, _⟩ <;> exact h
      have b : wars f m m j = true := by rcases h2' with h | ⟨_, h⟩ <;> exact h
      exact .inr ⟨a, b⟩
    · have hm' : m < k := by omega
      rcases h1' with h1 | ⟨h1, h3⟩
      · rcases h2' with h2 | ⟨h2, h4⟩
        · exact .inl (ih m hm' i j h1 h2)
        · exact .inr ⟨ih m hm' i k h1 h2, h4⟩
      · rcases h2' with h2 | ⟨h2, h4⟩
        · exact .inr ⟨h1, ih m hm' k j h3 h2⟩
        · exact .inr ⟨h1, h4⟩
section
variable {e : Graph} {i j k : Nat}
theorem lead_ind (Q : Nat → Nat → Prop) (hf : ∀ i j, base e i j = true → Q i j) (ht : ∀ i j k, Q i j → Q j k → Q i k) : ∀ i j, lead e i j = true → Q i j := wars_sound Q hf ht _
theorem lead_lt (h : lead e i j = true) : i < e.length ∧ j < e.length :=
  lead_ind (fun i j => i < e.length ∧ j < e.length) (fun _ _ h => ⟨(base_iff.1 h).1, (base_iff.1 h).2.1⟩) (fun _ _ _ h1 h2 => ⟨h1.1, h2.2⟩) i j h
theorem lead_base (h : base e i j = true) : lead e i j = true := wars_mono _ h
theorem lead_refl (h : i < e.length) : lead e i i = true := lead_base (base_iff.2 ⟨h, h, .inl rfl⟩)
theorem lead_edge (hi : i < e.length) (hj : j < e.length) (h : (j : Int) ∈ e.getD i []) : lead e i j = true := lead_base (base_iff.2 ⟨hi, hj, .inr h⟩)
theorem lead_trans (h1 : lead e i j = true) (h2 : lead e j k = true) : lead e i k = true := wars_trans _ j (lead_lt h1).2 i k h1 h2
end
/-- Each leads to the other one. -/
def mutu (e : Graph) (v w : Nat) : Bool := lead e v w && lead e w v
theorem mutu_iff {e : Graph} {v w : Nat} : mutu e v w = true ↔ lead e v w = true ∧ lead e w v = true := by unfold mutu; rw [Bool.and_eq_true]
theorem mutu_refl {e : Graph} {v : Nat} (h : v < e.length) : mutu e v v = true := mutu_iff.2 ⟨lead_refl h, lead_refl h⟩
theorem mutu_symm {e : Graph} {v w : Nat} (h : mutu e v w = true) : mutu e w v = true := mutu_iff.2 ⟨(mutu_iff.1 h).2, (mutu_iff.1 h).1⟩
theorem mutu_trans {e : Graph} {u v w : Nat} (h : mutu e u v = true) (k : mutu e v w = true) : mutu e u w = true := mutu_iff.2 ⟨lead_trans (mutu_iff.1 h).1 (mutu_iff.1 k).1, lead_trans (mutu_iff.1 k).2 (mutu_iff.1 h).2⟩
/-- A node's component. -/
def cmp (e : Graph) (v : Nat) : List Nat := (List.range e.length).filter (mutu e v)
theorem mem_cmp {e : Graph} {v w : Nat} : w ∈ cmp e v ↔ mutu e v w = true := by
  unfold cmp
  rw [List.mem_filter, List.mem_range]
  exact ⟨fun h => h.2, fun h => ⟨(lead_lt (mutu_iff.1 h).1).2, h⟩⟩
theorem cmp_up (e : Graph) (v : Nat) : (cmp e v).Pairwise (· < ·) := List.Pairwise.filter _ List.pairwise_lt_range
theorem cmp_eq {e : Graph} {v w : Nat} (h : mutu e v w = true) : cmp e v = cmp e w := by
  unfold cmp
  refine List.filter_congr fun x _ => ?_
  rw [Bool.eq_iff_iff]
  exact ⟨fun k => mutu_trans (mutu_symm h) k, fun k => mutu_trans h k⟩
/-- What may come next. -/
def ready (e : Graph) (come : Nat → Bool) (v : Nat) : Bool := !come v && (List.range e.length).all fun w => !lead e v w || come w || lead e w v
theorem ready_iff {e : Graph} {come : Nat → Bool} {v : Nat} : ready e come v = true ↔ come v = false ∧ ∀ w, lead e v w = true → come w = true ∨ lead e w v = true := by
  unfold ready
  rw [Bool.and_eq_true, List.all_eq_true]
  constructor
  · rintro ⟨h1, h2⟩
    refine ⟨by simpa using h1, fun w hw => ?_⟩
    have := h2 w (List.mem_range.2 (lead_lt hw).2)
    rw [hw] at this
    simpa using this
  · rintro ⟨h1, h2⟩
    refine ⟨by simpa using h1, fun w _ => ?_⟩
    cases hl : lead e v w with
    | false => rfl
    | true => simpa using h2 w hl
def nextV (e : Graph) (come : Nat → Bool) : Option Nat := (List.range e.length).find? (ready e come)
/-- What has come behind v's component. -/
def more (e : Graph) (come : Nat → Bool) (v : Nat) : Nat → Bool := fun w => come w || mutu e v w
/-- The components, in order, of what has not come. -/
def compsF (e : Graph) : Nat → (Nat → Bool) → List (List Nat)
  | 0, _ => []
  | f + 1, come => match nextV e come with
    | none => []
    | some v => cmp e v :: compsF e f (more e come v)
def comps (e : Graph) : List (List Nat) := compsF e e.length (fun _ => false)
theorem nextV_some {e : Graph} {come : Nat → Bool} {v : Nat} (h : nextV e come = some v) : v < e.length ∧ ready e come v = true ∧ ∀ u, u < v → ready e come u = false := by
  unfold nextV at h
  obtain ⟨h1, l1, l2, h2, h3⟩ := List.find?_eq_some_iff_append.1 h
  have hv : v ∈ List.range e.length := by rw [h2]; simp
  refine ⟨List.mem_range.1 hv, h1, fun u hu => ?_⟩
  have hm : u ∈ l1 := by
    have hu' : u ∈ List.range e.length := List.mem_range.2 (by have := List.mem_range.1 hv; omega)
    have hs : (List.range e.length).Pairwise (· < ·) := List.pairwise_lt_range
    rw [h2] at hu' hs
    rcases List.mem_append.1 hu' with h | h
    · exact h
    · rcases List.mem_cons.1 h with h | h
      · omega
      · have := (List.pairwise_cons.1 (List.pairwise_append.1 hs).2.1).1 u h
        omega
  have := h3 u hm
  simpa using this
/-- What has come leads to nothing else. -/
def Shut (e : Graph) (come : Nat → Bool) : Prop := ∀ v w, come v = true → lead e v w = true → come w = true
theorem more_shut {e : Graph} {come : Nat → Bool} {v : Nat} (h : Shut e come) (hr : ready e come v = true) : Shut e (more e come v) := by
  intro a b ha hab
  unfold more at ha ⊢
  rw [Bool.or_eq_true] at ha ⊢
  rcases ha with ha | ha
  · exact .inl (h a b ha hab)
  · obtain ⟨h1, h2⟩ := mutu_iff.1 ha
    have h3 := lead_trans h1 hab
    rcases (ready_iff.1 hr).2 b h3 with h4 | h4
    · exact .inl h4
    · exact .inr (mutu_iff.2 ⟨h3, h4⟩)
theorem filter_less {α : Type} {p q : α → Bool} {x : α} : ∀ {l : List α}, (∀ y ∈ l, p y = true → q y = true) → x ∈ l → q x = true → p x = false → (l.filter p).length < (l.filter q).length
  | [], _, hx, _, _ => by cases hx
  | y :: l, hpq, hx, hq, hp => by
    have ht : (l.filter p).length ≤ (l.filter q).length := by
      have : ∀ m : List α, (∀ y ∈ m, p y = true → q y = true) → (m.filter p).length ≤ (m.filter q).length := by
        intro m
        induction m with
        | nil => intro _; exact Nat.le_refl _
        | cons z m ih =>
          intro h
          have := ih fun y hy => h y (List.mem_cons_of_mem _ hy)
          have hz := h z (List.mem_cons_self ..)
          cases hpz : p z <;> cases hqz : q z <;> simp [hpz, hqz] <;> simp [hpz, hqz] at hz <;> omega
      exact this l fun y hy => hpq y (List.mem_cons_of_mem _ hy)
    have hy := hpq y (List.mem_cons_self ..)
    rcases List.mem_cons.1 hx with h | h
    · subst h
      simp [hq, hp]
      omega
    · have := filter_less (fun y hy => hpq y (List.mem_cons_of_mem _ hy)) h hq hp
      cases hpy : p y <;> cases hqy : q y <;> simp [hpy, hqy] <;> simp [hpy, hqy] at hy <;> omega
/-- As long as one hasn't come, one may come next. -/
theorem nextV_there {e : Graph} {come : Nat → Bool} {v : Nat} (hv : v < e.length) (hc : come v = false) : ∃ u, nextV e come = some u := by
  have key : ∀ c v, ((List.range e.length).filter (lead e v)).length = c → v < e.length → come v = false → ∃ u, u < e.length ∧ ready e come u = true := by
    intro c
    induction c using Nat.strongRecOn with
    | ind c ih =>
      intro v hcv hv hc
      cases hr : ready e come v with
      | true => exact ⟨v, hv, hr⟩
      | false =>
        have : ¬ ∀ w, lead e v w = true → come w = true ∨ lead e w v = true := fun h => by
          rw [ready_iff.2 ⟨hc, h⟩] at hr
          cases hr
        obtain ⟨w, hw⟩ := Classical.not_forall.1 this
        have hvw : lead e v w = true := Classical.byContradiction fun h => hw fun h' => absurd h' h
        have hw2 : come w = false ∧ lead e w v = false := by
          constructor
          · cases h : come w with
            | false => rfl
            | true => exact absurd (fun _ => .inl h) hw
          · cases h : lead e w v with
            | false => rfl
            | true => exact absurd (fun _ => .inr h) hw
        have hlt : ((List.range e.length).filter (lead e w)).length < ((List.range e.length).filter (lead e v)).length :=
          filter_less (fun y _ h => lead_trans hvw h) (List.mem_range.2 hv) (lead_refl hv) hw2.2
        rw [hcv] at hlt
        exact ih _ hlt w rfl (lead_lt hvw).2 hw2.1
  obtain ⟨u, hu, hr⟩ := key _ v rfl hv hc
  cases hn : nextV e come with
  | some x => exact ⟨x, rfl⟩
  | none =>
    have := List.find?_eq_none.1 hn u (List.mem_range.2 hu)
    exact absurd hr this
theorem nextV_none {e : Graph} {come : Nat → Bool} (h : nextV e come = none) : ∀ v, v < e.length → come v = true := fun v hv => by
  cases hc : come v with
  | true => rfl
  | false =>
    obtain ⟨u, hu⟩ := nextV_there hv hc
    rw [hu] at h
    cases h
/-- How many haven't come. -/
def left (e : Graph) (come : Nat → Bool) : Nat := ((List.range e.length).filter fun v => !come v).length
theorem left_more {e : Graph} {come : Nat → Bool} {v : Nat} (hv : v < e.length) (hc : come v = false) : left e (more e come v) < left e come := by
  unfold left
  refine filter_less (x := v) (fun y _ h => ?_) (List.mem_range.2 hv) (by simpa using hc) ?_
  · unfold more at h
    simp at h ⊢
    exact h.1
  · unfold more
    simp [mutu_refl hv]
theorem left_le (e : Graph) (come : Nat → Bool) : left e come ≤ e.length := by
  unfold left
  have := List.length_filter_le (fun v => !come v) (List.range e.length)
  rw [List.length_range] at this
  exact this
/-- What the list of components is: of what hasn't come each once, in order. -/
structure Row (e : Graph) (come : Nat → Bool) (L : List (List Nat)) : Prop where
  all : ∀ v, v < e.length → come v = false → cmp e v ∈ L
  each : ∀ c ∈ L, ∃ v, v < e.length ∧ come v = false ∧ c = cmp e v
  order : L.Pairwise fun c d => ∀ v ∈ c, ∀ w ∈ d, lead e v w = false
theorem compsF_row {e : Graph} : ∀ (f : Nat) (come : Nat → Bool), Shut e come → left e come ≤ f → Row e come (compsF e f come) := by
  intro f
  induction f with
  | zero =>
    intro come _ hl
    have hz : ∀ v, v < e.length → come v = false → False := fun v hv hc => by
      have := left_more hv hc
      omega
    exact ⟨fun v hv hc => (hz v hv hc).elim, (fun c h => by cases h), List.Pairwise.nil⟩
  | succ f ih =>
    intro come hs hl
    unfold compsF
    cases hn : nextV e come with
    | none =>
      have := nextV_none hn
      exact ⟨(fun v hv hc => by rw [this v hv] at hc; cases hc), (fun c h => by cases h), List.Pairwise.nil⟩
    | some v =>
      obtain ⟨hv, hr, _⟩ := nextV_some hn
      have hc := (ready_iff.1 hr).1
      have h := ih (more e come v) (more_shut hs hr) (by have := left_more hv hc; omega)
      show Row e come (cmp e v :: compsF e f (more e come v))
      refine ⟨fun u hu huc => ?_, fun c hcm => ?_, List.pairwise_cons.2 ⟨fun d hd x hx y hy => ?_, h.order⟩⟩
      · cases hm : mutu e v u with
        | true => rw [cmp_eq hm]; exact List.mem_cons_self ..
        | false => exact List.mem_cons_of_mem _ (h.all u hu (by unfold more; rw [huc, hm]; rfl))
      · rcases List.mem_cons.1 hcm with rfl | hcm
        · exact ⟨v, hv, hc, rfl⟩
        · obtain ⟨u, hu, huc, rfl⟩ := h.each c hcm
          refine ⟨u, hu, ?_, rfl⟩
          unfold more at huc
          rw [Bool.or_eq_false_iff] at huc
          exact huc.1
      · obtain ⟨u, hu, huc, rfl⟩ := h.each d hd
        have hxv := mem_cmp.1 hx
        have hyu := mem_cmp.1 hy
        cases hl : lead e x y with
        | false => rfl
        | true =>
          exfalso
          have h1 := lead_trans (lead_trans (mutu_iff.1 hxv).1 hl) (mutu_iff.1 hyu).2
          unfold more at huc
          rw [Bool.or_eq_false_iff] at huc
          rcases (ready_iff.1 hr).2 u h1 with h2 | h2
          · rw [h2] at huc
            cases huc.1
          · rw [mutu_iff.2 ⟨h1, h2⟩] at huc
            cases huc.2
theorem comps_row (e : Graph) : Row e (fun _ => false) (comps e) := compsF_row _ _ (fun v w h => by cases h) (left_le e _)
/-- As long as there is room for all, the room doesn't matter. -/
theorem compsF_more {e : Graph} : ∀ (f g : Nat) (come : Nat → Bool), Shut e come → left e come ≤ f → left e come ≤ g → compsF e f come = compsF e g come := by
  intro f
  induction f with
  | zero =>
    intro g come hs hf _
    have hz : ∀ v, v < e.length → come v = true := fun v hv => by
      cases hc : come v with
      | true => rfl
      | false =>
        have := left_more hv hc
        omega
    cases g with
    | zero => rfl
    | succ g =>
      unfold compsF
      cases hn : nextV e come with
      | none => rfl
      | some v =>
        obtain ⟨hv, hr, _⟩ := nextV_some hn
        have := (ready_iff.1 hr).1
        rw [hz v hv] at this
        cases this
  | succ f ih =>
    intro g come hs hf hg
    cases g with
    | zero => exact (by
        have hz : ∀ v, v < e.length → come v = true := fun v hv => by
          cases hc : come v with
          | true => rfl
          | false =>
            have := left_more hv hc
            omega
        unfold compsF
        cases hn : nextV e come with
        | none => rfl
        | some v =>
          obtain ⟨hv, hr, _⟩ := nextV_some hn
          have := (ready_iff.1 hr).1
          rw [hz v hv] at this
          cases this)
    | succ g =>
      unfold compsF
      cases hn : nextV e come with
      | none => rfl
      | some v =>
        obtain ⟨hv, hr, _⟩ := nextV_some hn
        have hc := (ready_iff.1 hr).1
        have hl := left_more hv hc
        show cmp e v :: compsF e f (more e come v) = cmp e v :: compsF e g (more e come v)
        rw [ih g (more e come v) (more_shut hs hr) (by omega) (by omega)]
/-- The nodes that one leads to. -/
def leads (e : Graph) (v : Nat) : List Nat := (List.range e.length).filter (lead e v)
theorem mem_leads {e : Graph} {v w : Nat} : w ∈ leads e v ↔ lead e v w = true := by
  unfold leads
  rw [List.mem_filter, List.mem_range]
  exact ⟨fun h => h.2, fun h => ⟨(lead_lt h).2, h⟩⟩
end Go.Proofs.Ytpalmnjapiijaaa.Gr
