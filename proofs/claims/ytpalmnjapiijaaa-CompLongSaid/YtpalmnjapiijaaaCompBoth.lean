/-
  Texts of earlier layers, as one.
-/
import Derived.Test.YtpalmnjapiijaaaCompPlain
/- Two graphs side by side; a row and a ring: their components, in plain words. -/
namespace Go.Proofs.Ytpalmnjapiijaaa.Gr

/-- The graph with its own edges alone, and so many nodes more that have none. -/
def both (e : Graph) (N : Nat) : Graph := (e.map fun l => l.filter fun z => decide (z < (e.length : Int))) ++ List.replicate N []
theorem both_length (e : Graph) (N : Nat) : (both e N).length = e.length + N := by simp [both]
theorem both_in {e : Graph} {N i : Nat} (h : i < e.length) : (both e N).getD i [] = (e.getD i []).filter fun z => decide (z < (e.length : Int)) := by
  unfold both
  simp only [List.getD_eq_getElem?_getD]
  rw [List.getElem?_append_left (by rw [List.length_map]; exact h), List.getElem?_map, List.getElem?_eq_getElem h]
  rfl
theorem both_out {e : Graph} {N i : Nat} (h : e.length ≤ i) : (both e N).getD i [] = [] := by
  unfold both
  simp only [List.getD_eq_getElem?_getD]
  rw [List.getElem?_append_right (by rw [List.length_map]; exact h), List.getElem?_replicate]
  split <;> rfl
theorem both_lead {e : Graph} {N i j : Nat} : lead (both e N) i j = true ↔ lead e i j = true ∨ (i = j ∧ e.length ≤ i ∧ i < e.length + N) := by
  constructor
  · refine lead_ind (e := both e N) (fun i j => lead e i j = true ∨ (i = j ∧ e.length ≤ i ∧ i < e.length + N)) (fun i j h => ?_) (fun i j k h1 h2 => ?_) i j
    · obtain ⟨h1, h2, h3⟩ := base_iff.1 h
      rw [both_length] at h1 h2
      by_cases hi : i < e.length
      · rcases h3 with rfl | h3
        · exact .inl (lead_refl hi)
        · rw [both_in hi, List.mem_filter] at h3
          have := of_decide_eq_true h3.2
          exact .inl (lead_edge hi (by omega) h3.1)
      · rcases h3 with rfl | h3
        · exact .inr ⟨rfl, by omega, h1⟩
        · rw [both_out (by omega)] at h3
          cases h3
    · rcases h1 with h1 | ⟨rfl, h1, h1'⟩
      · rcases h2 with h2 | ⟨rfl, h2, h2'⟩
        · exact .inl (lead_trans h1 h2)
        · exact .inl h1
      · exact h2
  · rintro (h | ⟨rfl, h1, h2⟩)
    · refine lead_ind (e := e) (fun i j => lead (both e N) i j = true) (fun i j h => ?_) (fun _ _ _ h1 h2 => lead_trans h1 h2) i j h
      obtain ⟨h1, h2, h3⟩ := base_iff.1 h
      rcases h3 with rfl | h3
      · exact lead_refl (by rw [both_length]; omega)
      · refine lead_edge (by rw [both_length]; omega) (by rw [both_length]; omega) ?_
        rw [both_in h1, List.mem_filter]
        exact ⟨h3, decide_eq_true (by omega)⟩
    · exact lead_refl (by rw [both_length]; omega)
theorem both_mutu {e : Graph} {N i j : Nat} : mutu (both e N) i j = true ↔ mutu e i j = true ∨ (i = j ∧ e.length ≤ i ∧ i < e.length + N) := by
  rw [mutu_iff, mutu_iff, both_lead, both_lead]
  constructor
  · rintro ⟨h1 | ⟨rfl, h1, h1'⟩, h2⟩
    · rcases h2 with h2 | ⟨rfl, h2, h2'⟩
      · exact .inl ⟨h1, h2⟩
      · exact .inl ⟨h1, h1⟩
    · exact .inr ⟨rfl, h1, h1'⟩
  · rintro (⟨h1, h2⟩ | ⟨rfl, h1, h2⟩)
    · exact ⟨.inl h1, .inl h2⟩
    · exact ⟨.inr ⟨rfl, h1, h2⟩, .inr ⟨rfl, h1, h2⟩⟩
/-- A rising list is known by what it has. -/
theorem up_ext : ∀ {a b : List Nat}, a.Pairwise (· < ·) → b.Pairwise (· < ·) → (∀ x, x ∈ a ↔ x ∈ b) → a = b
  | [], [], _, _, _ => rfl
  | [], y :: b, _, _, h => by have := (h y).2 (List.mem_cons_self ..); cases this
  | x :: a, [], _, _, h => by have := (h x).1 (List.mem_cons_self ..); cases this
  | x :: a, y :: b, ha, hb, h => by
    obtain ⟨ha1, ha2⟩ := List.pairwise_cons.1 ha
    obtain ⟨hb1, hb2⟩ := List.pairwise_cons.1 hb
    have hxy : x = y := by
      rcases List.mem_cons.1 ((h x).1 (List.mem_cons_self ..)) with e | e
      · exact e
      · rcases List.mem_cons.1 ((h y).2 (List.mem_cons_self ..)) with e' | e'
        · exact e'.symm
        · have h1 := hb1 x e
          have h2 := ha1 y e'
          omega
    subst hxy
    rw [up_ext ha2 hb2 fun z => ?_]
    constructor
    · intro hz
      rcases List.mem_cons.1 ((h z).1 (List.mem_cons_of_mem _ hz)) with e | e
      · have := ha1 z hz
        omega
      · exact e
    · intro hz
      rcases List.mem_cons.1 ((h z).2 (List.mem_cons_of_mem _ hz)) with e | e
      · have := hb1 z hz
        omega
      · exact e
theorem both_cmp {e : Graph} {N v : Nat} (h : v < e.length) : cmp (both e N) v = cmp e v := up_ext (cmp_up _ _) (cmp_up _ _) fun x => by
  rw [mem_cmp, mem_cmp, both_mutu]
  exact ⟨fun h' => h'.elim id fun h' => by omega, .inl⟩
theorem both_one {e : Graph} {N v : Nat} (h : e.length ≤ v) (h2 : v < e.length + N) : cmp (both e N) v = [v] := up_ext (cmp_up _ _) (List.pairwise_singleton ..) fun x => by
  rw [mem_cmp, both_mutu, List.mem_singleton]
  constructor
  · rintro (h' | ⟨rfl, _⟩)
    · have := (lead_lt (mutu_iff.1 h').1).1
      omega
    · rfl
  · rintro rfl
    exact .inr ⟨rfl, h, h2⟩
theorem comps_nodup (e : Graph) : (comps e).Nodup := by
  have h := comps_row e
  refine List.Pairwise.imp_of_mem (fun {c d} hc _ hr e' => ?_) h.order
  obtain ⟨u, hu, _, rfl⟩ := h.each c hc
  subst e'
  have hm : u ∈ cmp e u := mem_cmp.2 (mutu_refl hu)
  have := hr u hm u hm
  rw [lead_refl hu] at this
  cases this
/-- By itself, of the nodes from m on. -/
def sole (m : Nat) (c : List Nat) : Bool := decide (c.length = 1) && decide (m ≤ c.headD 0)
theorem sole_no {e : Graph} {v : Nat} : sole e.length (cmp e v) = false := by
  unfold sole
  cases hc : cmp e v with
  | nil => rfl
  | cons x l =>
    have : x ∈ cmp e v := by rw [hc]; exact List.mem_cons_self ..
    have := (lead_lt (mutu_iff.1 (mem_cmp.1 this)).1).2
    simp
    omega
theorem filter_parts {α : Type} (p : α → Bool) : ∀ l : List α, l.length = (l.filter p).length + (l.filter fun x => !p x).length
  | [] => rfl
  | x :: l => by
    have := filter_parts p l
    cases hp : p x <;> simp [hp] <;> omega
theorem both_sole (e : Graph) (N : Nat) : ((comps (both e N)).filter (sole e.length)).length = N := by
  have h := comps_row (both e N)
  have hp : List.Perm ((comps (both e N)).filter (sole e.length)) ((List.range N).map fun i => [e.length + i]) := by
    refine (List.perm_ext_iff_of_nodup ((comps_nodup _).filter _) ?_).2 fun c => ?_
    · refine List.Pairwise.map _ (fun i j _ => ?_) (List.pairwise_lt_range (n := N))
      intro e'
      injection e' with e'
      omega
    · rw [List.mem_filter, List.mem_map]
      constructor
      · rintro ⟨hc, hs⟩
        obtain ⟨v, hv, _, rfl⟩ := h.each c hc
        rw [both_length] at hv
        by_cases hve : v < e.length
        · rw [both_cmp hve, sole_no] at hs
          cases hs
        · exact ⟨v - e.length, List.mem_range.2 (by omega), by rw [both_one (by omega) hv]; congr 1; omega⟩
      · rintro ⟨i, hi, rfl⟩
        have hi := List.mem_range.1 hi
        have e1 := both_one (e := e) (N := N) (v := e.length + i) (by omega) (by omega)
        refine ⟨by rw [← e1]; exact h.all _ (by rw [both_length]; omega) rfl, ?_⟩
        simp [sole]
  rw [hp.length_eq]
  simp
theorem both_comps (e : Graph) (N : Nat) : (comps (both e N)).length = (comps e).length + N := by
  have h := comps_row (both e N)
  have h' := comps_row e
  have hp : List.Perm ((comps (both e N)).filter fun c => !sole e.length c) (comps e) := by
    refine (List.perm_ext_iff_of_nodup ((comps_nodup _).filter _) (comps_nodup e)).2 fun c => ?_
    rw [List.mem_filter]
    constructor
    · rintro ⟨hc, hs⟩
      obtain ⟨v, hv, _, rfl⟩ := h.each c hc
      rw [both_length] at hv
      by_cases hve : v < e.length
      · rw [both_cmp hve]
        exact h'.all v hve rfl
      · rw [both_one (by omega) hv] at hs
        simp [sole] at hs
        omega
    · intro hc
      obtain ⟨v, hv, _, rfl⟩ := h'.each c hc
      refine ⟨by rw [← both_cmp (N := N) hv]; exact h.all v (by rw [both_length]; omega) rfl, by rw [sole_no]; rfl⟩
  have := filter_parts (sole e.length) (comps (both e N))
  rw [both_sole, hp.length_eq] at this
  omega
theorem nextV_congr {e : Graph} {a b : Nat → Bool} (h : ∀ v, v < e.length → a v = b v) : nextV e a = nextV e b := by
  have hr : ∀ v, v < e.length → ready e a v = ready e b v := fun v hv => by
    unfold ready
    rw [h v hv]
    congr 1
    rw [Bool.eq_iff_iff, List.all_eq_true, List.all_eq_true]
    exact ⟨fun k x hx => by rw [← h x (List.mem_range.1 hx)]; exact k x hx, fun k x hx => by rw [h x (List.mem_range.1 hx)]; exact k x hx⟩
  unfold nextV
  have : ∀ l : List Nat, (∀ v ∈ l, v < e.length) → l.find? (ready e a) = l.find? (ready e b) := fun l => by
    induction l with
    | nil => intro _; rfl
    | cons x l ih =>
      intro hl
      rw [List.find?_cons, List.find?_cons, hr x (hl x (List.mem_cons_self ..)), ih fun v hv => hl v (List.mem_cons_of_mem _ hv)]
  exact this _ fun v hv => List.mem_range.1 hv
theorem compsF_congr {e : Graph} : ∀ (f : Nat) {a b : Nat → Bool}, (∀ v, v < e.length → a v = b v) → compsF e f a = compsF e f b
  | 0, _, _, _ => rfl
  | f + 1, a, b, h => by
    have hn := nextV_congr h
    have ha : compsF e (f + 1) a = match nextV e a with
      | none => []
      | some v => cmp e v :: compsF e f (more e a v) := rfl
    have hb : compsF e (f + 1) b = match nextV e b with
      | none => []
      | some v => cmp e v :: compsF e f (more e b v) := rfl
    rw [ha, hb, hn]
    cases nextV e b with
    | none => rfl
    | some v =>
      show cmp e v :: compsF e f (more e a v) = cmp e v :: compsF e f (more e b v)
      rw [compsF_congr f (a := more e a v) (b := more e b v) fun w hw => by unfold more; rw [h w hw]]
theorem compsF_done {e : Graph} (f : Nat) {a : Nat → Bool} (h : ∀ v, v < e.length → a v = true) : compsF e f a = [] := by
  cases f with
  | zero => rfl
  | succ f =>
    have ha : compsF e (f + 1) a = match nextV e a with
      | none => []
      | some v => cmp e v :: compsF e f (more e a v) := rfl
    rw [ha]
    cases hn : nextV e a with
    | none => rfl
    | some v =>
      obtain ⟨hv, hr, _⟩ := nextV_some hn
      have := (ready_iff.1 hr).1
      rw [h v hv] at this
      cases this
/-- A row of nodes, each with an edge to the next one; the last one's edges. -/
def rowG (k : Nat) (last : List Int) : Graph := (List.range k).map fun (i : Nat) => if i + 1 < k then [((i + 1 : Nat) : Int)] else last
theorem rowG_length (k : Nat) (last : List Int) : (rowG k last).length = k := by simp [rowG]
theorem rowG_at {k i : Nat} {last : List Int} (h : i < k) : (rowG k last).getD i [] = if i + 1 < k then [((i + 1 : Nat) : Int)] else last := by
  unfold rowG
  rw [List.getD_eq_getElem?_getD, List.getElem?_map, List.getElem?_range h]
  rfl
theorem row_on {k : Nat} {last : List Int} {i j : Nat} (h : i ≤ j) (hj : j < k) : lead (rowG k last) i j = true := by
  induction j with
  | zero =>
    have : i = 0 := by omega
    subst this
    exact lead_refl (by rw [rowG_length]; exact hj)
  | succ j ih =>
    by_cases e : i = j + 1
    · subst e
      exact lead_refl (by rw [rowG_length]; exact hj)
    · refine lead_trans (ih (by omega) (by omega)) (lead_edge (by rw [rowG_length]; omega) (by rw [rowG_length]; omega) ?_)
      rw [rowG_at (by omega), if_pos hj]
      exact List.mem_singleton.2 rfl
theorem row_lead {k i j : Nat} : lead (rowG k []) i j = true ↔ i ≤ j ∧ j < k := by
  refine ⟨lead_ind (e := rowG k []) (fun i j => i ≤ j ∧ j < k) (fun i j h => ?_) (fun _ _ _ h1 h2 => ⟨by omega, h2.2⟩) i j, fun h => row_on h.1 h.2⟩
  obtain ⟨h1, h2, h3⟩ := base_iff.1 h
  rw [rowG_length] at h1 h2
  refine ⟨?_, h2⟩
  rcases h3 with rfl | h3
  · exact Nat.le_refl _
  · rw [rowG_at h1] at h3
    split at h3
    · have := List.mem_singleton.1 h3
      omega
    · cases h3
theorem row_compsF {k : Nat} : ∀ (m f : Nat), m ≤ k → m ≤ f → compsF (rowG k []) f (fun w => decide (m ≤ w)) = (List.range m).map fun i => [m - 1 - i]
  | 0, f, _, _ => compsF_done f fun v _ => by simp
  | m + 1, 0, _, h => by omega
  | m + 1, f + 1, hk, hf => by
    have hlt : m < (rowG k []).length := by rw [rowG_length]; omega
    obtain ⟨u, hu⟩ := nextV_there (e := rowG k []) (come := fun w => decide (m + 1 ≤ w)) hlt (by simp)
    obtain ⟨hun, hur, _⟩ := nextV_some hu
    obtain ⟨h1, h2⟩ := ready_iff.1 hur
    have hum : u = m := by
      have hle : u ≤ m := by
        have := of_decide_eq_false h1
        omega
      rcases h2 m (row_lead.2 ⟨hle, by omega⟩) with h3 | h3
      · have := of_decide_eq_true h3
        omega
      · have := (row_lead.1 h3).1
        omega
    subst hum
    have hc : cmp (rowG k []) u = [u] := up_ext (cmp_up _ _) (List.pairwise_singleton ..) fun x => by
      rw [mem_cmp, mutu_iff, row_lead, row_lead, List.mem_singleton]
      constructor
      · rintro ⟨⟨h1, _⟩, h2, _⟩
        omega
      · rintro rfl
        exact ⟨⟨Nat.le_refl _, by omega⟩, Nat.le_refl _, by omega⟩
    have ha : compsF (rowG k []) (f + 1) (fun w => decide (u + 1 ≤ w)) = match nextV (rowG k []) (fun w => decide (u + 1 ≤ w)) with
      | none => []
      | some v => cmp (rowG k []) v :: compsF (rowG k []) f (more (rowG k []) (fun w => decide (u + 1 ≤ w)) v) := rfl
    rw [ha, hu]
    show cmp (rowG k []) u :: compsF (rowG k []) f (more (rowG k []) (fun w => decide (u + 1 ≤ w)) u) = _
    rw [hc, compsF_congr f (b := fun w => decide (u ≤ w)) fun w hw => ?_, row_compsF u f (by omega) (by omega), List.range_succ_eq_map, List.map_cons, List.map_map]
    · have e1 : (List.range u).map (fun i => [u - 1 - i]) = (List.range u).map ((fun i => [u + 1 - 1 - i]) ∘ Nat.succ) := List.map_congr_left fun i _ => by
        show [u - 1 - i] = [u + 1 - 1 - (i + 1)]
        congr 1
        omega
      rw [e1, show u + 1 - 1 - 0 = u from by omega]
    · rw [rowG_length] at hw
      unfold more
      rw [Bool.eq_iff_iff, Bool.or_eq_true, mutu_iff, row_lead, row_lead, decide_eq_true_iff, decide_eq_true_iff]
      constructor
      · rintro (h | ⟨⟨h, _⟩, _⟩) <;> omega
      · intro h
        by_cases e : u + 1 ≤ w
        · exact .inl e
        · exact .inr ⟨⟨h, hw⟩, by omega, by omega⟩
/-- A row has as many components, the last node first. -/
theorem row_comps (k : Nat) : comps (rowG k []) = (List.range k).map fun i => [k - 1 - i] := by
  unfold comps
  rw [rowG_length, compsF_congr k (b := fun w => decide (k ≤ w)) fun w hw => ?_]
  · exact row_compsF k k (Nat.le_refl _) (Nat.le_refl _)
  · rw [rowG_length] at hw
    rw [decide_eq_false (by omega)]
theorem ring_lead {k i j : Nat} (hi : i < k) (hj : j < k) : lead (rowG k [0]) i j = true := by
  refine lead_trans (row_on (j := k - 1) (by omega) (by omega)) (lead_trans (lead_edge (j := 0) (by rw [rowG_length]; omega) (by rw [rowG_length]; omega) ?_) (row_on (by omega) hj))
  rw [rowG_at (by omega), if_neg (by omega)]
  exact List.mem_singleton.2 rfl
/-- A ring has one. -/
theorem ring_comps {k : Nat} (h : 0 < k) : comps (rowG k [0]) = [List.range k] := by
  obtain ⟨f, rfl⟩ : ∃ f, k = f + 1 := ⟨k - 1, by omega⟩
  have hcm : ∀ u, u < f + 1 → cmp (rowG (f + 1) [0]) u = List.range (f + 1) := fun u hu => up_ext (cmp_up _ _) List.pairwise_lt_range fun x => by
    rw [mem_cmp, List.mem_range, mutu_iff]
    constructor
    · rintro ⟨h1, _⟩
      have := (lead_lt h1).2
      rw [rowG_length] at this
      exact this
    · intro hx
      exact ⟨ring_lead hu hx, ring_lead hx hu⟩
  obtain ⟨u, hu⟩ := nextV_there (e := rowG (f + 1) [0]) (come := fun _ => false) (v := 0) (by rw [rowG_length]; omega) rfl
  obtain ⟨hun, _, _⟩ := nextV_some hu
  rw [rowG_length] at hun
  unfold comps
  rw [rowG_length]
  have ha : compsF (rowG (f + 1) [0]) (f + 1) (fun _ => false) = match nextV (rowG (f + 1) [0]) (fun _ => false) with
    | none => []
    | some v => cmp (rowG (f + 1) [0]) v :: compsF (rowG (f + 1) [0]) f (more (rowG (f + 1) [0]) (fun _ => false) v) := rfl
  rw [ha, hu]
  show cmp (rowG (f + 1) [0]) u :: compsF (rowG (f + 1) [0]) f (more (rowG (f + 1) [0]) (fun _ => false) u) = _
  rw [hcm u hun, compsF_done f fun v hv => ?_]
  rw [rowG_length] at hv
  unfold more
  rw [Bool.false_or]
  exact mutu_iff.2 ⟨ring_lead hun hv, ring_lead hv hun⟩
end Go.Proofs.Ytpalmnjapiijaaa.Gr
