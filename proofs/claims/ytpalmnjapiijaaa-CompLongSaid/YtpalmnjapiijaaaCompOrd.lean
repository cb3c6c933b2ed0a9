/-
  Texts of earlier layers, as one.
-/
import Derived.Test.YtpalmnjapiijaaaCompTar
import Derived.Test.YtpalmnjapiijaaaCompRefComps
import Derived.Test.YtpalmnjapiijaaaCompBoth
/- The components' numbers by their least nodes, in plain words; who is free, who waits, who is placed, and what each step keeps. -/
namespace Go.Proofs.Ytpalmnjapiijaaa.Gr

section
variable {e : Graph}
/-- A component's least node. -/
def hd (e : Graph) (v : Nat) : Nat := (cmp e v).headD 0
def least (e : Graph) (v : Nat) : Bool := decide (hd e v = v)
def kc (e : Graph) (i : Nat) : Nat := ((List.range i).filter (least e)).length
/-- A node's component's number. -/
def rk (e : Graph) (v : Nat) : Nat := kc e (hd e v)
/-- A component's nodes below i. -/
def nd (e : Graph) (i k : Nat) : List Nat := (List.range i).filter fun v => decide (rk e v = k)
theorem hd_in {v : Nat} (h : v < e.length) : mutu e (hd e v) v = true ∧ ∀ u, mutu e v u = true → hd e v ≤ u := by
  have hv : v ∈ cmp e v := mem_cmp.2 (mutu_refl h)
  cases hc : cmp e v with
  | nil => rw [hc] at hv; cases hv
  | cons a l =>
    have ha : hd e v = a := by unfold hd; rw [hc]; rfl
    have hm : a ∈ cmp e v := by rw [hc]; exact List.mem_cons_self ..
    rw [ha]
    refine ⟨mutu_symm (mem_cmp.1 hm), fun u hu => ?_⟩
    have hu := mem_cmp.2 hu
    have hs := cmp_up e v
    rw [hc] at hu hs
    rcases List.mem_cons.1 hu with rfl | hu
    · exact Nat.le_refl _
    · exact Nat.le_of_lt ((List.pairwise_cons.1 hs).1 u hu)
theorem hd_lt {v : Nat} (h : v < e.length) : hd e v < e.length := (lead_lt (mutu_iff.1 (hd_in h).1).1).1
theorem hd_le {v : Nat} (h : v < e.length) : hd e v ≤ v := (hd_in h).2 v (mutu_refl h)
theorem hd_eq {u v : Nat} (h : mutu e u v = true) : hd e u = hd e v := by unfold hd; rw [cmp_eq h]
theorem hd_hd {v : Nat} (h : v < e.length) : hd e (hd e v) = hd e v := hd_eq (hd_in h).1
theorem least_hd {v : Nat} (h : v < e.length) : least e (hd e v) = true := decide_eq_true (hd_hd h)
theorem kc_succ (i : Nat) : kc e (i + 1) = kc e i + if least e i = true then 1 else 0 := by
  unfold kc
  rw [filter_snoc, List.length_append]
  split <;> rfl
theorem kc_mono {i j : Nat} (h : i ≤ j) : kc e i ≤ kc e j := by
  induction j with
  | zero => have : i = 0 := by omega
            subst this; exact Nat.le_refl _
  | succ j ih =>
    by_cases e1 : i = j + 1
    · subst e1; exact Nat.le_refl _
    · have := ih (by omega)
      rw [kc_succ]
      omega
theorem kc_le (i : Nat) : kc e i ≤ i := by
  unfold kc
  have := List.length_filter_le (least e) (List.range i)
  rwa [List.length_range] at this
theorem rk_lt {v i : Nat} (h : v < e.length) (hi : v < i) : rk e v < kc e i := by
  have h1 : kc e (hd e v + 1) = kc e (hd e v) + 1 := by rw [kc_succ, if_pos (least_hd h)]
  have h2 := kc_mono (e := e) (i := hd e v + 1) (j := i) (by have := hd_le h; omega)
  unfold rk
  omega
theorem rk_less {u v : Nat} (hu : u < e.length) (h : hd e u < hd e v) : rk e u < rk e v := by
  have h1 : kc e (hd e u + 1) = kc e (hd e u) + 1 := by rw [kc_succ, if_pos (least_hd hu)]
  have h2 := kc_mono (e := e) (i := hd e u + 1) (j := hd e v) h
  unfold rk
  omega
theorem rk_iff {u v : Nat} (hu : u < e.length) (hv : v < e.length) : rk e u = rk e v ↔ mutu e u v = true := by
  constructor
  · intro h
    have h1 : hd e u = hd e v := by
      rcases Nat.lt_trichotomy (hd e u) (hd e v) with h2 | h2 | h2
      · have := rk_less hu h2; omega
      · exact h2
      · have := rk_less hv h2; omega
    have h2 := (hd_in hu).1
    rw [h1] at h2
    exact mutu_trans (mutu_symm h2) (hd_in hv).1
  · intro h
    unfold rk
    rw [hd_eq h]
theorem rk_least {v : Nat} (h : least e v = true) : rk e v = kc e v := by
  unfold rk
  rw [of_decide_eq_true h]
theorem nd_succ (i k : Nat) : nd e (i + 1) k = nd e i k ++ if rk e i = k then [i] else [] := by
  unfold nd
  rw [filter_snoc]
  congr 1
  by_cases h : rk e i = k <;> simp [h]
theorem nd_cmp {v : Nat} (h : v < e.length) : nd e e.length (rk e v) = cmp e v := by
  unfold nd cmp
  refine List.filter_congr fun u hu => ?_
  have hu := List.mem_range.1 hu
  rw [Bool.eq_iff_iff, decide_eq_true_iff, rk_iff hu h]
  exact ⟨mutu_symm, mutu_symm⟩
theorem mem_nd {k v : Nat} : v ∈ nd e e.length k ↔ v < e.length ∧ rk e v = k := by
  unfold nd
  rw [List.mem_filter, List.mem_range, decide_eq_true_iff]
theorem nd_len (i k : Nat) : (nd e i k).length ≤ i := by
  unfold nd
  have := List.length_filter_le (fun v => decide (rk e v = k)) (List.range i)
  rwa [List.length_range] at this
/-- Each number is a component's: the least node of it. -/
theorem kc_has {i k : Nat} (hi : i ≤ e.length) (h : k < kc e i) : ∃ v, v < i ∧ least e v = true ∧ rk e v = k := by
  induction i with
  | zero => simp [kc] at h
  | succ i ih =>
    rw [kc_succ] at h
    by_cases hk : k < kc e i
    · obtain ⟨v, h1, h2, h3⟩ := ih (by omega) hk
      exact ⟨v, by omega, h2, h3⟩
    · by_cases hl : least e i = true
      · rw [if_pos hl] at h
        exact ⟨i, by omega, hl, by rw [rk_least hl]; omega⟩
      · rw [if_neg hl] at h
        omega
theorem nodup_len : ∀ (K : Nat) (l : List Nat), l.Nodup → (∀ x ∈ l, x < K) → l.length ≤ K
  | 0, l, _, h => by
    cases l with
    | nil => exact Nat.le_refl _
    | cons x l => have := h x (List.mem_cons_self ..); omega
  | K + 1, l, hn, h => by
    have h1 := nodup_len K (l.erase K) (hn.erase K) fun x hx => by
      have h2 := hn.mem_erase_iff.1 hx
      have := h x h2.2
      omega
    rw [List.length_erase] at h1
    split at h1 <;> omega
/-- An edge that needs nothing any more. -/
def okE (e : Graph) (pl : Nat → Bool) (c : Nat) (z : Int) : Prop := ∀ j : Nat, z = (j : Int) → j < e.length → rk e j = c ∨ pl (rk e j) = true
/-- All edges ahead of place t, q need nothing any more. -/
def past (e : Graph) (pl : Nat → Bool) (c t q : Nat) : Prop := (∀ t' u, t' < t → (nd e e.length c)[t']? = some u → ∀ z ∈ e.getD u [], okE e pl c z) ∧ ∀ u, (nd e e.length c)[t]? = some u → ∀ z ∈ (e.getD u []).take q, okE e pl c z
def doneC (e : Graph) (pl : Nat → Bool) (c : Nat) : Prop := ∀ u ∈ nd e e.length c, ∀ z ∈ e.getD u [], okE e pl c z
/-- c has an edge to d. -/
def dep (e : Graph) (c d : Nat) : Prop := ∃ u j : Nat, u ∈ nd e e.length c ∧ j < e.length ∧ (j : Int) ∈ e.getD u [] ∧ rk e j = d
def cm (e : Graph) (pl : Nat → Bool) (v : Nat) : Bool := decide (v < e.length) && pl (rk e v)
theorem cm_iff {pl : Nat → Bool} {v : Nat} : cm e pl v = true ↔ v < e.length ∧ pl (rk e v) = true := by
  unfold cm
  rw [Bool.and_eq_true, decide_eq_true_iff]
theorem okE_mono {pl pl' : Nat → Bool} {c : Nat} {z : Int} (h : okE e pl c z) (hm : ∀ x, pl x = true → pl' x = true) : okE e pl' c z := fun j hj hl => (h j hj hl).imp id (hm _)
theorem past_mono {pl pl' : Nat → Bool} {c t q : Nat} (h : past e pl c t q) (hm : ∀ x, pl x = true → pl' x = true) : past e pl' c t q :=
  ⟨fun t' u h1 h2 z hz => okE_mono (h.1 t' u h1 h2 z hz) hm, fun u h1 z hz => okE_mono (h.2 u h1 z hz) hm⟩
theorem doneC_mono {pl pl' : Nat → Bool} {c : Nat} (h : doneC e pl c) (hm : ∀ x, pl x = true → pl' x = true) : doneC e pl' c := fun u h1 z hz => okE_mono (h u h1 z hz) hm
theorem past_done {pl : Nat → Bool} {c t q : Nat} (h : past e pl c t q) (ht : (nd e e.length c).length ≤ t) : doneC e pl c := fun u hu z hz => by
  obtain ⟨k, hk⟩ := List.getElem?_of_mem hu
  have := (List.getElem?_eq_some_iff.1 hk).1
  exact h.1 k u (by omega) hk z hz
theorem past_next {pl : Nat → Bool} {c t q u : Nat} {z : Int} (h : past e pl c t q) (hu : (nd e e.length c)[t]? = some u) (hz : (e.getD u [])[q]? = some z) (hk : okE e pl c z) : past e pl c t (q + 1) :=
  ⟨h.1, fun u' hu' y hy => by
    rw [hu] at hu'
    cases hu'
    rw [List.take_add_one, hz] at hy
    rcases List.mem_append.1 hy with hy | hy
    · exact h.2 u hu y hy
    · simp at hy
      rw [hy]
      exact hk⟩
theorem past_row {pl : Nat → Bool} {c t q u : Nat} (h : past e pl c t q) (hu : (nd e e.length c)[t]? = some u) (hq : (e.getD u []).length ≤ q) : past e pl c (t + 1) 0 :=
  ⟨fun t' u' h1 h2 z hz => by
    by_cases e1 : t' = t
    · subst e1
      rw [hu] at h2
      cases h2
      refine h.2 u hu z ?_
      rw [List.take_of_length_le hq]
      exact hz
    · exact h.1 t' u' (by omega) h2 z hz, fun u' _ z hz => by simp at hz⟩
/-- Who is placed, who is free (wh = K), who waits behind whom (wh < K), who is to be asked (K + 1). -/
structure OS (e : Graph) (K : Nat) (at_ gone : Nat → Nat) (pl : Nat → Bool) (BL : Nat → List Nat) (F : List Nat) (wh : Nat → Nat) : Prop where
  hK : K = kc e e.length
  pst : ∀ c, c < K → past e pl c (at_ c) (gone c)
  fr : ∀ x, x ∈ F ↔ x < K ∧ wh x = K
  bl : ∀ k, k < K → pl k = false → ∀ x, x ∈ BL k ↔ x < K ∧ wh x = k
  frN : F.Nodup
  blN : ∀ k, k < K → pl k = false → (BL k).Nodup
  free : ∀ x, x < K → wh x = K → pl x = false ∧ doneC e pl x
  wait : ∀ x, x < K → wh x < K → pl x = false ∧ wh x ≠ x ∧ pl (wh x) = false ∧ dep e x (wh x)
  rng : ∀ x, x < K → pl x = false → wh x = K ∨ wh x < K ∨ wh x = K + 1
  plc : ∀ x, x < K → pl x = true → wh x = K + 2
  shut : Shut e (cm e pl)
section
variable {K : Nat} {at_ gone : Nat → Nat} {pl : Nat → Bool} {BL : Nat → List Nat} {F : List Nat} {wh : Nat → Nat}
theorem OS.start (hK : K = kc e e.length) : OS e K (fun _ => 0) (fun _ => 0) (fun _ => false) (fun _ => []) [] (fun _ => K + 1) where
  hK := hK
  pst c _ := ⟨fun t' u h => by omega, fun u _ z hz => by simp at hz⟩
  fr x := ⟨fun h => by simp at h, fun ⟨_, h⟩ => by omega⟩
  bl k hk _ x := ⟨fun h => by simp at h, fun ⟨_, h⟩ => by omega⟩
  frN := List.nodup_nil
  blN k _ _ := List.nodup_nil
  free x _ h := by omega
  wait x _ h := by omega
  rng x _ _ := .inr (.inr rfl)
  plc x _ h := by cases h
  shut v w h := by unfold cm at h; simp at h
theorem OS.flen (h : OS e K at_ gone pl BL F wh) : F.length ≤ K := nodup_len K F h.frN fun x hx => ((h.fr x).1 hx).1
theorem OS.blen (h : OS e K at_ gone pl BL F wh) {k : Nat} (hk : k < K) (hp : pl k = false) : (BL k).length ≤ K := nodup_len K _ (h.blN k hk hp) fun x hx => ((h.bl k hk hp x).1 hx).1
/-- The places of one component go on. -/
theorem OS.go (h : OS e K at_ gone pl BL F wh) {c t q : Nat} (hp : past e pl c t q) : OS e K (upd at_ c t) (upd gone c q) pl BL F wh := by
  refine { h with pst := fun x hx => ?_ }
  by_cases e1 : x = c
  · rw [e1, upd_same, upd_same]; exact hp
  · rw [upd_other e1, upd_other e1]; exact h.pst x hx
/-- One is free. -/
theorem OS.setFree (h : OS e K at_ gone pl BL F wh) {x : Nat} {F' : List Nat} (hx : x < K) (hw : wh x = K + 1) (hp : pl x = false) (hd : doneC e pl x) (hF : F'.Perm (F ++ [x])) : OS e K at_ gone pl BL F' (upd wh x K) := by
  have hxF : x ∉ F := fun hm => by have := ((h.fr x).1 hm).2; omega
  refine { h with fr := fun y => ?_, bl := fun k hk hpk y => ?_, frN := ?_, free := fun y hy hwy => ?_, wait := fun y hy hwy => ?_, rng := fun y hy hpy => ?_, plc := fun y hy hpy => ?_ }
  · rw [hF.mem_iff, List.mem_append, List.mem_singleton]
    by_cases e1 : y = x
    · rw [e1, upd_same]
      exact ⟨fun _ => ⟨hx, rfl⟩, fun _ => .inr rfl⟩
    · rw [upd_other e1, ← h.fr y]
      exact ⟨fun h => h.resolve_right e1, .inl⟩
  · rw [h.bl k hk hpk y]
    by_cases e1 : y = x
    · rw [e1, upd_same, hw]
      exact ⟨fun h => by omega, fun h => by omega⟩
    · rw [upd_other e1]
  · rw [hF.nodup_iff, List.nodup_append]
    exact ⟨h.frN, by simp, fun a ha b hb e => hxF (by rw [List.mem_singleton.1 hb] at e; rw [← e]; exact ha)⟩
  · by_cases e1 : y = x
    · rw [e1]; exact ⟨hp, hd⟩
    · rw [upd_other e1] at hwy
      exact h.free y hy hwy
  · by_cases e1 : y = x
    · rw [e1, upd_same] at hwy; omega
    · rw [upd_other e1] at hwy ⊢
      exact h.wait y hy hwy
  · by_cases e1 : y = x
    · rw [e1, upd_same]; exact .inl rfl
    · rw [upd_other e1]
      exact h.rng y hy hpy
  · rw [upd_other (fun e1 => by rw [e1, hp] at hpy; cases hpy)]
    exact h.plc y hy hpy
/-- One waits behind another one. -/
theorem OS.setWait (h : OS e K at_ gone pl BL F wh) {x d : Nat} (hx : x < K) (hw : wh x = K + 1) (hp : pl x = false) (hd : d < K) (hdx : d ≠ x) (hpd : pl d = false) (hdep : dep e x d) : OS e K at_ gone pl (upd BL d (BL d ++ [x])) F (upd wh x d) := by
  have hxB : ∀ k, k < K → pl k = false → x ∉ BL k := fun k hk hpk hm => by have := ((h.bl k hk hpk x).1 hm).2; omega
  refine { h with fr := fun y => ?_, bl := fun k hk hpk y => ?_, blN := fun k hk hpk => ?_, free := fun y hy hwy => ?_, wait := fun y hy hwy => ?_, rng := fun y hy hpy => ?_, plc := fun y hy hpy => ?_ }
  · rw [h.fr y]
    by_cases e1 : y = x
    · rw [e1, upd_same, hw]
      exact ⟨fun h => by omega, fun h => by omega⟩
    · rw [upd_other e1]
  · by_cases e2 : k = d
    · rw [e2, upd_same, List.mem_append, List.mem_singleton]
      by_cases e1 : y = x
      · rw [e1, upd_same]
        exact ⟨fun _ => ⟨hx, rfl⟩, fun _ => .inr rfl⟩
      · rw [upd_other e1, h.bl d hd hpd y]
        exact ⟨fun h => h.resolve_right e1, .inl⟩
    · rw [upd_other e2, h.bl k hk hpk y]
      by_cases e1 : y = x
      · rw [e1, upd_same, hw]
        exact ⟨fun h => by omega, fun h => absurd h.2.symm e2⟩
      · rw [upd_other e1]
  · by_cases e2 : k = d
    · rw [e2, upd_same, List.nodup_append]
      exact ⟨h.blN d hd hpd, by simp, fun a ha b hb e => hxB d hd hpd (by rw [List.mem_singleton.1 hb] at e; rw [← e]; exact ha)⟩
    · rw [upd_other e2]
      exact h.blN k hk hpk
  · by_cases e1 : y = x
    · rw [e1, upd_same] at hwy; omega
    · rw [upd_other e1] at hwy
      exact h.free y hy hwy
  · by_cases e1 : y = x
    · rw [e1, upd_same]; exact ⟨hp, hdx, hpd, hdep⟩
    · rw [upd_other e1] at hwy ⊢
      exact h.wait y hy hwy
  · by_cases e1 : y = x
    · rw [e1, upd_same]; exact .inr (.inl hd)
    · rw [upd_other e1]
      exact h.rng y hy hpy
  · rw [upd_other (fun e1 => by rw [e1, hp] at hpy; cases hpy)]
    exact h.plc y hy hpy
/-- Where all stand behind d's place. -/
def whP (wh : Nat → Nat) (K d : Nat) : Nat → Nat := fun x => if x = d then K + 2 else if wh x = d then K + 1 else wh x
theorem OS.place (h : OS e K at_ gone pl BL F wh) {d : Nat} {F' : List Nat} (hF : F.Perm (F' ++ [d])) : OS e K at_ gone (upd pl d true) BL F' (whP wh K d) := by
  have hdF : d ∈ F := hF.mem_iff.2 (by simp)
  obtain ⟨hdK, hwd⟩ := (h.fr d).1 hdF
  obtain ⟨hpd, hdn⟩ := h.free d hdK hwd
  have hnd : (F' ++ [d]).Nodup := hF.nodup_iff.1 h.frN
  rw [List.nodup_append] at hnd
  have hdF' : d ∉ F' := fun hm => hnd.2.2 d hm d (by simp) rfl
  have hmono : ∀ x, pl x = true → upd pl d true x = true := fun x hx => by
    by_cases e1 : x = d
    · rw [e1, upd_same]
    · rw [upd_other e1]; exact hx
  have hpf : ∀ {x}, upd pl d true x = false → x ≠ d ∧ pl x = false := fun {x} hx => by
    by_cases e1 : x = d
    · rw [e1, upd_same] at hx; cases hx
    · rw [upd_other e1] at hx; exact ⟨e1, hx⟩
  have w0 : whP wh K d d = K + 2 := by unfold whP; rw [if_pos rfl]
  have w1 : ∀ {x}, x ≠ d → wh x = d → whP wh K d x = K + 1 := fun {x} h1 h2 => by unfold whP; rw [if_neg h1, if_pos h2]
  have w2 : ∀ {x}, x ≠ d → wh x ≠ d → whP wh K d x = wh x := fun {x} h1 h2 => by unfold whP; rw [if_neg h1, if_neg h2]
  refine { hK := h.hK, pst := fun c hc => past_mono (h.pst c hc) hmono, fr := fun y => ?_, bl := fun k hk hpk y => ?_, frN := hnd.1, blN := fun k hk hpk => h.blN k hk (hpf hpk).2, free := fun y hy hwy => ?_, wait := fun y hy hwy => ?_, rng := fun y hy hpy => ?_, plc := fun y hy hpy => ?_, shut := ?_ }
  · by_cases e1 : y = d
    · rw [e1, w0]
      exact ⟨fun h => absurd h hdF', fun h => by omega⟩
    · have h1 : y ∈ F' ↔ y ∈ F := by rw [hF.mem_iff, List.mem_append, List.mem_singleton]; exact ⟨.inl, fun h => h.resolve_right e1⟩
      rw [h1, h.fr y]
      by_cases e2 : wh y = d
      · rw [w1 e1 e2, e2]
        exact ⟨fun h => by omega, fun h => by omega⟩
      · rw [w2 e1 e2]
  · obtain ⟨hkd, hpk'⟩ := hpf hpk
    rw [h.bl k hk hpk' y]
    by_cases e1 : y = d
    · rw [e1, w0, hwd]
      exact ⟨fun h => by omega, fun h => by omega⟩
    · by_cases e2 : wh y = d
      · rw [w1 e1 e2, e2]
        exact ⟨fun h => absurd h.2.symm hkd, fun h => by omega⟩
      · rw [w2 e1 e2]
  · by_cases e1 : y = d
    · rw [e1, w0] at hwy; omega
    · by_cases e2 : wh y = d
      · rw [w1 e1 e2] at hwy; omega
      · rw [w2 e1 e2] at hwy
        obtain ⟨h1, h2⟩ := h.free y hy hwy
        exact ⟨by rw [upd_other e1]; exact h1, doneC_mono h2 hmono⟩
  · by_cases e1 : y = d
    · rw [e1, w0] at hwy; omega
    · by_cases e2 : wh y = d
      · rw [w1 e1 e2] at hwy; omega
      · rw [w2 e1 e2] at hwy ⊢
        obtain ⟨h1, h2, h3, h4⟩ := h.wait y hy hwy
        exact ⟨by rw [upd_other e1]; exact h1, h2, by rw [upd_other e2]; exact h3, h4⟩
  · obtain ⟨e1, hpy'⟩ := hpf hpy
    by_cases e2 : wh y = d
    · rw [w1 e1 e2]; exact .inr (.inr rfl)
    · rw [w2 e1 e2]; exact h.rng y hy hpy'
  · by_cases e1 : y = d
    · rw [e1, w0]
    · rw [upd_other e1] at hpy
      have := h.plc y hy hpy
      rw [w2 e1 (by omega)]
      exact this
  · have key : ∀ a b, lead e a b = true → cm e (upd pl d true) a = true → cm e (upd pl d true) b = true := lead_ind _ (fun a b hab ha => by
      obtain ⟨hal, hbl, hab⟩ := base_iff.1 hab
      rcases hab with rfl | hab
      · exact ha
      · obtain ⟨_, ha⟩ := cm_iff.1 ha
        refine cm_iff.2 ⟨hbl, ?_⟩
        by_cases e1 : rk e a = d
        · rcases hdn a (mem_nd.2 ⟨hal, e1⟩) _ hab b rfl hbl with h1 | h1
          · rw [h1, upd_same]
          · exact hmono _ h1
        · rw [upd_other e1] at ha
          exact hmono _ (cm_iff.1 (h.shut a b (cm_iff.2 ⟨hal, ha⟩) (lead_edge hal hbl hab))).2) fun a b c h1 h2 ha => h2 (h1 ha)
    exact fun v w hv hvw => key v w hvw hv
/-- Who is free may come next. -/
theorem OS.ready_ (h : OS e K at_ gone pl BL F wh) {v : Nat} (hv : v < e.length) (hw : wh (rk e v) = K) : ready e (cm e pl) v = true := by
  have hk : rk e v < K := by rw [h.hK]; exact rk_lt hv hv
  obtain ⟨hp, hd⟩ := h.free _ hk hw
  have h0 : cm e pl v = false := by
    cases hc : cm e pl v with
    | false => rfl
    | true => rw [(cm_iff.1 hc).2] at hp; cases hp
  refine ready_iff.2 ⟨h0, fun w hvw => ?_⟩
  have key : ∀ a b, lead e a b = true → (a < e.length ∧ rk e a = rk e v) ∨ cm e pl a = true → (b < e.length ∧ rk e b = rk e v) ∨ cm e pl b = true := lead_ind _ (fun a b hab ha => by
    obtain ⟨hal, hbl, hab⟩ := base_iff.1 hab
    rcases hab with rfl | hab
    · exact ha
    · rcases ha with ⟨_, ha⟩ | ha
      · rcases hd a (mem_nd.2 ⟨hal, ha⟩) _ hab b rfl hbl with h1 | h1
        · exact .inl ⟨hbl, h1⟩
        · exact .inr (cm_iff.2 ⟨hbl, h1⟩)
      · exact .inr (h.shut a b ha (lead_edge hal hbl hab))) fun a b c h1 h2 ha => h2 (h1 ha)
  rcases key v w hvw (.inl ⟨hv, rfl⟩) with ⟨h1, h2⟩ | h1
  · exact .inr (mutu_iff.1 ((rk_iff h1 hv).1 h2)).1
  · exact .inl h1
/-- Who may come next is free, once all were asked. -/
theorem OS.free_ (h : OS e K at_ gone pl BL F wh) (hall : ∀ x, x < K → wh x ≠ K + 1) {v : Nat} (hv : v < e.length) (hr : ready e (cm e pl) v = true) : wh (rk e v) = K := by
  have hk : rk e v < K := by rw [h.hK]; exact rk_lt hv hv
  obtain ⟨h1, h2⟩ := ready_iff.1 hr
  have hp : pl (rk e v) = false := by
    cases hq : pl (rk e v) with
    | false => rfl
    | true => rw [cm_iff.2 ⟨hv, hq⟩] at h1; cases h1
  rcases h.rng _ hk hp with h3 | h3 | h3
  · exact h3
  · exfalso
    obtain ⟨_, h4, h5, u, j, hu, hj, hm, hrj⟩ := h.wait _ hk h3
    obtain ⟨hul, hur⟩ := mem_nd.1 hu
    have hvu := (mutu_iff.1 ((rk_iff hv hul).1 hur.symm)).1
    have hvj := lead_trans hvu (lead_edge hul hj hm)
    rcases h2 j hvj with h6 | h6
    · have := (cm_iff.1 h6).2
      rw [hrj, h5] at this
      cases this
    · have := (rk_iff hj hv).2 (mutu_iff.2 ⟨h6, hvj⟩)
      exact h4 (hrj.symm.trans this)
  · exact absurd h3 (hall _ hk)
/-- None is free: all are placed. -/
theorem OS.all_ (h : OS e K at_ gone pl BL F wh) (hall : ∀ x, x < K → wh x ≠ K + 1) (hF : F = []) : ∀ v, v < e.length → cm e pl v = true := fun v hv => by
  cases hc : cm e pl v with
  | true => rfl
  | false =>
    obtain ⟨u, hu⟩ := nextV_there hv hc
    obtain ⟨h1, h2, _⟩ := nextV_some hu
    have h3 := h.free_ hall h1 h2
    have := (h.fr (rk e u)).2 ⟨by rw [h.hK]; exact rk_lt h1 h1, h3⟩
    rw [hF] at this
    cases this
/-- The least of those that are free is the next one. -/
theorem OS.next_ (h : OS e K at_ gone pl BL F wh) (hall : ∀ x, x < K → wh x ≠ K + 1) {d : Nat} (hdF : d ∈ F) (hm : ∀ y ∈ F, d ≤ y) : ∃ v, v < e.length ∧ rk e v = d ∧ nextV e (cm e pl) = some v ∧ nd e e.length d = cmp e v ∧ ∀ u, u < e.length → more e (cm e pl) v u = cm e (upd pl d true) u := by
  obtain ⟨hdK, hwd⟩ := (h.fr d).1 hdF
  obtain ⟨v, hv, hl, hr⟩ := kc_has (e := e) (Nat.le_refl _) (by rw [← h.hK]; exact hdK)
  subst hr
  have hrv := h.ready_ hv hwd
  refine ⟨v, hv, rfl, ?_, nd_cmp hv, fun u hu => ?_⟩
  · obtain ⟨u, hu⟩ := nextV_there hv (ready_iff.1 hrv).1
    obtain ⟨h1, h2, h3⟩ := nextV_some hu
    have huv : u ≤ v := Nat.le_of_not_lt fun hlt => by rw [h3 v hlt] at hrv; cases hrv
    have hw := h.free_ hall h1 h2
    have h4 := hm _ ((h.fr (rk e u)).2 ⟨by rw [h.hK]; exact rk_lt h1 h1, hw⟩)
    have h5 : ¬ u < v := fun hlt => by
      have h6 : hd e u < hd e v := by
        have := hd_le h1
        have h7 : hd e v = v := of_decide_eq_true hl
        omega
      have := rk_less h1 h6
      omega
    have : u = v := by omega
    rw [hu, this]
  · unfold more
    rw [Bool.eq_iff_iff, Bool.or_eq_true, cm_iff, cm_iff]
    by_cases e1 : rk e u = rk e v
    · rw [e1, upd_same]
      exact ⟨fun _ => ⟨hu, rfl⟩, fun _ => .inr ((rk_iff hv hu).1 e1.symm)⟩
    · rw [upd_other e1]
      exact ⟨fun h => h.resolve_right fun hm => e1 ((rk_iff hv hu).2 hm).symm, .inl⟩
end
/-- The list goes on. -/
theorem comps_next {come : Nat → Bool} {v : Nat} {L : List (List Nat)} {come' : Nat → Bool} (hs : Shut e come) (hn : nextV e come = some v) (hc : ∀ u, u < e.length → more e come v u = come' u) (h : L ++ compsF e (left e come) come = comps e) :
    (L ++ [cmp e v]) ++ compsF e (left e come') come' = comps e ∧ left e come' < left e come := by
  obtain ⟨hv, hr, _⟩ := nextV_some hn
  have h1 := left_more hv (ready_iff.1 hr).1
  have h2 : left e (more e come v) = left e come' := by
    unfold left
    congr 1
    exact List.filter_congr fun u hu => by rw [hc u (List.mem_range.1 hu)]
  rw [h2] at h1
  refine ⟨?_, h1⟩
  obtain ⟨f, hf⟩ : ∃ f, left e come = f + 1 := ⟨left e come - 1, by omega⟩
  rw [← h, hf, List.append_assoc]
  congr 1
  show [cmp e v] ++ _ = compsF e (f + 1) come
  have h3 : compsF e (f + 1) come = cmp e v :: compsF e f (more e come v) := by
    rw [compsF, hn]
  rw [h3, compsF_congr (left e come') (fun u hu => (hc u hu).symm), ← h2]
  rw [compsF_more (left e (more e come v)) f (more e come v) (more_shut hs hr) (Nat.le_refl _) (by rw [h2]; omega)]
  rfl
end
end Go.Proofs.Ytpalmnjapiijaaa.Gr
