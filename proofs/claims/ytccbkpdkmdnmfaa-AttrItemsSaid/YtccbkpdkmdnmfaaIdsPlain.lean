/-
  Ids and sets of them as plain lists, of no program: their order, rising lists, the set of a list, joining, what is right.
-/
import Derived.WalkKit
namespace Go.Proofs.Ytccbkpdkmdnmfaa.Ids

/-- An id: R and N. 'a is ahead of b': by N, then by R. -/
def lt (a b : Int × Int) : Bool := decide (a.2 < b.2) || (decide (a.2 = b.2) && decide (a.1 < b.1))
theorem lt_iff {a b : Int × Int} : lt a b = true ↔ a.2 < b.2 ∨ a.2 = b.2 ∧ a.1 < b.1 := by simp [lt]
theorem lt_false {a b : Int × Int} : lt a b = false ↔ ¬ (a.2 < b.2 ∨ a.2 = b.2 ∧ a.1 < b.1) := by rw [← lt_iff]; simp
theorem lt_irrefl (a : Int × Int) : lt a a = false := by rw [lt_false]; omega
theorem lt_trans {a b c : Int × Int} (h : lt a b = true) (k : lt b c = true) : lt a c = true := by rw [lt_iff] at *; omega
theorem lt_asymm {a b : Int × Int} (h : lt a b = true) : lt b a = false := by rw [lt_iff] at h; rw [lt_false]; omega
theorem lt_tri {a b : Int × Int} (h : lt a b = false) (k : lt b a = false) : a = b := by
  rw [lt_false] at h k
  exact Prod.ext (by omega) (by omega)
theorem lt_ne {a b : Int × Int} (h : lt a b = true) : a ≠ b := fun e => by subst e; rw [lt_irrefl] at h; cases h
theorem lt_le {a b c : Int × Int} (h : lt a b = true) (k : lt c b = false) : lt a c = true := by
  rw [lt_iff] at *; rw [lt_false] at k; omega

/-- The list rises. -/
def Up (l : List (Int × Int)) : Prop := l.Pairwise fun a b => lt a b = true
theorem up_nil : Up [] := List.Pairwise.nil
theorem up_cons {a : Int × Int} {l : List (Int × Int)} : Up (a :: l) ↔ (∀ x ∈ l, lt a x = true) ∧ Up l := List.pairwise_cons
theorem up_append {a b : List (Int × Int)} : Up (a ++ b) ↔ Up a ∧ Up b ∧ ∀ x ∈ a, ∀ y ∈ b, lt x y = true := List.pairwise_append
theorem Up.filter {l : List (Int × Int)} (h : Up l) (p : Int × Int → Bool) : Up (l.filter p) := List.Pairwise.filter p h
theorem up_unique : ∀ (r s : List (Int × Int)), Up r → Up s → (∀ x, x ∈ r ↔ x ∈ s) → r = s
  | [], [], _, _, _ => rfl
  | [], b :: s, _, _, h => absurd ((h b).2 (by simp)) (by simp)
  | a :: r, [], _, _, h => absurd ((h a).1 (by simp)) (by simp)
  | a :: r, b :: s, hr, hs, h => by
    rw [up_cons] at hr hs
    have hab : a = b := by
      rcases List.mem_cons.1 ((h a).1 (by simp)) with e | e
      · exact e
      · rcases List.mem_cons.1 ((h b).2 (by simp)) with e' | e'
        · exact e'.symm
        · have h1 := hs.1 a e
          have h2 := lt_asymm (hr.1 b e')
          rw [h1] at h2
          cases h2
    subst hab
    rw [up_unique r s hr.2 hs.2 fun x => ?_]
    have hx := h x
    constructor
    · intro hm
      rcases List.mem_cons.1 (hx.1 (List.mem_cons_of_mem _ hm)) with e | e
      · exact absurd e.symm (lt_ne (hr.1 x hm))
      · exact e
    · intro hm
      rcases List.mem_cons.1 (hx.2 (List.mem_cons_of_mem _ hm)) with e | e
      · exact absurd e.symm (lt_ne (hs.1 x hm))
      · exact e

/-- Neighbours that are the same are one. -/
def dd : List (Int × Int) → List (Int × Int)
  | [] => []
  | [x] => [x]
  | x :: y :: l => if x = y then dd (y :: l) else x :: dd (y :: l)
theorem mem_dd (x : Int × Int) : ∀ l, x ∈ dd l ↔ x ∈ l
  | [] => by simp [dd]
  | [y] => by simp [dd]
  | y :: z :: l => by
    have ih := mem_dd x (z :: l)
    rw [dd]
    split
    · rename_i e
      subst e
      rw [ih]
      simp
    · rw [List.mem_cons, ih, List.mem_cons (a := x) (b := y)]
theorem length_dd : ∀ l : List (Int × Int), (dd l).length ≤ l.length
  | [] => by simp [dd]
  | [y] => by simp [dd]
  | y :: z :: l => by
    have ih := length_dd (z :: l)
    rw [dd]
    split
    · simp at *; omega
    · simp at *; omega
theorem dd_snoc : ∀ (l : List (Int × Int)) (a b : Int × Int), dd (l ++ [a, b]) = dd (l ++ [a]) ++ if a = b then [] else [b]
  | [], a, b => by
    by_cases h : a = b <;> simp [dd, h]
  | [x], a, b => by
    have ih := dd_snoc [] a b
    simp only [List.nil_append] at ih
    have e1 : dd ([x] ++ [a, b]) = if x = a then dd [a, b] else x :: dd [a, b] := rfl
    have e2 : dd ([x] ++ [a]) = if x = a then dd [a] else x :: dd [a] := rfl
    rw [e1, e2, ih]
    split <;> simp
  | x :: y :: l, a, b => by
    have ih := dd_snoc (y :: l) a b
    have e1 : dd (x :: y :: l ++ [a, b]) = if x = y then dd (y :: l ++ [a, b]) else x :: dd (y :: l ++ [a, b]) := rfl
    have e2 : dd (x :: y :: l ++ [a]) = if x = y then dd (y :: l ++ [a]) else x :: dd (y :: l ++ [a]) := rfl
    rw [e1, e2, ih]
    split <;> simp
theorem up_dd : ∀ l : List (Int × Int), (l.Pairwise fun a b => lt b a = false) → Up (dd l)
  | [], _ => up_nil
  | [y], _ => by simp [dd, Up]
  | y :: z :: l, h => by
    rw [List.pairwise_cons] at h
    have ih := up_dd (z :: l) h.2
    rw [dd]
    split
    · exact ih
    · rename_i hne
      refine up_cons.2 ⟨fun x hx => ?_, ih⟩
      rw [mem_dd] at hx
      have hz : lt y z = true := by
        cases e : lt y z with
        | true => rfl
        | false => exact absurd (lt_tri e (h.1 z (by simp))) hne
      rcases List.mem_cons.1 hx with rfl | hx
      · exact hz
      · exact lt_le hz ((List.pairwise_cons.1 h.2).1 x hx)

/-- The set of a list. -/
def setl (l : List (Int × Int)) : List (Int × Int) := dd (l.mergeSort fun x y => !lt y x)
theorem sorted_ms (l : List (Int × Int)) : (l.mergeSort fun x y => !lt y x).Pairwise fun a b => lt b a = false := by
  have h := List.pairwise_mergeSort (le := fun x y : Int × Int => !lt y x) (fun a b c h1 h2 => by
    simp only [Bool.not_eq_true'] at *
    rw [lt_false] at *
    omega) (fun a b => by
    cases e : lt b a with
    | false => rfl
    | true => simp [lt_asymm e]) l
  exact h.imp fun h => by simpa using h
theorem up_setl (l : List (Int × Int)) : Up (setl l) := up_dd _ (sorted_ms l)
theorem mem_setl (l : List (Int × Int)) (x : Int × Int) : x ∈ setl l ↔ x ∈ l := by rw [setl, mem_dd]; exact (List.mergeSort_perm l _).mem_iff
theorem length_setl (l : List (Int × Int)) : (setl l).length ≤ l.length := by
  have := length_dd (l.mergeSort fun x y => !lt y x)
  rwa [(List.mergeSort_perm l _).length_eq] at this
theorem setl_eq {l r : List (Int × Int)} (hr : Up r) (h : ∀ x, x ∈ r ↔ x ∈ l) : r = setl l := up_unique r _ hr (up_setl l) fun x => (h x).trans (mem_setl l x).symm

/-- Joining, on the way: what is out, and what is left of both. -/
structure Joins (a b out a' b' : List (Int × Int)) : Prop where
  oUp : Up out
  fst : Up a'
  snd : Up b'
  ahead : ∀ x ∈ out, ∀ y, y ∈ a' ∨ y ∈ b' → lt x y = true
  mem : ∀ x, (x ∈ out ∨ x ∈ a' ∨ x ∈ b') ↔ (x ∈ a ∨ x ∈ b)
  len : out.length + a'.length + b'.length ≤ a.length + b.length
theorem Joins.start {a b : List (Int × Int)} (ha : Up a) (hb : Up b) : Joins a b [] a b := ⟨up_nil, ha, hb, by simp, by simp, by simp⟩
/-- l behind x, if it begins with x, else l. -/
def past (l : List (Int × Int)) (x : Int × Int) : List (Int × Int) := if l.head? = some x then l.tail else l
theorem past_up {l : List (Int × Int)} (h : Up l) (x : Int × Int) : Up (past l x) := by
  unfold past
  split
  · cases l with
    | nil => exact h
    | cons a l => exact (up_cons.1 h).2
  · exact h
theorem past_mem {l : List (Int × Int)} {x : Int × Int} (y : Int × Int) : y ∈ past l x → y ∈ l := by
  unfold past
  split
  · exact List.mem_of_mem_tail
  · exact id
theorem past_more {l : List (Int × Int)} {x : Int × Int} (y : Int × Int) : y ∈ l → y = x ∨ y ∈ past l x := by
  unfold past
  split
  · rename_i h
    cases l with
    | nil => simp
    | cons a l => simp at h; subst h; simp
  · exact .inr
theorem past_gt {l : List (Int × Int)} {x : Int × Int} (h : Up l) (hx : ∀ y ∈ l, lt y x = false) : ∀ y ∈ past l x, lt x y = true := by
  intro y hy
  cases e : lt x y with
  | true => rfl
  | false =>
    have hym := past_mem y hy
    have : x = y := lt_tri e (hx y hym)
    subst this
    unfold past at hy
    cases l with
    | nil => simp at hym
    | cons a l =>
      rcases List.mem_cons.1 hym with rfl | hl
      · simp at hy
        have := (up_cons.1 h).1 x hy
        rw [lt_irrefl] at this
        cases this
      · have h1 := (up_cons.1 h).1 x hl
        have h2 := hx a (by simp)
        rw [h1] at h2
        cases h2
theorem past_len {l : List (Int × Int)} {x : Int × Int} : (past l x).length ≤ l.length := by unfold past; split <;> simp
theorem past_lt {a : Int × Int} {l : List (Int × Int)} : (past (a :: l) a).length = l.length := by simp [past]
theorem Joins.step {a b out a' b' : List (Int × Int)} {p q x : Int × Int} (h : Joins a b out (p :: a') (q :: b')) (hx : x = if lt q p = true then q else p) :
    Joins a b (out ++ [x]) (past (p :: a') x) (past (q :: b') x) := by
  have hp : ∀ y ∈ p :: a', lt y x = false := by
    intro y hy
    have : lt y p = false := by
      rcases List.mem_cons.1 hy with rfl | hy
      · exact lt_irrefl _
      · exact lt_asymm ((up_cons.1 h.fst).1 y hy)
    subst hx
    split
    · rename_i e
      rw [lt_iff] at e; rw [lt_false] at *; omega
    · exact this
  have hq : ∀ y ∈ q :: b', lt y x = false := by
    intro y hy
    have : lt y q = false := by
      rcases List.mem_cons.1 hy with rfl | hy
      · exact lt_irrefl _
      · exact lt_asymm ((up_cons.1 h.snd).1 y hy)
    subst hx
    split
    · exact this
    · rename_i e
      have e' : lt q p = false := by simpa using e
      rw [lt_false] at *; omega
  have hxm : x ∈ p :: a' ∨ x ∈ q :: b' := by subst hx; split <;> simp
  refine ⟨?_, past_up h.fst _, past_up h.snd _, ?_, ?_, ?_⟩
  · refine up_append.2 ⟨h.oUp, by simp [Up], fun y hy z hz => ?_⟩
    rw [List.mem_singleton.1 hz]
    exact h.ahead y hy x hxm
  · intro y hy z hz
    rcases List.mem_append.1 hy with hy | hy
    · exact h.ahead y hy z (hz.imp (past_mem z) (past_mem z))
    · rw [List.mem_singleton.1 hy]
      rcases hz with hz | hz
      · exact past_gt h.fst hp z hz
      · exact past_gt h.snd hq z hz
  · intro y
    rw [← h.mem y, List.mem_append, List.mem_singleton]
    constructor
    · rintro ((hy | rfl) | hy | hy)
      · exact .inl hy
      · exact .inr hxm
      · exact .inr (.inl (past_mem y hy))
      · exact .inr (.inr (past_mem y hy))
    · rintro (hy | hy | hy)
      · exact .inl (.inl hy)
      · rcases past_more (x := x) y hy with e | e
        · exact .inl (.inr e)
        · exact .inr (.inl e)
      · rcases past_more (x := x) y hy with e | e
        · exact .inl (.inr e)
        · exact .inr (.inr e)
  · have h1 := h.len
    have h2 := past_len (l := p :: a') (x := x)
    have h3 := past_len (l := q :: b') (x := x)
    have h4 : (past (p :: a') x).length + (past (q :: b') x).length < (p :: a').length + (q :: b').length := by
      subst hx
      split
      · have := past_lt (a := q) (l := b')
        simp only [List.length_cons] at *
        rw [if_pos (by assumption)] at h2
        omega
      · have := past_lt (a := p) (l := a')
        simp only [List.length_cons] at *
        rw [if_neg (by assumption)] at h3
        omega
    simp only [List.length_append, List.length_cons, List.length_nil] at *
    omega
theorem Joins.stop {a b out a' b' : List (Int × Int)} (h : Joins a b out a' b') (he : a' = [] ∨ b' = []) : Up (out ++ a' ++ b') ∧ (∀ x, x ∈ out ++ a' ++ b' ↔ x ∈ a ∨ x ∈ b) := by
  refine ⟨?_, fun x => by rw [← h.mem x]; simp⟩
  refine up_append.2 ⟨up_append.2 ⟨h.oUp, h.fst, fun x hx y hy => h.ahead x hx y (.inl hy)⟩, h.snd, fun x hx y hy => ?_⟩
  rcases he with rfl | rfl
  · simp at hx
    exact h.ahead x hx y (.inr hy)
  · simp at hy
/-- The set of both. -/
def joinl (a b : List (Int × Int)) : List (Int × Int) := setl (a ++ b)
theorem up_joinl (a b : List (Int × Int)) : Up (joinl a b) := up_setl _
theorem mem_joinl (a b : List (Int × Int)) (x : Int × Int) : x ∈ joinl a b ↔ x ∈ a ∨ x ∈ b := by rw [joinl, mem_setl, List.mem_append]
theorem length_joinl (a b : List (Int × Int)) : (joinl a b).length ≤ a.length + b.length := by have := length_setl (a ++ b); rwa [List.length_append] at this

/-- An id more, at its place. -/
def ins (x : Int × Int) : List (Int × Int) → List (Int × Int)
  | [] => [x]
  | y :: l => if lt x y = true then x :: y :: l else y :: ins x l
theorem mem_ins (x z : Int × Int) : ∀ l, z ∈ ins x l ↔ z = x ∨ z ∈ l
  | [] => by simp [ins]
  | y :: l => by
    rw [ins]
    split
    · simp
    · rw [List.mem_cons, mem_ins x z l, List.mem_cons]
      exact ⟨fun h => by rcases h with h | h | h <;> simp [h], fun h => by rcases h with h | h | h <;> simp [h]⟩
theorem up_ins (x : Int × Int) : ∀ l, Up l → x ∉ l → Up (ins x l)
  | [], _, _ => by simp [ins, Up]
  | y :: l, h, hx => by
    rw [ins]
    split
    · rename_i e
      refine up_cons.2 ⟨fun z hz => ?_, h⟩
      rcases List.mem_cons.1 hz with rfl | hz
      · exact e
      · exact lt_trans e ((up_cons.1 h).1 z hz)
    · rename_i e
      refine up_cons.2 ⟨fun z hz => ?_, up_ins x l (up_cons.1 h).2 fun h => hx (List.mem_cons_of_mem _ h)⟩
      rcases (mem_ins x z l).1 hz with rfl | hz
      · cases e' : lt y z with
        | true => rfl
        | false => exact absurd (lt_tri (by simpa using e) e') fun e => hx (by simp [e])
      · exact (up_cons.1 h).1 z hz
theorem length_ins (x : Int × Int) : ∀ l, (ins x l).length = l.length + 1
  | [] => rfl
  | y :: l => by
    rw [ins]
    split
    · simp
    · simp [length_ins x l]
theorem ins_snoc (x y : Int × Int) : ∀ l, ins x (l ++ [y]) = if l.any (lt x) = true then ins x l ++ [y] else if lt x y = true then l ++ [x, y] else l ++ [y, x]
  | [] => by cases h : lt x y <;> simp [ins, h]
  | z :: l => by
    have ih := ins_snoc x y l
    have e1 : ins x (z :: l ++ [y]) = if lt x z = true then x :: z :: (l ++ [y]) else z :: ins x (l ++ [y]) := rfl
    have e2 : ins x (z :: l) = if lt x z = true then x :: z :: l else z :: ins x l := rfl
    rw [e1, e2, List.any_cons, ih]
    cases h : lt x z <;> cases h2 : l.any (lt x) <;> cases h3 : lt x y <;> rfl
theorem ins_end (x : Int × Int) : ∀ l, l.any (lt x) = false → ins x l = l ++ [x]
  | [], _ => rfl
  | y :: l, h => by
    rw [List.any_cons, Bool.or_eq_false_iff] at h
    rw [ins, if_neg (by simp [h.1]), ins_end x l h.2]
    rfl

/-- An id that is right; a right set. -/
def right (x : Int × Int) : Bool := decide (0 ≤ x.1 ∧ x.1 ≤ 6 ∧ 0 ≤ x.2 ∧ x.2 ≤ 1099511627776)
def Goods (l : List (Int × Int)) : Prop := (∀ x ∈ l, right x = true) ∧ Up l
instance (l : List (Int × Int)) : Decidable (Up l) := by unfold Up; exact inferInstance
instance (l : List (Int × Int)) : Decidable (Goods l) := by unfold Goods; exact inferInstance
def chk (l : List (Int × Int)) : Bool := decide (l.length ≤ 4096 ∧ Goods l)
theorem goods_nil : Goods [] := ⟨by simp, up_nil⟩
theorem goods_snoc (l : List (Int × Int)) (x : Int × Int) : Goods (l ++ [x]) ↔ Goods l ∧ right x = true ∧ ∀ y, l.getLast? = some y → lt y x = true := by
  unfold Goods
  rw [up_append]
  constructor
  · rintro ⟨h1, h2, _, h4⟩
    exact ⟨⟨fun y hy => h1 y (by simp [hy]), h2⟩, h1 x (by simp), fun y hy => h4 y (List.mem_of_getLast? hy) x (by simp)⟩
  · rintro ⟨⟨h1, h2⟩, h3, h4⟩
    refine ⟨fun y hy => ?_, h2, by simp [Up], fun y hy z hz => ?_⟩
    · rcases List.mem_append.1 hy with hy | hy
      · exact h1 y hy
      · rw [List.mem_singleton.1 hy]; exact h3
    · rw [List.mem_singleton.1 hz]
      rcases List.eq_nil_or_concat l with rfl | ⟨l', u, rfl⟩
      · simp at hy
      · rw [List.concat_eq_append] at *
        have h5 := h4 u (by simp)
        rcases List.mem_append.1 hy with hy | hy
        · exact lt_trans ((up_append.1 h2).2.2 y hy u (by simp)) h5
        · rw [List.mem_singleton.1 hy]; exact h5
theorem goods_pre {l : List (Int × Int)} (k : Nat) (h : Goods l) : Goods (l.take k) :=
  ⟨fun x hx => h.1 x (List.mem_of_mem_take hx), List.Pairwise.sublist (List.take_sublist k l) h.2⟩

/-- How many are ahead of i, in a list that rises: there i is, if it is in it. -/
theorem count_at {l : List (Int × Int)} (h : Up l) (i : Int × Int) : ∀ k, l.countP (fun x => lt x i) = k → (i ∈ l ↔ l[k]? = some i) := by
  induction l with
  | nil => simp
  | cons a l ih =>
    intro k hk
    have hu := up_cons.1 h
    rw [List.countP_cons] at hk
    by_cases ha : lt a i = true
    · rw [if_pos ha] at hk
      subst hk
      rw [List.getElem?_cons_succ, ← ih hu.2 _ rfl, List.mem_cons]
      exact ⟨fun h => h.elim (fun e => absurd e.symm (lt_ne ha)) id, .inr⟩
    · rw [if_neg ha] at hk
      have h0 : l.countP (fun x => lt x i) = 0 := by
        rw [List.countP_eq_zero]
        intro x hx
        have := hu.1 x hx
        cases e : lt x i with
        | false => simp
        | true => exact absurd (lt_trans this e) ha
      rw [h0] at hk
      subst hk
      show i ∈ a :: l ↔ some a = some i
      rw [List.mem_cons]
      constructor
      · rintro (rfl | hm)
        · rfl
        · exact absurd (hu.1 i hm) ha
      · intro h
        cases h
        exact .inl rfl
theorem count_mono {l : List (Int × Int)} (h : Up l) (i : Int × Int) (a b : Nat) (hab : a ≤ b) (x y : Int × Int) (hx : l[a]? = some x) (hy : l[b]? = some y) (hp : lt x i = false) : lt y i = false := by
  rcases Nat.lt_or_eq_of_le hab with hlt | rfl
  · have hl : lt x y = true := by
      obtain ⟨ha', rfl⟩ := List.getElem?_eq_some_iff.1 hx
      obtain ⟨hb', rfl⟩ := List.getElem?_eq_some_iff.1 hy
      exact List.pairwise_iff_getElem.1 h a b ha' hb' hlt
    rw [lt_iff] at hl; rw [lt_false] at *; omega
  · rw [hx] at hy
    cases hy
    exact hp
end Go.Proofs.Ytccbkpdkmdnmfaa.Ids
