/-
  Texts of earlier layers, as one.
-/
import Derived.WalkKit
import Derived.Test.YtlcggldcofncgaaRBase
/- Ids and sets of them as plain lists, of no program: their order, rising lists, the set of a list, joining, what is right. -/
namespace Go.Proofs.Ytlcggldcofncgaa.Ids

/-- An id: R and N. 'a is ahead of b': by N, then by R. -/
def lt (a b : Int × Int) : Bool := decide (a.2 < b.2) || (decide (a.2 = b.2) && decide (a.1 < b.1))
theorem lt_iff {a b : Int × Int} : lt a b = true ↔ a.2 < b.2 ∨ a.2 = b.2 ∧ a.1 < b.1 := by simp [lt]
theorem lt_false {a b : Int × Int} : lt a b = false ↔ ¬ (a.2 < b.2 ∨ a.2 = b.2 ∧ a.1 < b.1) := by rw [← lt_iff]; simp
theorem lt_irrefl (a : Int × Int) : lt a a = false := by rw [lt_false]; omega
theorem lt_trans {a b c : Int × Int} (h : lt a b = true) (k : lt b c = true) : lt a c = true := by rw [lt_iff] at *; omega
theorem lt_asymm {a b : Int × Int} (h : lt a b = true) : lt b a = false := by rw [lt_iff] at h; rw [lt_false]; omega
theorem lt_tri {a b : Int × Int} (h : lt a b = false) (k : lt b a = false) : a = b := by
  rw [lt_false] at h k
  exact Prod.ext (by omega) (by omega)
theorem lt_ne {a b : Int × Int} (h : lt a b = true) : a ≠ b := fun e => by subst e; rw [lt_irrefl] at h; cases h
theorem lt_le {a b c : Int × Int} (h : lt a b = true) (k : lt c b = false) : lt a c = true := by
  rw [lt_iff] at *; rw [lt_false] at k; omega

/-- The list rises. -/
def Up (l : List (Int × Int)) : Prop := l.Pairwise fun a b => lt a b = true
theorem up_nil : Up [] := List.Pairwise.nil
theorem up_cons {a : Int × Int} {l : List (Int × Int)} : Up (a :: l) ↔ (∀ x ∈ l, lt a x = true) ∧ Up l := List.pairwise_cons
theorem up_append {a b : List (Int × Int)} : Up (a ++ b) ↔ Up a ∧ Up b ∧ ∀ x ∈ a, ∀ y ∈ b, lt x y = true := List.pairwise_append
theorem Up.filter {l : List (Int × Int)} (h : Up l) (p : Int × Int → Bool) : Up (l.filter p) := List.Pairwise.filter p h
theorem up_unique : ∀ (r s : List (Int × Int)), Up r → Up s → (∀ x, x ∈ r ↔ x ∈ s) → r = s
  | [], [], _, _, _ => rfl
  | [], b :: s, _, _, h => absurd ((h b).2 (by simp)) (by simp)
  | a :: r, [], _, _, h => absurd ((h a).1 (by simp)) (by simp)
  | a :: r, b :: s, hr, hs, h => by
    rw [up_cons] at hr hs
    have hab : a = b := by
      rcases List.mem_cons.1 ((h a).1 (by simp)) with e | e
      · exact e
      · rcases List.mem_cons.1 ((h b).2 (by simp)) with e' | e'
        · exact e'.symm
        · have h1 := hs.1 a e
          have h2 := lt_asymm (hr.1 b e')
          rw [h1] at h2
          cases h2
    subst hab
    rw [up_unique r s hr.2 hs.2 fun x => ?_]
    have hx := h x
    constructor
    · intro hm
      rcases List.mem_cons.1 (hx.1 (List.mem_cons_of_mem _ hm)) with e | e
      · exact absurd e.symm (lt_ne (hr.1 x hm))
      · exact e
    · intro hm
      rcases List.mem_cons.1 (hx.2 (List.mem_cons_of_mem _ hm)) with e | e
      · exact absurd e.symm (lt_ne (hs.1 x hm))
      · exact e

/-- Neighbours that are the same are one. -/
def dd : List (Int × Int) → List (Int × Int)
  | [] => []
  | [x] => [x]
  | x :: y :: l => if x = y then dd (y :: l) else x :: dd (y :: l)
theorem mem_dd (x : Int × Int) : ∀ l, x ∈ dd l ↔ x ∈ l
  | [] => by simp [dd]
  | [y] => by simp [dd]
  | y :: z :: l => by
    have ih := mem_dd x (z :: l)
    rw [dd]
    split
    · rename_i e
      subst e
      rw [ih]
      simp
    · rw [List.mem_cons, ih, List.mem_cons (a := x) (b := y)]
theorem length_dd : ∀ l : List (Int × Int), (dd l).length ≤ l.length
  | [] => by simp [dd]
  | [y] => by simp [dd]
  | y :: z :: l => by
    have ih := length_dd (z :: l)
    rw [dd]
    split
    · simp at *; omega
    · simp at *; omega
theorem dd_snoc : ∀ (l : List (Int × Int)) (a b : Int × Int), dd (l ++ [a, b]) = dd (l ++ [a]) ++ if a = b then [] else [b]
  | [], a, b => by
    by_cases h : a = b <;> simp [dd, h]
  | [x], a, b => by
    have ih := dd_snoc [] a b
    simp only [List.nil_append] at ih
    have e1 : dd ([x] ++ [a, b]) = if x = a then dd [a, b] else x :: dd [a, b] := rfl
    have e2 : dd ([x] ++ [a]) = if x = a then dd [a] else x :: dd [a] := rfl
    rw [e1, e2, ih]
    split <;> simp
  | x :: y :: l, a, b => by
    have ih := dd_snoc (y :: l) a b
    have e1 : dd (x :: y :: l ++ [a, b]) = if x = y then dd (y :: l ++ [a, b]) else x :: dd (y :: l ++ [a, b]) := rfl
    have e2 : dd (x :: y :: l ++ [a]) = if x = y then dd (y :: l ++ [a]) else x :: dd (y :: l ++ [a]) := rfl
    rw [e1, e2, ih]
    split <;> simp
theorem up_dd : ∀ l : List (Int × Int), (l.Pairwise fun a b => lt b a = false) → Up (dd l)
  | [], _ => up_nil
  | [y], _ => by simp [dd, Up]
  | y :: z :: l, h => by
    rw [List.pairwise_cons] at h
    have ih := up_dd (z :: l) h.2
    rw [dd]
    split
    · exact ih
    · rename_i hne
      refine up_cons.2 ⟨fun x hx => ?_, ih⟩
      rw [mem_dd] at hx
      have hz : lt y z = true := by
        cases e : lt y z with
        | true => rfl
        | false => exact absurd (lt_tri e (h.1 z (by simp))) hne
      rcases List.mem_cons.1 hx with rfl | hx
      · exact hz
      · exact lt_le hz ((List.pairwise_cons.1 h.2).1 x hx)

/-- The set of a list. -/
def setl (l : List (Int × Int)) : List (Int × Int) := dd (l.mergeSort fun x y => !lt y x)
theorem sorted_ms (l : List (Int × Int)) : (l.mergeSort fun x y => !lt y x).Pairwise fun a b => lt b a = false := by
  have h := List.pairwise_mergeSort (le := fun x y : Int × Int => !lt y x) (fun a b c h1 h2 => by
    simp only [Bool.not_eq_true'] at *
    rw [lt_false] at *
    omega) (fun a b => by
    cases e : lt b a with
    | false => rfl
    | true => simp [lt_asymm e]) l
  exact h.imp fun h => by simpa using h
theorem up_setl (l : List (Int × Int)) : Up (setl l) := up_dd _ (sorted_ms l)
theorem mem_setl (l : List (Int × Int)) (x : Int × Int) : x ∈ setl l ↔ x ∈ l := by rw [setl, mem_dd]; exact (List.mergeSort_perm l _).mem_iff
theorem length_setl (l : List (Int × Int)) : (setl l).length ≤ l.length := by
  have := length_dd (l.mergeSort fun x y => !lt y x)
  rwa [(List.mergeSort_perm l _).length_eq] at this
theorem setl_eq {l r : List (Int × Int)} (hr : Up r) (h : ∀ x, x ∈ r ↔ x ∈ l) : r = setl l := up_unique r _ hr (up_setl l) fun x => (h x).trans (mem_setl l x).symm

/-- Joining, on the way: what is out, and what is left of both. -/
structure Joins (a b out a' b' : List (Int × Int)) : Prop where
  oUp : Up out
  fst : Up a'
  snd : Up b'
  ahead : ∀ x ∈ out, ∀ y, y ∈ a' ∨ y ∈ b' → lt x y = true
  mem : ∀ x, (x ∈ out ∨ x ∈ a' ∨ x ∈ b') ↔ (x ∈ a ∨ x ∈ b)
  len : out.length + a'.length + b'.length ≤ a.length + b.length
theorem Joins.start {a b : List (Int × Int)} (ha : Up a) (hb : Up b) : Joins a b [] a b := ⟨up_nil, ha, hb, by simp, by simp, by simp⟩
/-- l behind x, if it begins with x, else l. -/
def past (l : List (Int × Int)) (x : Int × Int) : List (Int × Int) := if l.head? = some x then l.tail else l
theorem past_up {l : List (Int × Int)} (h : Up l) (x : Int × Int) : Up (past l x) := by
  unfold past
  split
  · cases l with
    | nil => exact h
    | cons a l => exact (up_cons.1 h).2
  · exact h
theorem past_mem {l : List (Int × Int)} {x : Int × Int} (y : Int × Int) : y ∈ past l x → y ∈ l := by
  unfold past
  split
  · exact List.mem_of_mem_tail
  · exact id
theorem past_more {l : List (Int × Int)} {x : Int × Int} (y : Int × Int) : y ∈ l → y = x ∨ y ∈ past l x := by
  unfold past
  split
  · rename_i h
    cases l with
    | nil => simp
    | cons a l => simp at h; subst h; simp
  · exact .inr
theorem past_gt {l : List (Int × Int)} {x : Int × Int} (h : Up l) (hx : ∀ y ∈ l, lt y x = false) : ∀ y ∈ past l x, lt x y = true := by
  intro y hy
  cases e : lt x y with
  | true => rfl
  | false =>
    have hym := past_mem y hy
    have : x = y := lt_tri e (hx y hym)
    subst this
    unfold past at hy
    cases l with
    | nil => simp at hym
    | cons a l =>
      rcases List.mem_cons.1 hym with rfl | hl
      · simp at hy
        have := (up_cons.1 h).1 x hy
        rw [lt_irrefl] at this
        cases this
      · have h1 := (up_cons.1 h).1 x hl
        have h2 := hx a (by simp)
        rw [h1] at h2
        cases h2
theorem past_len {l : List (Int × Int)} {x : Int × Int} : (past l x).length ≤ l.length := by unfold past; split <;> simp
theorem past_lt {a : Int × Int} {l : List (Int × Int)} : (past (a :: l) a).length = l.length := by simp [past]
theorem Joins.step {a b out a' b' : List (Int × Int)} {p q x : Int × Int} (h : Joins a b out (p :: a') (q :: b')) (hx : x = if lt q p = true then q else p) :
    Joins a b (out ++ [x]) (past (p :: a') x) (past (q :: b') x) := by
  have hp : ∀ y ∈ p :: a', lt y x = false := by
    intro y hy
    have : lt y p = false := by
      rcases List.mem_cons.1 hy with rfl | hy
      · exact lt_irrefl _
      · exact lt_asymm ((up_cons.1 h.fst).1 y hy)
    subst hx
    split
    · rename_i e
      rw [lt_iff] at e; rw [lt_false] at *; omega
    · exact this
  have hq : ∀ y ∈ q :: b', lt y x = false := by
    intro y hy
    have : lt y q = false := by
      rcases List.mem_cons.1 hy with rfl | hy
      · exact lt_irrefl _
      · exact lt_asymm ((up_cons.1 h.snd).1 y hy)
    subst hx
    split
    · exact this
    · rename_i e
      have e' : lt q p = false := by simpa using e
      rw [lt_false] at *; omega
  have hxm : x ∈ p :: a' ∨ x ∈ q :: b' := by subst hx; split <;> simp
  refine ⟨?_, past_up h.fst _, past_up h.snd _, ?_, ?_, ?_⟩
  · refine up_append.2 ⟨h.oUp, by simp [Up], fun y hy z hz => ?_⟩
    rw [List.mem_singleton.1 hz]
    exact h.ahead y hy x hxm
  · intro y hy z hz
    rcases List.mem_append.1 hy with hy | hy
    · exact h.ahead y hy z (hz.imp (past_mem z) (past_mem z))
    · rw [List.mem_singleton.1 hy]
      rcases hz with hz | hz
      · exact past_gt h.fst hp z hz
      · exact past_gt h.snd hq z hz
  · intro y
    rw [← h.mem y, List.mem_append, List.mem_singleton]
    constructor
    · rintro ((hy | rfl) | hy | hy)
      · exact .inl hy
      · exact .inr hxm
      · exact .inr (.inl (past_mem y hy))
      · exact .inr (.inr (past_mem y hy))
    · rintro (hy | hy | hy)
      · exact .inl (.inl hy)
      · rcases past_more (x := x) y hy with e | e
        · exact .inl (.inr e)
        · exact .inr (.inl e)
      · rcases past_more (x := x) y hy with e | e
        · exact .inl (.inr e)
        · exact .inr (.inr e)
  · have h1 := h.len
    have h2 := past_len (l := p :: a') (x := x)
    have h3 := past_len (l := q :: b') (x := x)
    have h4 : (past (p :: a') x).length + (past (q :: b') x).length < (p :: a').length + (q :: b').length := by
      subst hx
      split
      · have := past_lt (a := q) (l := b')
        simp only [List.length_cons] at *
        rw [if_pos (by assumption)] at h2
        omega
      · have := past_lt (a := p) (l := a')
        simp only [List.length_cons] at *
        rw [if_neg (by assumption)] at h3
        omega
    simp only [List.length_append, List.length_cons, List.length_nil] at *
    omega
theorem Joins.stop {a b out a' b' : List (Int × Int)} (h : Joins a b out a' b') (he : a' = [] ∨ b' = []) : Up (out ++ a' ++ b') ∧ (∀ x, x ∈ out ++ a' ++ b' ↔ x ∈ a ∨ x ∈ b) := by
  refine ⟨?_, fun x => by rw [← h.mem x]; simp⟩
  refine up_append.2 ⟨up_append.2 ⟨h.oUp, h.fst, fun x hx y hy => h.ahead x hx y (.inl hy)⟩, h.snd, fun x hx y hy => ?_⟩
  rcases he with rfl | rfl
  · simp at hx
    exact h.ahead x hx y (.inr hy)
  · simp at hy
/-- The set of both. -/
def joinl (a b : List (Int × Int)) : List (Int × Int) := setl (a ++ b)
theorem up_joinl (a b : List (Int × Int)) : Up (joinl a b) := up_setl _
theorem mem_joinl (a b : List (Int × Int)) (x : Int × Int) : x ∈ joinl a b ↔ x ∈ a ∨ x ∈ b := by rw [joinl, mem_setl, List.mem_append]
theorem length_joinl (a b : List (Int × Int)) : (joinl a b).length ≤ a.length + b.length := by have := length_setl (a ++ b); rwa [List.length_append] at this

/-- An id more, at its place. -/
def ins (x : Int × Int) : List (Int × Int) → List (Int × Int)
  | [] => [x]
  | y :: l => if lt x y = true then x :: y :: l else y :: ins x l
theorem mem_ins (x z : Int × Int) : ∀ l, z ∈ ins x l ↔ z = x ∨ z ∈ l
  | [] => by simp [ins]
  | y :: l => by
    rw [ins]
    split
    · simp
    · rw [List.mem_cons, mem_ins x z l, List.mem_cons]
      exact ⟨fun h => by rcases h with h | h | h <;> simp [h], fun h => by rcases h with h | h | h <;> simp [h]⟩
theorem up_ins (x : Int × Int) : ∀ l, Up l → x ∉ l → Up (ins x l)
  | [], _, _ => by simp [ins, Up]
  | y :: l, h, hx => by
    rw [ins]
    split
    · rename_i e
      refine up_cons.2 ⟨fun z hz => ?_, h⟩
      rcases List.mem_cons.1 hz with rfl | hz
      · exact e
      · exact lt_trans e ((up_cons.1 h).1 z hz)
    · rename_i e
      refine up_cons.2 ⟨fun z hz => ?_, up_ins x l (up_cons.1 h).2 fun h => hx (List.mem_cons_of_mem _ h)⟩
      rcases (mem_ins x z l).1 hz with rfl | hz
      · cases e' : lt y z with
        | true => rfl
        | false => exact absurd (lt_tri (by simpa using e) e') fun e => hx (by simp [e])
      · exact (up_cons.1 h).1 z hz
theorem length_ins (x : Int × Int) : ∀ l, (ins x l).length = l.length + 1
  | [] => rfl
  | y :: l => by
    rw [ins]
    split
    · simp
    · simp [length_ins x l]
theorem ins_snoc (x y : Int × Int) : ∀ l, ins x (l ++ [y]) = if l.any (lt x) = true then ins x l ++ [y] else if lt x y = true then l ++ [x, y] else l ++ [y, x]
  | [] => by cases h : lt x y <;> simp [ins, h]
  | z :: l => by
    have ih := ins_snoc x y l
    have e1 : ins x (z :: l ++ [y]) = if lt x z = true then x :: z :: (l ++ [y]) else z :: ins x (l ++ [y]) := rfl
    have e2 : ins x (z :: l) = if lt x z = true then x :: z :: l else z :: ins x l := rfl
    rw [e1, e2, List.any_cons, ih]
    cases h : lt x z <;> cases h2 : l.any (lt x) <;> cases h3 : lt x y <;> rfl
theorem ins_end (x : Int × Int) : ∀ l, l.any (lt x) = false → ins x l = l ++ [x]
  | [], _ => rfl
  | y :: l, h => by
    rw [List.any_cons, Bool.or_eq_false_iff] at h
    rw [ins, if_neg (by simp [h.1]), ins_end x l h.2]
    rfl

/-- An id that is right; a right set. -/
def right (x : Int × Int) : Bool := decide (0 ≤ x.1 ∧ x.1 ≤ 6 ∧ 0 ≤ x.2 ∧ x.2 ≤ 1099511627776)
def Goods (l : List (Int × Int)) : Prop := (∀ x ∈ l, right x = true) ∧ Up l
instance (l : List (Int × Int)) : Decidable (Up l) := by unfold Up; exact inferInstance
instance (l : List (Int × Int)) : Decidable (Goods l) := by unfold Goods; exact inferInstance
def chk (l : List (Int × Int)) : Bool := decide (l.length ≤ 4096 ∧ Goods l)
theorem goods_nil : Goods [] := ⟨by simp, up_nil⟩
theorem goods_snoc (l : List (Int × Int)) (x : Int × Int) : Goods (l ++ [x]) ↔ Goods l ∧ right x = true ∧ ∀ y, l.getLast? = some y → lt y x = true := by
  unfold Goods
  rw [up_append]
  constructor
  · rintro ⟨h1, h2, _, h4⟩
    exact ⟨⟨fun y hy => h1 y (by simp [hy]), h2⟩, h1 x (by simp), fun y hy => h4 y (List.mem_of_getLast? hy) x (by simp)⟩
  · rintro ⟨⟨h1, h2⟩, h3, h4⟩
    refine ⟨fun y hy => ?_, h2, by simp [Up], fun y hy z hz => ?_⟩
    · rcases List.mem_append.1 hy with hy | hy
      · exact h1 y hy
      · rw [List.mem_singleton.1 hy]; exact h3
    · rw [List.mem_singleton.1 hz]
      rcases List.eq_nil_or_concat l with rfl | ⟨l', u, rfl⟩
      · simp at hy
      · rw [List.concat_eq_append] at *
        have h5 := h4 u (by simp)
        rcases List.mem_append.1 hy with hy | hy
        · exact lt_trans ((up_append.1 h2).2.2 y hy u (by simp)) h5
        · rw [List.mem_singleton.1 hy]; exact h5
theorem goods_pre {l : List (Int × Int)} (k : Nat) (h : Goods l) : Goods (l.take k) :=
  ⟨fun x hx => h.1 x (List.mem_of_mem_take hx), List.Pairwise.sublist (List.take_sublist k l) h.2⟩

/-- How many are ahead of i, in a list that rises: there i is, if it is in it. -/
theorem count_at {l : List (Int × Int)} (h : Up l) (i : Int × Int) : ∀ k, l.countP (fun x => lt x i) = k → (i ∈ l ↔ l[k]? = some i) := by
  induction l with
  | nil => simp
  | cons a l ih =>
    intro k hk
    have hu := up_cons.1 h
    rw [List.countP_cons] at hk
    by_cases ha : lt a i = true
    · rw [if_pos ha] at hk
      subst hk
      rw [List.getElem?_cons_succ, ← ih hu.2 _ rfl, List.mem_cons]
      exact ⟨fun h => h.elim (fun e => absurd e.symm (lt_ne ha)) id, .inr⟩
    · rw [if_neg ha] at hk
      have h0 : l.countP (fun x => lt x i) = 0 := by
        rw [List.countP_eq_zero]
        intro x hx
        have := hu.1 x hx
        cases e : lt x i with
        | false => simp
        | true => exact absurd (lt_trans this e) ha
      rw [h0] at hk
      subst hk
      show i ∈ a :: l ↔ some a = some i
      rw [List.mem_cons]
      constructor
      · rintro (rfl | hm)
        · rfl
        · exact absurd (hu.1 i hm) ha
      · intro h
        cases h
        exact .inl rfl
theorem count_mono {l : List (Int × Int)} (h : Up l) (i : Int × Int) (a b : Nat) (hab : a ≤ b) (x y : Int × Int) (hx : l[a]? = some x) (hy : l[b]? = some y) (hp : lt x i = false) : lt y i = false := by
  rcases Nat.lt_or_eq_of_le hab with hlt | rfl
  · have hl : lt x y = true := by
      obtain ⟨ha', rfl⟩ := List.getElem?_eq_some_iff.1 hx
      obtain ⟨hb', rfl⟩ := List.getElem?_eq_some_iff.1 hy
      exact List.pairwise_iff_getElem.1 h a b ha' hb' hlt
    rw [lt_iff] at hl; rw [lt_false] at *; omega
  · rw [hx] at hy
    cases hy
    exact hp
end Go.Proofs.Ytlcggldcofncgaa.Ids
/- Ids in memory, of no program's walk: 'Rs' (a slice holds these ids), what keeps it, appends of ids onto a row of the call's own. -/
namespace Go.Proofs.Ytlcggldcofncgaa.Ids
open Go.RowKit Mem

/-- The two cells of an id; those of a list. -/
def enc (x : Int × Int) : List Value := [.int .i64 x.1, .int .i64 x.2]
def cells (l : List (Int × Int)) : List Value := l.flatMap enc
theorem length_cells (l : List (Int × Int)) : (cells l).length = l.length * 2 := by
  induction l with
  | nil => rfl
  | cons a l ih => simp [cells, enc] at *; omega
theorem cells_append (a b : List (Int × Int)) : cells (a ++ b) = cells a ++ cells b := by simp [cells]
theorem cells_one (l : List (Int × Int)) : ∀ u ∈ cells l, u.oneCell' = true := by
  intro u hu
  obtain ⟨x, _, hx⟩ := List.mem_flatMap.1 hu
  simp [enc] at hx
  rcases hx with rfl | rfl <;> rfl
theorem cells_at : ∀ (l : List (Int × Int)) (k : Nat) (x : Int × Int), l[k]? = some x → (cells l)[k * 2]? = some (.int .i64 x.1) ∧ (cells l)[k * 2 + 1]? = some (.int .i64 x.2)
  | [], k, x, h => by simp at h
  | y :: l, 0, x, h => by
    simp at h
    subst h
    exact ⟨rfl, rfl⟩
  | y :: l, k + 1, x, h => by
    have := cells_at l k x (by simpa using h)
    have e : cells (y :: l) = .int .i64 y.1 :: .int .i64 y.2 :: cells l := rfl
    rw [e, show (k + 1) * 2 = k * 2 + 1 + 1 by omega]
    simpa using this
theorem cells_of : ∀ (l : List (Int × Int)) (j : Nat) (u : Value), (cells l)[j]? = some u → ∃ x, l[j / 2]? = some x ∧ (j % 2 = 0 ∧ u = .int .i64 x.1 ∨ j % 2 = 1 ∧ u = .int .i64 x.2)
  | [], j, u, h => by simp [cells] at h
  | y :: l, 0, u, h => by
    have e : cells (y :: l) = .int .i64 y.1 :: .int .i64 y.2 :: cells l := rfl
    rw [e] at h
    simp at h
    exact ⟨y, rfl, .inl ⟨rfl, h.symm⟩⟩
  | y :: l, 1, u, h => by
    have e : cells (y :: l) = .int .i64 y.1 :: .int .i64 y.2 :: cells l := rfl
    rw [e] at h
    simp at h
    exact ⟨y, rfl, .inr ⟨rfl, h.symm⟩⟩
  | y :: l, j + 2, u, h => by
    have e : cells (y :: l) = .int .i64 y.1 :: .int .i64 y.2 :: cells l := rfl
    rw [e] at h
    obtain ⟨x, hx, h2⟩ := cells_of l j u (by simpa using h)
    refine ⟨x, ?_, ?_⟩
    · rw [show (j + 2) / 2 = j / 2 + 1 by omega]
      simpa using hx
    · rw [show (j + 2) % 2 = j % 2 by omega]
      exact h2

/-- The slice value '.slice A n c' holds the ids l. -/
structure Rs (w : World) (A : Option Addr) (n c : Nat) (l : List (Int × Int)) : Prop where
  len : l.length = n
  le : n ≤ c
  cap : c ≤ maxLen
  nil : A = none → c = 0
  spot : 0 < n → ∃ g o, A = some ⟨g, o, none⟩ ∧ g < w.heap.size ∧ ∀ j x, l[j]? = some x → w.cell? ⟨g, o + j * 2, none⟩ = some (.int .i64 x.1) ∧ w.cell? ⟨g, o + j * 2 + 1, none⟩ = some (.int .i64 x.2)
section
variable {w w' : World} {A : Option Addr} {n c : Nat} {l : List (Int × Int)}
theorem Rs.nil_ (w : World) : Rs w none 0 0 [] := ⟨rfl, Nat.le_refl _, by simp [maxLen], fun _ => rfl, fun h => absurd h (by omega)⟩
theorem Rs.keep (h : Rs w A n c l) (hs : w.heap.size ≤ w'.heap.size) (hk : ∀ p : Addr, p.block < w.heap.size → w'.cell? p = w.cell? p) : Rs w' A n c l :=
  ⟨h.len, h.le, h.cap, h.nil, fun hn => by
    obtain ⟨g, o, e, hb, hc⟩ := h.spot hn
    exact ⟨g, o, e, by omega, fun j x hx => ⟨(hk ⟨g, o + j * 2, none⟩ hb).trans (hc j x hx).1, (hk ⟨g, o + j * 2 + 1, none⟩ hb).trans (hc j x hx).2⟩⟩⟩
theorem Rs.below (h : Rs w A n c l) (hb : Below w.heap.size w w') : Rs w' A n c l := h.keep hb.size fun _ hp => hb.cell hp
theorem Rs.alloc (h : Rs w A n c l) (o : Obj) : Rs (w.alloc o) A n c l := h.keep (by simp) fun p hp => World.cell?_alloc_lt w o p hp
theorem Rs.drewN (h : Rs w A n c l) (k : Nat) : Rs (w.drewN k) A n c l := ⟨h.len, h.le, h.cap, h.nil, h.spot⟩
theorem Rs.drew (h : Rs w A n c l) : Rs w.drew A n c l := ⟨h.len, h.le, h.cap, h.nil, h.spot⟩
/-- Behind a world that has kept all blocks but those of S, where the slice doesn't lie. -/
theorem Rs.grown {row : Option Nat} (h : Rs w A n c l) (hg : w.grownBy w' row) (hr : ∀ g o, A = some ⟨g, o, none⟩ → some g ≠ row) : Rs w' A n c l :=
  ⟨h.len, h.le, h.cap, h.nil, fun hn => by
    obtain ⟨g, o, e, hb, hc⟩ := h.spot hn
    have hk : ∀ p : Addr, p.block = g → w'.cell? p = w.cell? p := fun p hp => World.cell?_of_block (hg.block _ (by omega) (by rw [hp]; exact hr g o e))
    exact ⟨g, o, e, Nat.lt_of_lt_of_le hb hg.size, fun j x hx => ⟨(hk ⟨g, o + j * 2, none⟩ rfl).trans (hc j x hx).1, (hk ⟨g, o + j * 2 + 1, none⟩ rfl).trans (hc j x hx).2⟩⟩⟩
theorem Rs.at_ {k : Nat} (h : Rs w A n c l) (hk : k < n) : ∃ g o x, A = some ⟨g, o, none⟩ ∧ g < w.heap.size ∧ l[k]? = some x ∧ w.cell? ⟨g, o + k * 2, none⟩ = some (.int .i64 x.1) ∧ w.cell? ⟨g, o + k * 2 + 1, none⟩ = some (.int .i64 x.2) := by
  obtain ⟨g, o, e, hb, hc⟩ := h.spot (by omega)
  have hl : k < l.length := by have := h.len; omega
  exact ⟨g, o, l[k], e, hb, List.getElem?_eq_getElem hl, hc k _ (List.getElem?_eq_getElem hl)⟩
theorem Rs.none0 (h : Rs w A n c l) : A = none → n = 0 ∧ c = 0 := fun e => by have := h.nil e; have := h.le; omega
theorem Rs.raw (h : Rs w A n c l) : ∀ ad, A = some ad → ∀ j u, (cells l)[j]? = some u → w.cell? (ad.add j) = some u := by
  intro ad e j u hu
  obtain ⟨x, hx, h2⟩ := cells_of l j u hu
  have hj : j / 2 < n := by rw [← h.len]; exact (List.getElem?_eq_some_iff.1 hx).1
  obtain ⟨g, o, e', _, hc⟩ := h.spot (by omega)
  cases e.symm.trans e'
  rw [Addr.add_lit]
  rcases h2 with ⟨h2, rfl⟩ | ⟨h2, rfl⟩
  · have := (hc _ x hx).1
    rwa [show o + j / 2 * 2 = o + j by omega] at this
  · have := (hc _ x hx).2
    rwa [show o + j / 2 * 2 + 1 = o + j by omega] at this
/-- s[:k] -/
theorem Rs.take (h : Rs w A n c l) {k : Nat} (hk : k ≤ n) : Rs w A k c (l.take k) :=
  ⟨by rw [List.length_take, h.len]; omega, by have := h.le; omega, h.cap, h.nil, fun hk0 => by
    obtain ⟨g, o, e, hb, hc⟩ := h.spot (by omega)
    refine ⟨g, o, e, hb, fun j x hx => hc j x ?_⟩
    rw [List.getElem?_take] at hx
    split at hx
    · exact hx
    · cases hx⟩
/-- s[1:] -/
def tailA (A : Option Addr) (c : Nat) : Option Addr := if c = 1 then A else A.map (·.add 2)
theorem Rs.tail (h : Rs w A n c l) (hn : 1 ≤ n) : Rs w (tailA A c) (n - 1) (c - 1) l.tail := by
  have h1 := h.le
  have h2 := h.cap
  refine ⟨by rw [List.length_tail, h.len], by omega, by omega, fun e => ?_, fun h0 => ?_⟩
  · unfold tailA at e
    split at e
    · have := h.nil e; omega
    · have := h.nil (by simpa using e); omega
  · obtain ⟨g, o, rfl, hb, hc⟩ := h.spot (by omega)
    unfold tailA
    rw [if_neg (by omega)]
    refine ⟨g, o + 2, by rw [Option.map_some, Addr.add_lit], hb, fun j x hx => ?_⟩
    have := hc (j + 1) x (by rw [← hx, List.getElem?_tail])
    rwa [show o + (j + 1) * 2 = o + 2 + j * 2 by omega] at this
/-- What the call owns, it can read. -/
theorem Rs.of_own {base : Nat} {e : TypeId} {v : Value} (h : w.ownsRow base e 2 v n (cells l)) : ∃ A c, v = .slice A n c ∧ Rs w A n c l := by
  have hl := h.1
  rw [length_cells] at hl
  rcases h.2 with ⟨rfl, rfl⟩ | ⟨g, cap, cur, rfl, hb, hg, hnc, hm, hs, ht⟩
  · exact ⟨none, 0, rfl, by omega, Nat.le_refl _, by simp [maxLen], fun _ => rfl, fun h => absurd h (by omega)⟩
  · refine ⟨some ⟨g, 0, none⟩, cap, rfl, by omega, hnc, hm, (fun e => by cases e), fun _ => ⟨g, 0, rfl, (Array.getElem?_eq_some_iff.1 hg).1, fun j x hx => ?_⟩⟩
    obtain ⟨h1, h2⟩ := cells_at l j x hx
    have k1 := h.cells (g := g) rfl _ _ h1
    have k2 := h.cells (g := g) rfl _ _ h2
    rw [Addr.add_lit] at k1 k2
    exact ⟨k1, k2⟩
theorem Rs.own {base : Nat} {e : TypeId} {V : Option Addr} (h : w.ownsRow base e 2 (.slice V n c) n (cells l)) : Rs w V n c l := by
  obtain ⟨A, c', e, hr⟩ := Rs.of_own h
  cases e
  exact hr
end
theorem own_form {w : World} {base : Nat} {e : TypeId} {size : Nat} {v : Value} {n : Nat} {xs : List Value} (h : w.ownsRow base e size v n xs) : ∃ V c, v = .slice V n c := by
  rcases h.2 with ⟨rfl, rfl⟩ | ⟨g, cap, cur, rfl, _⟩
  · exact ⟨none, 0, rfl⟩
  · exact ⟨_, _, rfl⟩
/-- A slice literal of ids, just made. -/
theorem Rs.lit (w : World) (l : List (Int × Int)) (vs : Array Value) (t : TypeId) (n : Nat) (hv : vs.toList = cells l) (hn : l.length = n) (hm : n ≤ maxLen) : Rs (w.alloc (.cells vs t)) (some ⟨w.heap.size, 0, none⟩) n n l := by
  refine ⟨hn, Nat.le_refl _, hm, (fun e => by cases e), fun _ => ⟨_, _, rfl, by simp, fun j x hx => ?_⟩⟩
  obtain ⟨h1, h2⟩ := cells_at l j x hx
  rw [cell_of_row _ _ _ _ _ _ (heap_alloc_new w _), cell_of_row _ _ _ _ _ _ (heap_alloc_new w _)]
  rw [← hv] at h1 h2
  rw [Nat.zero_add]
  exact ⟨by simpa using h1, by simpa using h2⟩

/-- 'append(v, x...)', v the call's own, x whatever slice of ids: a slice that the call owns; what lies below 'base' stays. -/
theorem wpList_append_rs {P : Program} {w : World} {ops : Array Oper} {rest : List Oper} {o : Oper} {a : Act} {Q : Exit → Act → World → Prop} (hgd : o.guard = none) (s x : Operand) (t : TypeId)
    (ho : o.op = .call { callee := .builtin .append, args := #[s, x], argTypes := #[t, t] })
    (base : Nat) (e : TypeId) (i : TypeInfo) (z : Value) (ht : P.underlying t = some (.slice e)) (hi : P.info? e = some i) (hz : i.zero = some z)
    (hsize : i.size = 2) (hby : i.bytes = 16) (hzs : z.cells.size = 2)
    (V : Option Addr) (n cv : Nat) (xs : List (Int × Int)) (hs : a.eval s = .slice V n cv) (hown : w.ownsRow base e 2 (.slice V n cv) n (cells xs))
    (A : Option Addr) (m c : Nat) (news : List (Int × Int)) (hx : a.eval x = .slice A m c) (hr : Rs w A m c news)
    (hsm : n + m ≤ 8796093022208) (hbase : base ≤ w.heap.size)
    (h : ∀ V' c' w', w'.ownsRow base e 2 (.slice V' (n + m) c') (n + m) (cells (xs ++ news)) → w.grownBy w' (Value.slice V n cv).ownBlock → Below base w w' → wpList P ops Q rest (a.put o.dst (.slice V' (n + m) c')) w') : wpList P ops Q (o :: rest) a w := by
  rcases A with _ | ad
  · have hc : c = 0 := hr.nil rfl
    have hm : m = 0 := by have := hr.le; omega
    subst hc; subst hm
    have hn : news = [] := List.eq_nil_of_length_eq_zero hr.len
    subst hn
    refine wpList_append_own_none hgd s x t ho base e i 2 ht hi _ n (cells xs) hs hown hx ?_
    exact h V cv w (by simpa using hown) (World.grownBy.refl _ _) (Below.refl _ _)
  · refine wpList_append_own w hgd s x t ho base e i z 2 16 ht hi hz hsize hby hzs (by omega) _ n (cells xs) hs hown ad m c (cells news) hx (by rw [length_cells, hr.len]) (hr.raw _ rfl) (cells_one _) (by unfold maxLen; omega) (by omega) hbase
      fun v' w' hown' hg _ => ?_
    rw [← cells_append] at hown'
    obtain ⟨V', c', rfl, _⟩ := Rs.of_own hown'
    exact h V' c' w' hown' hg ((Below.refl _ _).grown hg hbase fun k hk => (hown.lt k hk).1)
end Go.Proofs.Ytlcggldcofncgaa.Ids
