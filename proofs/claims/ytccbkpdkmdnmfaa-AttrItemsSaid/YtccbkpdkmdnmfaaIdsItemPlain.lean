/-
  Sets of ids as items, of no program: the item of a list, the ids that an item's numbers say, when an item is a right set's.
-/
import Derived.Test.YtccbkpdkmdnmfaaIdsPlain
import Derived.Test.YtccbkpdkmdnmfaaCodPlain
namespace Go.Proofs.Ytccbkpdkmdnmfaa.Ids
open Cod

def numIt (v : Int) : It := .mk 0 v.toNat ByteArray.empty []
def its (l : List (Int × Int)) : List It := l.flatMap fun x => [numIt x.1, numIt x.2]
def setIt (l : List (Int × Int)) : It := .mk 2 0 ByteArray.empty (its l)
def zeroIt : It := .mk 0 0 ByteArray.empty []
def itemOf (l : List (Int × Int)) : It := if Ids.chk l = true then setIt l else zeroIt
theorem its_append (a b : List (Int × Int)) : its (a ++ b) = its a ++ its b := by simp [its]
theorem length_its (l : List (Int × Int)) : (its l).length = l.length * 2 := by
  induction l with
  | nil => rfl
  | cons a l ih => simp [its] at *; omega
theorem wts_its (l : List (Int × Int)) : wts (its l) = l.length * 2 := by
  induction l with
  | nil => rfl
  | cons a l ih =>
    have : its (a :: l) = [numIt a.1] ++ [numIt a.2] ++ its l := rfl
    rw [this, wts_append, wts_append, wts_one, wts_one, ih]
    simp [numIt, wt, wts]
    omega

/-- A number as an int. -/
def w64 (n : Nat) : Int := IntKind.i64.wrap (n : Int)
theorem w64_small {n : Nat} (h : n ≤ 9223372036854775807) : w64 n = n := by
  unfold w64
  simp [IntKind.wrap, IntKind.bits, IntKind.signed]
  omega
/-- The ids that the numbers say, two by two. -/
def pairs : List It → List (Int × Int)
  | a :: b :: l => (w64 a.num, w64 b.num) :: pairs l
  | _ => []
theorem length_pairs : ∀ l : List It, (pairs l).length = l.length / 2
  | [] => rfl
  | [_] => by simp [pairs]
  | a :: b :: l => by
    have := length_pairs l
    simp [pairs]
    omega
theorem pairs_snoc : ∀ (l : List It) (k : Nat) (a b : It), l[2 * k]? = some a → l[2 * k + 1]? = some b → pairs (l.take (2 * (k + 1))) = pairs (l.take (2 * k)) ++ [(w64 a.num, w64 b.num)]
  | [], k, a, b, h, _ => by simp at h
  | [x], k, a, b, h, h2 => by
    have := (List.getElem?_eq_some_iff.1 h2).1
    simp at this
  | x :: y :: l, 0, a, b, h, h2 => by
    simp at h h2
    subst h; subst h2
    rfl
  | x :: y :: l, k + 1, a, b, h, h2 => by
    have ih := pairs_snoc l k a b (by rw [show 2 * (k + 1) = 2 * k + 1 + 1 by omega] at h; simpa using h) (by rw [show 2 * (k + 1) + 1 = 2 * k + 1 + 1 + 1 by omega] at h2; simpa using h2)
    rw [show 2 * (k + 1 + 1) = 2 * (k + 1) + 1 + 1 by omega, show 2 * (k + 1) = 2 * k + 1 + 1 by omega] at *
    simp only [List.take_succ_cons, pairs]
    rw [show 2 * k + 2 = 2 * k + 1 + 1 from rfl, ih]
    rfl
theorem pairs_its : ∀ l : List (Int × Int), (∀ x ∈ l, right x = true) → pairs (its l) = l
  | [], _ => rfl
  | x :: l, h => by
    have hx := of_decide_eq_true (h x (by simp))
    have ih := pairs_its l fun y hy => h y (List.mem_cons_of_mem _ hy)
    have e : its (x :: l) = numIt x.1 :: numIt x.2 :: its l := rfl
    rw [e, pairs, ih]
    congr 1
    have e1 : (numIt x.1).num = x.1.toNat := rfl
    have e2 : (numIt x.2).num = x.2.toNat := rfl
    rw [e1, e2, w64_small (by omega), w64_small (by omega)]
    exact Prod.ext (by simp; omega) (by simp; omega)

/-- Two items that are an id's numbers. -/
def okp (a b : It) : Prop := a = .mk 0 a.num ByteArray.empty [] ∧ b = .mk 0 b.num ByteArray.empty [] ∧ a.num ≤ 6 ∧ b.num ≤ 1099511627776
theorem okp_pair {a b : It} (h : okp a b) : numIt (w64 a.num) = a ∧ numIt (w64 b.num) = b ∧ 0 ≤ w64 a.num ∧ w64 a.num ≤ 6 ∧ 0 ≤ w64 b.num ∧ w64 b.num ≤ 1099511627776 := by
  obtain ⟨h1, h2, h3, h4⟩ := h
  rw [w64_small (by omega), w64_small (by omega)]
  refine ⟨?_, ?_, by omega, by omega, by omega, by omega⟩
  · unfold numIt
    rw [Int.toNat_natCast]
    exact h1.symm
  · unfold numIt
    rw [Int.toNat_natCast]
    exact h2.symm
open Classical in
/-- What an item says, if it is a right set's. -/
noncomputable def takeOf (x : It) : Option (List (Int × Int)) := if x.kids.length ≤ 8192 ∧ itemOf (pairs x.kids) = x then some (pairs x.kids) else none
theorem chk_right {l : List (Int × Int)} (h : Ids.chk l = true) : ∀ x ∈ l, right x = true := (of_decide_eq_true h).2.1
theorem take_set {l : List (Int × Int)} (h : Ids.chk l = true) : takeOf (setIt l) = some l := by
  have hp := pairs_its l (chk_right h)
  have hl := (of_decide_eq_true h).1
  unfold takeOf
  have e : (setIt l).kids = its l := rfl
  rw [e, hp, length_its, if_pos ⟨by omega, by rw [itemOf, if_pos h]⟩]
/-- What is read of such an item. -/
theorem take_is {x : It} (h : itemOf (pairs x.kids) = x) : Ids.chk (pairs x.kids) = true ∧ setIt (pairs x.kids) = x := by
  unfold itemOf at h
  split at h
  · exact ⟨by assumption, h⟩
  · rename_i hn
    exfalso
    apply hn
    rw [← h]
    decide
theorem its_at : ∀ (l : List (Int × Int)) (k : Nat) (a b : It), (its l)[2 * k]? = some a → (its l)[2 * k + 1]? = some b → ∃ x, l[k]? = some x ∧ a = numIt x.1 ∧ b = numIt x.2
  | [], k, a, b, h, _ => by simp [its] at h
  | x :: l, 0, a, b, h, h2 => by
    have e : its (x :: l) = numIt x.1 :: numIt x.2 :: its l := rfl
    rw [e] at h h2
    simp at h h2
    exact ⟨x, rfl, h.symm, h2.symm⟩
  | x :: l, k + 1, a, b, h, h2 => by
    have e : its (x :: l) = numIt x.1 :: numIt x.2 :: its l := rfl
    rw [e] at h h2
    rw [show 2 * (k + 1) = 2 * k + 1 + 1 by omega] at h
    rw [show 2 * (k + 1) + 1 = 2 * k + 1 + 1 + 1 by omega] at h2
    obtain ⟨y, h3⟩ := its_at l k a b (by simpa using h) (by simpa using h2)
    exact ⟨y, by simpa using h3.1, h3.2⟩
theorem take_none_pair {x a b : It} {k : Nat} (ha : x.kids[2 * k]? = some a) (hb : x.kids[2 * k + 1]? = some b) (h : ¬ okp a b) : takeOf x = none := by
  unfold takeOf
  rw [if_neg]
  rintro ⟨_, he⟩
  obtain ⟨hc, hs⟩ := take_is he
  have hk : its (pairs x.kids) = x.kids := by
    have := congrArg It.kids hs
    exact this
  obtain ⟨y, hy, rfl, rfl⟩ := its_at (pairs x.kids) k a b (by rw [hk]; exact ha) (by rw [hk]; exact hb)
  have hr := of_decide_eq_true (chk_right hc y (List.mem_of_getElem? hy))
  exact h ⟨rfl, rfl, by show y.1.toNat ≤ 6; omega, by show y.2.toNat ≤ 1099511627776; omega⟩
theorem take_none_head {x : It} (h : ¬ (x.kind = 2 ∧ x.num = 0 ∧ x.str = ByteArray.empty ∧ x.kids.length % 2 = 0 ∧ x.kids.length ≤ 8192)) : takeOf x = none := by
  unfold takeOf
  rw [if_neg]
  rintro ⟨hl, he⟩
  obtain ⟨_, hs⟩ := take_is he
  have hk : its (pairs x.kids) = x.kids := congrArg It.kids hs
  have h1 : (2 : Int) = x.kind := congrArg It.kind hs
  have h2 : 0 = x.num := congrArg It.num hs
  have h3 : ByteArray.empty = x.str := congrArg It.str hs
  have h4 := congrArg List.length hk
  rw [length_its] at h4
  exact h ⟨h1.symm, h2.symm, h3.symm, by omega, hl⟩
/-- All pairs have been looked at. -/
theorem take_end {x : It} (hh : x.kind = 2 ∧ x.num = 0 ∧ x.str = ByteArray.empty ∧ x.kids.length ≤ 8192) (hi : its (pairs x.kids) = x.kids) : takeOf x = if Ids.chk (pairs x.kids) = true then some (pairs x.kids) else none := by
  have hx : setIt (pairs x.kids) = x := by
    unfold setIt
    rw [hi]
    cases x
    simp [It.kind, It.num, It.str, It.kids] at hh ⊢
    simp [hh]
  unfold takeOf itemOf
  by_cases hc : Ids.chk (pairs x.kids) = true
  · rw [if_pos hc, if_pos hc, if_pos ⟨hh.2.2.2, hx⟩]
  · rw [if_neg hc, if_neg hc, if_neg]
    rintro ⟨_, he⟩
    rw [← he] at hh
    exact absurd hh.1 (by decide)
theorem its_snoc {l : List It} {k : Nat} {a b : It} (ha : l[2 * k]? = some a) (hb : l[2 * k + 1]? = some b) (hi : its (pairs (l.take (2 * k))) = l.take (2 * k)) (ho : okp a b) : its (pairs (l.take (2 * (k + 1)))) = l.take (2 * (k + 1)) := by
  obtain ⟨e1, e2, _⟩ := okp_pair ho
  rw [pairs_snoc l k a b ha hb, its_append, hi, show 2 * (k + 1) = 2 * k + 1 + 1 by omega, List.take_add_one, List.take_add_one, ha, hb]
  have : its [(w64 a.num, w64 b.num)] = [numIt (w64 a.num), numIt (w64 b.num)] := rfl
  rw [this, e1, e2]
  simp
end Go.Proofs.Ytccbkpdkmdnmfaa.Ids
