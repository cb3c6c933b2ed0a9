/-
  What instances hang on as items, of no program: the item of one, its old form, and what an item says.
-/
import Derived.Test.YtccbkpdkmdnmfaaAttPlain
import Derived.Test.YtccbkpdkmdnmfaaIdsItemPlain
namespace Go.Proofs.Ytccbkpdkmdnmfaa.Att
open Ids Cod

/-- As an item; in the old form. -/
def attIt (a : At) : It := .mk 2 0 ByteArray.empty [numIt a.tg, numIt a.sq, setIt a.dp]
def oldIt (a : At) : It := .mk 2 0 ByteArray.empty [numIt a.sq, setIt a.dp]
def attItem (a : At) : It := if achk a = 0 then attIt a else zeroIt
def attOld (a : At) : It × Int := if achk a = 0 then if a.tg = 1 then (oldIt a, 0) else (zeroIt, 17) else (zeroIt, 4)

/-- A number; a list. -/
def isNum (x : It) : Bool := decide (x.kind = 0 ∧ x.str = ByteArray.empty ∧ x.kids.length = 0)
def isList (x : It) : Bool := decide (x.kind = 2 ∧ x.num = 0 ∧ x.str = ByteArray.empty)
theorem isNum_eq {x : It} (h : isNum x = true) : x = .mk 0 x.num ByteArray.empty [] := by
  obtain ⟨h1, h2, h3⟩ := of_decide_eq_true h
  cases x
  simp only [It.kind, It.num, It.str, It.kids] at *
  rw [h1, h2, List.eq_nil_of_length_eq_zero h3]
theorem isList_eq {x : It} (h : isList x = true) : x = .mk 2 0 ByteArray.empty x.kids := by
  obtain ⟨h1, h2, h3⟩ := of_decide_eq_true h
  cases x
  simp only [It.kind, It.num, It.str, It.kids] at *
  rw [h1, h2, h3]
theorem isNum_num (v : Int) : isNum (numIt v) = true := by simp [isNum, numIt, It.kind, It.str, It.kids]
/-- What a number's and a set's items, behind a tag, say. -/
noncomputable def takenOf (tag : Int) (s d : It) : Option At :=
  if isNum s = true ∧ (takeOf d).isSome = true ∧ achk ⟨(takeOf d).getD [], w64 s.num, tag⟩ = 0 then some ⟨(takeOf d).getD [], w64 s.num, tag⟩ else none
/-- What an item says; what an old form says. -/
noncomputable def attTake (x : It) : Option At :=
  if isList x = true then
    match x.kids with
    | [t, s, d] => if isNum t = true then takenOf (w64 t.num) s d else none
    | _ => none
  else none
noncomputable def oldTake (x : It) : Option At :=
  if isList x = true then
    match x.kids with
    | [s, d] => takenOf 1 s d
    | _ => none
  else none

theorem w64_nonneg {n : Nat} (h : n ≤ 18446744073709551615) (h0 : 0 ≤ w64 n) : w64 n = n := by
  unfold w64 at *
  simp [IntKind.wrap, IntKind.bits, IntKind.signed] at *
  omega
theorem numIt_w64 {s : It} (hs : isNum s = true) (hb : s.num ≤ 18446744073709551615) (h0 : 0 ≤ w64 s.num) : numIt (w64 s.num) = s := by
  rw [w64_nonneg hb h0]
  conv => rhs; rw [isNum_eq hs]
  simp [numIt]
theorem achk_sq {a : At} (h : achk a = 0) : 0 ≤ a.sq ∧ a.sq ≤ 1099511627776 ∧ 1 ≤ a.tg ∧ a.tg ≤ 2 := by
  obtain ⟨h1, h2, _⟩ := achk_zero.1 h
  unfold aranged at h2
  split at h2
  · have := of_decide_eq_true h2
    omega
  · have := of_decide_eq_true h2
    omega
theorem takeOf_some {d : It} {l : List (Int × Int)} (h : takeOf d = some l) : setIt l = d ∧ Ids.chk l = true := by
  unfold takeOf at h
  split at h
  · rename_i hc
    injection h with h
    rw [← h]
    obtain ⟨h1, h2⟩ := take_is hc.2
    exact ⟨h2, h1⟩
  · cases h
theorem w64_sq {v : Int} (h : 0 ≤ v) (h' : v ≤ 1099511627776) : w64 v.toNat = v := by
  rw [w64_small (by omega), Int.toNat_of_nonneg h]
/-- What is put is taken. -/
theorem taken_put {a : At} (h : achk a = 0) : takenOf a.tg (numIt a.sq) (setIt a.dp) = some a := by
  obtain ⟨h0, h1, h2, h3⟩ := achk_sq h
  have hc := (achk_zero.1 h).2.2
  unfold takenOf
  rw [take_set hc]
  have e : w64 (numIt a.sq).num = a.sq := w64_sq h0 h1
  rw [e, if_pos ⟨isNum_num _, rfl, h⟩]
  rfl
theorem att_put {a : At} (h : achk a = 0) : attTake (attIt a) = some a := by
  obtain ⟨h0, h1, h2, h3⟩ := achk_sq h
  unfold attTake
  rw [if_pos (by simp [isList, attIt, It.kind, It.num, It.str])]
  show (if isNum (numIt a.tg) = true then takenOf (w64 (numIt a.tg).num) (numIt a.sq) (setIt a.dp) else none) = some a
  have e : w64 (numIt a.tg).num = a.tg := w64_sq (by omega) (by omega)
  rw [if_pos (isNum_num _), e, taken_put h]
theorem old_put {a : At} (h : achk a = 0) (ht : a.tg = 1) : oldTake (oldIt a) = some a := by
  unfold oldTake
  rw [if_pos (by simp [isList, oldIt, It.kind, It.num, It.str])]
  show takenOf 1 (numIt a.sq) (setIt a.dp) = some a
  rw [← ht, taken_put h]
/-- What is taken is what is put. -/
theorem taken_is {tag : Int} {s d : It} {a : At} (hb : s.num ≤ 18446744073709551615) (h : takenOf tag s d = some a) : achk a = 0 ∧ a.tg = tag ∧ numIt a.sq = s ∧ setIt a.dp = d := by
  unfold takenOf at h
  split at h
  · rename_i hc
    obtain ⟨h1, h2, h3⟩ := hc
    injection h with h
    rw [← h]
    obtain ⟨l, hl⟩ := Option.isSome_iff_exists.1 h2
    rw [hl] at h3 ⊢
    refine ⟨h3, rfl, numIt_w64 h1 hb (achk_sq h3).1, (takeOf_some hl).1⟩
  · cases h
theorem att_is {x : It} {a : At} (hb : ∀ k ∈ x.kids, k.num ≤ 18446744073709551615) (h : attTake x = some a) : achk a = 0 ∧ attIt a = x := by
  unfold attTake at h
  split at h
  · rename_i hl
    have hx := isList_eq hl
    split at h
    · rename_i t s d he
      split at h
      · rename_i ht
        obtain ⟨h1, h2, h3, h4⟩ := taken_is (hb s (by rw [he]; simp)) h
        refine ⟨h1, ?_⟩
        rw [hx, he, attIt, h3, h4, h2, numIt_w64 ht (hb t (by rw [he]; simp))]
        have := (achk_sq h1).2.2.1
        omega
      · cases h
    · cases h
  · cases h
theorem old_is {x : It} {a : At} (hb : ∀ k ∈ x.kids, k.num ≤ 18446744073709551615) (h : oldTake x = some a) : achk a = 0 ∧ a.tg = 1 ∧ oldIt a = x := by
  unfold oldTake at h
  split at h
  · rename_i hl
    have hx := isList_eq hl
    split at h
    · rename_i s d he
      obtain ⟨h1, h2, h3, h4⟩ := taken_is (hb s (by rw [he]; simp)) h
      refine ⟨h1, h2, ?_⟩
      rw [hx, he, oldIt, h3, h4]
    · cases h
  · cases h
/-- A number, cut at the greatest that the document reads. -/
def capOf (n : Nat) : Int := if n > 4611686018427387904 then 4611686018427387904 else (n : Int)
theorem capOf_sq {v : Int} (h : 0 ≤ v) (h' : v ≤ 1099511627776) : capOf v.toNat = v := by
  unfold capOf
  rw [if_neg (by omega), Int.toNat_of_nonneg h]
/-- The document's way: what is read, where it is right, and has that item. -/
theorem att_ref {x t s d : It} (hb : ∀ k ∈ x.kids, k.num ≤ 18446744073709551615) (hk : x.kids = [t, s, d]) :
    attTake x = if (takeOf d).isSome = true ∧ achk ⟨(takeOf d).getD [], capOf s.num, capOf t.num⟩ = 0 ∧ same x (attIt ⟨(takeOf d).getD [], capOf s.num, capOf t.num⟩) = true then some ⟨(takeOf d).getD [], capOf s.num, capOf t.num⟩ else none := by
  by_cases hc : (takeOf d).isSome = true ∧ achk ⟨(takeOf d).getD [], capOf s.num, capOf t.num⟩ = 0 ∧ same x (attIt ⟨(takeOf d).getD [], capOf s.num, capOf t.num⟩) = true
  · rw [if_pos hc]
    rw [(same_iff _ _).1 hc.2.2]
    have h := hc.2.1
    generalize (⟨(takeOf d).getD [], capOf s.num, capOf t.num⟩ : At) = a at h
    exact att_put h
  · rw [if_neg hc]
    cases h : attTake x with
    | none => rfl
    | some a =>
      exfalso
      obtain ⟨h1, h2⟩ := att_is hb h
      obtain ⟨q0, q1, q2, q3⟩ := achk_sq h1
      have hkk : [numIt a.tg, numIt a.sq, setIt a.dp] = [t, s, d] := by rw [← hk, ← h2]; rfl
      injection hkk with e1 e2
      injection e2 with e2 e3
      injection e3 with e3
      have a1 : capOf t.num = a.tg := by rw [← e1]; exact capOf_sq (by omega) (by omega)
      have a2 : capOf s.num = a.sq := by rw [← e2]; exact capOf_sq q0 q1
      have a3 : takeOf d = some a.dp := by rw [← e3]; exact take_set (achk_zero.1 h1).2.2
      apply hc
      rw [a1, a2, a3]
      exact ⟨rfl, h1, (same_iff _ _).2 h2.symm⟩
theorem old_ref {x s d : It} (hb : ∀ k ∈ x.kids, k.num ≤ 18446744073709551615) (hk : x.kids = [s, d]) :
    oldTake x = if (takeOf d).isSome = true ∧ achk ⟨(takeOf d).getD [], capOf s.num, 1⟩ = 0 ∧ same x (oldIt ⟨(takeOf d).getD [], capOf s.num, 1⟩) = true then some ⟨(takeOf d).getD [], capOf s.num, 1⟩ else none := by
  by_cases hc : (takeOf d).isSome = true ∧ achk ⟨(takeOf d).getD [], capOf s.num, 1⟩ = 0 ∧ same x (oldIt ⟨(takeOf d).getD [], capOf s.num, 1⟩) = true
  · rw [if_pos hc]
    rw [(same_iff _ _).1 hc.2.2]
    exact old_put hc.2.1 rfl
  · rw [if_neg hc]
    cases h : oldTake x with
    | none => rfl
    | some a =>
      exfalso
      obtain ⟨h1, ht, h2⟩ := old_is hb h
      obtain ⟨q0, q1, q2, q3⟩ := achk_sq h1
      have hkk : [numIt a.sq, setIt a.dp] = [s, d] := by rw [← hk, ← h2]; rfl
      injection hkk with e2 e3
      injection e3 with e3
      have a2 : capOf s.num = a.sq := by rw [← e2]; exact capOf_sq q0 q1
      have a3 : takeOf d = some a.dp := by rw [← e3]; exact take_set (achk_zero.1 h1).2.2
      have e : (⟨a.dp, a.sq, 1⟩ : At) = a := by rw [← ht]
      apply hc
      rw [a2, a3]
      show (some a.dp).isSome = true ∧ achk ⟨a.dp, a.sq, 1⟩ = 0 ∧ same x (oldIt ⟨a.dp, a.sq, 1⟩) = true
      rw [e]
      exact ⟨rfl, h1, (same_iff _ _).2 h2.symm⟩
theorem att_short {x : It} (h : x.kids.length ≠ 3) : attTake x = none := by
  unfold attTake
  split
  · split
    · rename_i he
      rw [he] at h
      exact absurd rfl h
    · rfl
  · rfl
theorem old_short {x : It} (h : x.kids.length ≠ 2) : oldTake x = none := by
  unfold oldTake
  split
  · split
    · rename_i he
      rw [he] at h
      exact absurd rfl h
    · rfl
  · rfl
theorem att_notlist {x : It} (h : isList x = false) : attTake x = none ∧ oldTake x = none := by
  unfold attTake oldTake
  rw [if_neg (by simp [h]), if_neg (by simp [h])]
  exact ⟨rfl, rfl⟩
theorem att_three {x t s d : It} (h : isList x = true) (hk : x.kids = [t, s, d]) : attTake x = if isNum t = true then takenOf (w64 t.num) s d else none := by
  unfold attTake
  rw [if_pos h, hk]
theorem old_two {x s d : It} (h : isList x = true) (hk : x.kids = [s, d]) : oldTake x = takenOf 1 s d := by
  unfold oldTake
  rw [if_pos h, hk]
end Go.Proofs.Ytccbkpdkmdnmfaa.Att
