/-
  Texts of earlier layers, as one.
-/
import Derived.Test.YtlcggldcofncgaaProg
import Derived.Maps.OwnSet
import Derived.Maps.RangeWalk
import Derived.DeepKeys5
import Derived.KernelRfl
/- Ids, texts and ints as keys of maps. -/
namespace Go.Proofs.Ytlcggldcofncgaa.Ky
open Go.RowKit Go.Maps

theorem id_klaw : Go.WideMaps.KeyLaw Try.prog 26 := by
  have h1 : decide (Try.prog.types.size + 2 ≤ 10000) = true := by kernel_rfl
  have h2 : decide (26 < Try.prog.types.size) = true := by kernel_rfl
  exact deep_law_gate (by kernel_rfl) (of_decide_eq_true h1) (of_decide_eq_true h2) (by kernel_rfl) (by kernel_rfl)
theorem id_law : Keyed Try.prog 26 := Keyed.of_law id_klaw
/-- An id as a key. -/
def kid (i : Int × Int) : Lit := .string (keyBytes [.int .i64 i.1, .int .i64 i.2])
def Wf (i : Int × Int) : Prop := (Lit.int .i64 i.1).wf = true ∧ (Lit.int .i64 i.2).wf = true
def idV (i : Int × Int) : Value := .agg #[.int .i64 i.1, .int .i64 i.2]
theorem id_lits (m : Nat) (cs : List Value) : Try.prog.keyLits (m + 2) 26 cs = match cs with
    | [.int .i64 a, .int .i64 b] => if (Lit.int .i64 a).wf = true ∧ (Lit.int .i64 b).wf = true then some [.int .i64 a, .int .i64 b] else none
    | _ => none := by
  have hc : Try.prog.cellsOf 26 = 2 := by kernel_rfl
  have hi : Try.prog.cellsOf 3 = 1 := by kernel_rfl
  unfold Program.keyLits
  rw [Try.underlying26]
  simp only [hc]
  by_cases hl : cs.length = 2
  · obtain ⟨x, y, rfl⟩ : ∃ x y, cs = [x, y] := by
      match cs, hl with
      | [x, y], _ => exact ⟨x, y, rfl⟩
    rw [if_pos ⟨rfl, by kernel_rfl⟩]
    simp only [List.mapM_cons, List.mapM_nil, hi, List.drop_zero, List.drop_succ_cons, List.take_succ_cons, List.take_zero]
    unfold Program.keyLits
    simp only [Try.underlying3]
    cases x <;> cases y <;> simp
    rename_i k n k' n'
    cases k <;> cases k' <;> simp
    by_cases h1 : (Lit.int .i64 n).wf = true <;> by_cases h2 : (Lit.int .i64 n').wf = true <;> simp [h1, h2]
  · rw [if_neg (fun h => hl h.1)]
    split
    · exact absurd rfl hl
    · rfl
theorem size_two : ∃ m, Try.prog.types.size + 1 = m + 2 := ⟨Try.prog.types.size - 1, by kernel_rfl⟩
theorem id_key {i : Int × Int} (h : Wf i) : keyOf Try.prog 26 (idV i) = some (kid i) := by
  have hk : Try.prog.keyType 26 = true := by kernel_rfl
  have hf : (idV i).formed Try.prog 26 = true := by kernel_rfl
  obtain ⟨m, hm⟩ := size_two
  unfold keyOf
  rw [Try.underlying26]
  simp only [hk, hf, Bool.and_self, if_true, hm]
  have e : (idV i).cells.toList = [.int .i64 i.1, .int .i64 i.2] := rfl
  rw [e, id_lits]
  simp only
  rw [if_pos ⟨h.1, h.2⟩]
  rfl
theorem id_of_key {v : Value} {l : Lit} (h : keyOf Try.prog 26 v = some l) : ∃ i, Wf i ∧ v = idV i ∧ l = kid i := by
  obtain ⟨xs, L, rfl, h1, rfl⟩ := keyOf_top (P := Try.prog) (k := 26) (by kernel_rfl) h
  obtain ⟨m, hm⟩ := size_two
  rw [hm, id_lits] at h1
  split at h1
  · rename_i a b e
    split at h1
    · rename_i hw
      injection h1 with h1
      subst h1
      exact ⟨(a, b), hw, by unfold idV; rw [← e], rfl⟩
    · cases h1
  · cases h1
theorem kid_inj {a b : Int × Int} (ha : Wf a) (hb : Wf b) (h : kid a = kid b) : a = b := by
  have h1 := id_key ha
  rw [h] at h1
  have h2 := id_law.inj h1 (id_key hb)
  unfold idV at h2
  simp only [Value.agg.injEq, Array.mk.injEq, List.cons.injEq, Value.int.injEq, true_and, and_true] at h2
  exact Prod.ext h2.1 h2.2
theorem key_lit {i : Int × Int} (h : Wf i) : WideAt.IsKeyLit (kid i) := id_law.key (id_key h)

/-- A kind of keys: its type, a key as a value, and as it reads. -/
structure Kb (κ : Type) where
  t : TypeId
  law : Keyed Try.prog t
  val : κ → Value
  lit : κ → Lit
  ok : κ → Prop
  key : ∀ {x}, ok x → keyOf Try.prog t (val x) = some (lit x)
  of : ∀ {v l}, keyOf Try.prog t v = some l → ∃ x, ok x ∧ v = val x ∧ l = lit x
  inj : ∀ {x y}, ok x → ok y → lit x = lit y → x = y
def idK : Kb (Int × Int) := ⟨26, id_law, idV, kid, Wf, id_key, id_of_key, kid_inj⟩
def intK : Kb Int := ⟨3, int_keyed Try.underlying3, .int .i64, .int .i64, fun x => (Lit.int .i64 x).wf = true, fun h => keyOf_int_mk Try.underlying3 h, fun h => by
  obtain ⟨x, h1, h2, h3⟩ := keyOf_int_inv Try.underlying3 h
  exact ⟨x, h3, h1, h2⟩, fun _ _ h => by injection h⟩
theorem str_of {v : Value} {l : Lit} (h : keyOf Try.prog 9 v = some l) : ∃ s : ByteArray, s.size ≤ maxLen ∧ v = .string s ∧ l = .string s.data.toList := by
  cases v <;> simp [keyOf, Try.underlying9, mapKey] at h
  obtain ⟨h1, rfl⟩ := h
  exact ⟨_, h1, rfl, rfl⟩
def strK : Kb ByteArray := ⟨9, string_keyed Try.underlying9, .string, fun s => .string s.data.toList, fun s => s.size ≤ maxLen, fun h => Go.WideMaps.keyOf_string_mk Try.underlying9 h, str_of, fun {x y} _ _ h => by
  injection h with h
  obtain ⟨⟨x⟩⟩ := x
  obtain ⟨⟨y⟩⟩ := y
  simp only at h
  rw [h]⟩
end Go.Proofs.Ytlcggldcofncgaa.Ky
