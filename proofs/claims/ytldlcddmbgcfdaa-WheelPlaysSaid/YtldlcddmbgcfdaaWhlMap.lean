/-
  Texts of earlier layers, as one.
-/
import Derived.Test.YtldlcddmbgcfdaaWhlHeap
import Derived.Test.YtldlcddmbgcfdaaProg
import Derived.Maps.OwnSet
import Derived.DeepKeys5
import Derived.WideKeyEntry
import Derived.KernelRfl
/- A map of places by ids: what it reads as when each timer's place in a list is told by it; two places' turning round, one more, the last one out; an entry and what is stored into it. -/
namespace Go.Proofs.Ytldlcddmbgcfdaa.Wh
open Go.RowKit Mem Go.Maps

theorem id_klaw : Go.WideMaps.KeyLaw Try.prog 28 := by
  have h1 : decide (Try.prog.types.size + 2 ≤ 10000) = true := by kernel_rfl
  have h2 : decide (28 < Try.prog.types.size) = true := by kernel_rfl
  exact deep_law_gate (by kernel_rfl) (of_decide_eq_true h1) (of_decide_eq_true h2) (by kernel_rfl) (by kernel_rfl)
theorem id_law : Keyed Try.prog 28 := Keyed.of_law id_klaw
/-- An id as a key. -/
def kid (i : Int × Int) : Lit := .string (keyBytes [.int .i64 i.1, .int .i64 i.2])
def Wf (i : Int × Int) : Prop := (Lit.int .i64 i.1).wf = true ∧ (Lit.int .i64 i.2).wf = true
def idV (i : Int × Int) : Value := .agg #[.int .i64 i.1, .int .i64 i.2]
theorem id_lits (m : Nat) (cs : List Value) : Try.prog.keyLits (m + 2) 28 cs = match cs with
    | [.int .i64 a, .int .i64 b] => if (Lit.int .i64 a).wf = true ∧ (Lit.int .i64 b).wf = true then some [.int .i64 a, .int .i64 b] else none
    | _ => none := by
  have hc : Try.prog.cellsOf 28 = 2 := by kernel_rfl
  have hi : Try.prog.cellsOf 3 = 1 := by kernel_rfl
  unfold Program.keyLits
  rw [Try.underlying28]
  simp only [hc]
  by_cases hl : cs.length = 2
  · obtain ⟨x, y, rfl⟩ : ∃ x y, cs = [x, y] := by
      match cs, hl with
      | [x, y], _ => exact ⟨x, y, rfl⟩
    rw [if_pos ⟨rfl, by kernel_rfl⟩]
    simp only [List.mapM_cons, List.mapM_nil, hi, List.drop_zero, List.drop_succ_cons, List.take_succ_cons, List.take_zero]
    unfold Program.keyLits
    simp only [Try.underlying3]
    cases x <;> cases y <;> simp
    rename_i k n k' n'
    cases k <;> cases k' <;> simp
    by_cases h1 : (Lit.int .i64 n).wf = true <;> by_cases h2 : (Lit.int .i64 n').wf = true <;> simp [h1, h2]
  · rw [if_neg (fun h => hl h.1)]
    split
    · exact absurd rfl hl
    · rfl
theorem size_two : ∃ m, Try.prog.types.size + 1 = m + 2 := ⟨Try.prog.types.size - 1, by kernel_rfl⟩
theorem id_key {i : Int × Int} (h : Wf i) : keyOf Try.prog 28 (idV i) = some (kid i) := by
  have hk : Try.prog.keyType 28 = true := by kernel_rfl
  have hf : (idV i).formed Try.prog 28 = true := by kernel_rfl
  obtain ⟨m, hm⟩ := size_two
  unfold keyOf
  rw [Try.underlying28]
  simp only [hk, hf, Bool.and_self, if_true, hm]
  have e : (idV i).cells.toList = [.int .i64 i.1, .int .i64 i.2] := rfl
  rw [e, id_lits]
  simp only
  rw [if_pos ⟨h.1, h.2⟩]
  rfl
theorem id_of_key {v : Value} {l : Lit} (h : keyOf Try.prog 28 v = some l) : ∃ i, Wf i ∧ v = idV i ∧ l = kid i := by
  obtain ⟨xs, L, rfl, h1, rfl⟩ := keyOf_top (P := Try.prog) (k := 28) (by kernel_rfl) h
  obtain ⟨m, hm⟩ := size_two
  rw [hm, id_lits] at h1
  split at h1
  · rename_i a b e
    split at h1
    · rename_i hw
      injection h1 with h1
      subst h1
      exact ⟨(a, b), hw, by unfold idV; rw [← e], rfl⟩
    · cases h1
  · cases h1
theorem kid_inj {a b : Int × Int} (ha : Wf a) (hb : Wf b) (h : kid a = kid b) : a = b := by
  have h1 := id_key ha
  rw [h] at h1
  have h2 := id_law.inj h1 (id_key hb)
  unfold idV at h2
  simp only [Value.agg.injEq, Array.mk.injEq, List.cons.injEq, Value.int.injEq, true_and, and_true] at h2
  exact Prod.ext h2.1 h2.2
theorem key_lit {i : Int × Int} (h : Wf i) : WideAt.IsKeyLit (kid i) := id_law.key (id_key h)
/-- A place as it reads. -/
def pl (k : Nat) : DataW Value := .lit (.int .i64 (k : Int))
/-- The map of places. -/
abbrev PM (w : World) (b n : Nat) (D : DataW Value) : Prop := w.ownsMap Try.prog 28 (plainElem Try.prog 3) b n D
/-- The map tells each timer's place. -/
structure Holds (D : DataW Value) (h : List Tm) : Prop where
  tidy : Tidy D
  has_ : ∀ i, Wf i → (has D (kid i) = true ↔ ∃ x ∈ h, x.i = i)
  at_ : ∀ k x, h[k]? = some x → ∀ z, D.atKey (kid x.i) z = pl k
  size : Maps.size D = h.length
theorem Holds.nil : Holds (.map []) [] := ⟨tidy_empty, fun i _ => ⟨fun h => (by cases h), fun ⟨x, h, _⟩ => (by cases h)⟩, fun k x h => by simp at h, rfl⟩
section
variable {D : DataW Value} {h : List Tm}
theorem Holds.push (H : Holds D h) (t : Tm) (hw : Wf t.i) (hh : ∀ x ∈ h, Wf x.i) (hn : ∀ x ∈ h, x.i ≠ t.i) : Holds (D.put (kid t.i) (pl h.length)) (h ++ [t]) := by
  have hno : has D (kid t.i) = false := by
    cases e : has D (kid t.i) with
    | false => rfl
    | true =>
      obtain ⟨x, hx, hx'⟩ := (H.has_ _ hw).1 e
      exact absurd hx' (hn x hx)
  refine ⟨H.tidy.put (key_lit hw) _, fun i hi => ?_, fun k x hx z => ?_, ?_⟩
  · by_cases e : t.i = i
    · subst e
      rw [has_put_same H.tidy.isMap (key_lit hw)]
      simp
    · rw [has_put_other (fun e' => e (kid_inj hi hw e').symm), H.has_ i hi]
      constructor
      · rintro ⟨x, hx, hx'⟩
        exact ⟨x, List.mem_append_left _ hx, hx'⟩
      · rintro ⟨x, hx, hx'⟩
        rcases List.mem_append.1 hx with hx | hx
        · exact ⟨x, hx, hx'⟩
        · rw [List.mem_singleton.1 hx] at hx'
          exact absurd hx' e
  · by_cases hk : k < h.length
    · rw [List.getElem?_append_left hk] at hx
      have hm := List.mem_of_getElem? hx
      rw [atKey_put_other (fun e' => hn x hm (kid_inj (hh x hm) hw e'))]
      exact H.at_ k x hx z
    · have hk2 := (List.getElem?_eq_some_iff.1 hx).1
      rw [List.length_append, List.length_singleton] at hk2
      have hk3 : k = h.length := by omega
      subst hk3
      have hx' : t = x := by simpa using hx
      subst hx'
      exact atKey_put_same H.tidy.isMap (key_lit hw) _ _
  · rw [size_put H.tidy, hno, H.size, List.length_append]
    rfl
theorem Holds.pop {t : Tm} (H : Holds D (h ++ [t])) (u : Uq (h ++ [t])) (hh : ∀ x ∈ h ++ [t], Wf x.i) : Holds (D.del (kid t.i)) h := by
  have hw := hh t (by simp)
  have hne : ∀ x ∈ h, x.i ≠ t.i := fun x hx => (List.pairwise_append.1 u).2.2 x hx t (by simp)
  refine ⟨H.tidy.del _, fun i hi => ?_, fun k x hx z => ?_, ?_⟩
  · by_cases e : t.i = i
    · subst e
      rw [has_del_same]
      constructor
      · intro h'; cases h'
      · rintro ⟨x, hx, hx'⟩
        exact absurd hx' (hne x hx)
    · rw [has_del_other (fun e' => e (kid_inj hi hw e').symm), H.has_ i hi]
      constructor
      · rintro ⟨x, hx, hx'⟩
        rcases List.mem_append.1 hx with hx | hx
        · exact ⟨x, hx, hx'⟩
        · rw [List.mem_singleton.1 hx] at hx'
          exact absurd hx' e
      · rintro ⟨x, hx, hx'⟩
        exact ⟨x, List.mem_append_left _ hx, hx'⟩
  · have hm := List.mem_of_getElem? hx
    have hk := (List.getElem?_eq_some_iff.1 hx).1
    rw [atKey_del_other (fun e' => hne x hm (kid_inj (hh x (List.mem_append_left _ hm)) hw e'))]
    exact H.at_ k x (by rw [List.getElem?_append_left hk]; exact hx) z
  · have h1 := size_del (k := kid t.i) H.tidy
    rw [(H.has_ _ hw).2 ⟨t, by simp, rfl⟩, if_pos rfl, H.size, List.length_append, List.length_singleton] at h1
    omega
theorem Holds.swap (H : Holds D h) (u : Uq h) (hh : ∀ x ∈ h, Wf x.i) {i j : Nat} {x y : Tm} (hij : i ≠ j) (hx : h[i]? = some x) (hy : h[j]? = some y) : Holds ((D.put (kid y.i) (pl i)).put (kid x.i) (pl j)) (swl h i j) := by
  have hi := (List.getElem?_eq_some_iff.1 hx).1
  have hj := (List.getElem?_eq_some_iff.1 hy).1
  have hmx := List.mem_of_getElem? hx
  have hmy := List.mem_of_getElem? hy
  have hwx := hh x hmx
  have hwy := hh y hmy
  have hxy : x.i ≠ y.i := fun e => hij (u.at_ hx hy e)
  have hp := swl_perm hi hj
  have hhx : has D (kid x.i) = true := (H.has_ _ hwx).2 ⟨x, hmx, rfl⟩
  have hhy : has D (kid y.i) = true := (H.has_ _ hwy).2 ⟨y, hmy, rfl⟩
  have hkne : kid x.i ≠ kid y.i := fun e => hxy (kid_inj hwx hwy e)
  have ht1 := H.tidy.put (key_lit hwy) (pl i)
  refine ⟨ht1.put (key_lit hwx) _, fun v hv => ?_, fun k z hz d => ?_, ?_⟩
  · have : has ((D.put (kid y.i) (pl i)).put (kid x.i) (pl j)) (kid v) = has D (kid v) := by
      by_cases e1 : v = x.i
      · subst e1
        rw [has_put_same ht1.isMap (key_lit hwx), hhx]
      · rw [has_put_other (fun e' => e1 (kid_inj hv hwx e'))]
        by_cases e2 : v = y.i
        · subst e2
          rw [has_put_same H.tidy.isMap (key_lit hwy), hhy]
        · rw [has_put_other (fun e' => e2 (kid_inj hv hwy e'))]
    rw [this, H.has_ v hv]
    constructor <;> rintro ⟨a, ha, ha'⟩
    · exact ⟨a, hp.mem_iff.2 ha, ha'⟩
    · exact ⟨a, hp.mem_iff.1 ha, ha'⟩
  · have hk : k < h.length := by rw [← length_swl h i j]; exact (List.getElem?_eq_some_iff.1 hz).1
    have hzG := G_at hz
    rw [G_swl hi hj] at hzG
    by_cases e1 : k = i
    · subst e1
      rw [sw_l, G_at hy] at hzG
      subst hzG
      rw [atKey_put_other hkne.symm, atKey_put_same H.tidy.isMap (key_lit hwy)]
    · by_cases e2 : k = j
      · subst e2
        rw [sw_r, G_at hx] at hzG
        subst hzG
        rw [atKey_put_same ht1.isMap (key_lit hwx)]
      · rw [sw_o _ e1 e2] at hzG
        have hzk : h[k]? = some z := by rw [at_G hk, hzG]
        have hmz := List.mem_of_getElem? hzk
        have hwz := hh z hmz
        rw [atKey_put_other (fun e' => e1 (u.at_ hzk hx (kid_inj hwz hwx e'))), atKey_put_other (fun e' => e2 (u.at_ hzk hy (kid_inj hwz hwy e')))]
        exact H.at_ k z hzk d
  · rw [size_put ht1, size_put H.tidy, hhy, if_pos rfl]
    have : has (D.put (kid y.i) (pl i)) (kid x.i) = true := by rw [has_put_other hkne, hhx]
    rw [this, if_pos rfl, H.size, length_swl]
theorem Holds.same {h' : List Tm} (H : Holds D h) (hi : h'.map (·.i) = h.map (·.i)) : Holds D h' := by
  have hl : h'.length = h.length := by simpa using congrArg List.length hi
  have hat : ∀ k : Nat, (h'[k]?).map (fun t : Tm => t.i) = (h[k]?).map (fun t : Tm => t.i) := fun k => by rw [← List.getElem?_map, ← List.getElem?_map, hi]
  have hmem : ∀ v : Int × Int, (∃ x ∈ h', x.i = v) ↔ ∃ x ∈ h, x.i = v := fun v => by
    have h1 : ∀ l : List Tm, (∃ x ∈ l, x.i = v) ↔ v ∈ l.map (fun t : Tm => t.i) := fun l => by simp
    rw [h1, h1, hi]
  refine ⟨H.tidy, fun v hv => (H.has_ v hv).trans (hmem v).symm, fun k x hx z => ?_, H.size.trans hl.symm⟩
  have := hat k
  rw [hx] at this
  cases e : h[k]? with
  | none => rw [e] at this; cases this
  | some y =>
    rw [e] at this
    injection this with this
    have this : x.i = y.i := this
    rw [this]
    exact H.at_ k y e z
end
theorem zero_int (w : World) : (zeroValue 3).run Try.prog w = .ok (.int .i64 0) w := by kernel_rfl
section
variable {w : World} {b n : Nat} {D : DataW Value} {h : List Tm}
/-- Its bound is what it has. -/
theorem pm_tight (hm : PM w b n D) : PM w b (Maps.size D) D := by
  obtain ⟨es, clock, hb, F, _, rfl⟩ := hm
  exact ⟨es, clock, hb, F, by simp [Maps.size, length_sorted], rfl⟩
theorem look_yes (hm : PM w b n D) (H : Holds D h) {k : Nat} {x : Tm} (hx : h[k]? = some x) (hw : Wf x.i) :
    (Instr.lookup 48 (.map (some b)) (idV x.i) true).run Try.prog w = .ok (.tuple #[.int .i64 (k : Int), .bool true]) w := by
  obtain ⟨v, ps, hr, hv⟩ := hm.look_ok id_law Try.underlying48 (zero_int w) (zd := .lit (.int .i64 0)) (zp := []) (plainElem_int Try.underlying3 (by decide)) (id_key hw)
  rw [H.at_ k x hx] at hv
  obtain ⟨c, rfl, hc, _⟩ := plainElem_int_inv Try.underlying3 hv
  simp only [pl, Prod.mk.injEq, DataW.lit.injEq, Lit.int.injEq, true_and] at hc
  rw [(H.has_ _ hw).2 ⟨x, List.mem_of_getElem? hx, rfl⟩, ← hc.1] at hr
  exact hr
theorem look_no (hm : PM w b n D) (H : Holds D h) {i : Int × Int} (hn : ∀ x ∈ h, x.i ≠ i) (hw : Wf i) :
    (Instr.lookup 48 (.map (some b)) (idV i) true).run Try.prog w = .ok (.tuple #[.int .i64 0, .bool false]) w := by
  obtain ⟨v, ps, hr, hv⟩ := hm.look_ok id_law Try.underlying48 (zero_int w) (zd := .lit (.int .i64 0)) (zp := []) (plainElem_int Try.underlying3 (by decide)) (id_key hw)
  have hno : has D (kid i) = false := by
    cases e : has D (kid i) with
    | false => rfl
    | true =>
      obtain ⟨x, hx, hx'⟩ := (H.has_ _ hw).1 e
      exact absurd hx' (hn x hx)
  rw [atKey_of_not_has hno] at hv
  obtain ⟨c, rfl, hc, _⟩ := plainElem_int_inv Try.underlying3 hv
  simp only [Prod.mk.injEq, DataW.lit.injEq, Lit.int.injEq, true_and] at hc
  rw [hno, ← hc.1] at hr
  exact hr
theorem store_place (hm : PM w b n D) {i : Int × Int} (hw : Wf i) (k : Nat) (hk : (k : Int) < 9223372036854775808) (hn : n < maxLen) :
    ∃ w', (Instr.mapUpdate 48 (.map (some b)) (idV i) (.int .i64 (k : Int))).run Try.prog w = .ok () w' ∧ PM w' b (n + 1) (D.put (kid i) (pl k)) ∧ w.mapTurned w' b :=
  hm.store id_law Try.underlying48 hn (id_key hw) (d := pl k) (ps := []) (plainElem_int Try.underlying3 (by simp [Lit.wf, IntKind.min, IntKind.max, IntKind.signed, IntKind.bits]; omega))
theorem drop_place (hm : PM w b n D) {i : Int × Int} (hw : Wf i) (ty : TypeId) :
    ∃ w', (Builtin.delete_ #[48, 28] ty #[.map (some b), idV i]).run Try.prog w = .ok (.tuple #[]) w' ∧ PM w' b n (D.del (kid i)) ∧ w.mapTurned w' b :=
  hm.drop id_law Try.underlying48 (id_key hw) ty
/-- An entry is looked up, or made; what is stored into it behind is the map's. -/
theorem entry_place (hm : PM w b n D) {i : Int × Int} (hw : Wf i) (k : Nat) (hk : (k : Int) < 9223372036854775808) (hn : n < maxLen) :
    ∃ (v0 : Value) (st : Nat) (o o' : Obj), (Instr.mapEntry 48 (.map (some b)) (idV i)).run Try.prog w = .ok (.tuple #[v0, .int .i64 (st : Int)]) (Go.ChangeMaps.setBlock w b o) ∧
      (Instr.entryStore 48 (.map (some b)) (.int .i64 ((st : Nat) : Int)) (.int .i64 (k : Int))).run Try.prog (Go.ChangeMaps.setBlock w b o) = .ok () (Go.ChangeMaps.setBlock w b o') ∧ PM (Go.ChangeMaps.setBlock w b o') b (n + 1) (D.put (kid i) (pl k)) ∧ w.mapTurned (Go.ChangeMaps.setBlock w b o) b ∧ w.mapTurned (Go.ChangeMaps.setBlock w b o') b := by
  obtain ⟨w', hr, hm', ht⟩ := store_place hm hw k hk hn
  obtain ⟨es, clock, hb, F, _, _⟩ := hm
  obtain ⟨v0, st, es1, clock1, h1, _, h3⟩ := Go.WideElems.entry_then_store id_klaw Try.underlying48 zero_int hb F (id_key hw)
  obtain ⟨es', clock', h4, h5⟩ := h3 (Go.ChangeMaps.setBlock w b (.map es1 clock1)) (.int .i64 (k : Int)) (Go.ChangeMaps.heap_setBlock_same hb _)
  have he : Go.ChangeMaps.setBlock (Go.ChangeMaps.setBlock w b (.map es1 clock1)) b (.map es' clock') = Go.ChangeMaps.setBlock w b (.map es' clock') := by simp [Go.ChangeMaps.setBlock]
  rw [he] at h4
  rw [h5] at hr
  injection hr with _ hr
  subst hr
  exact ⟨v0, st, _, _, h1, h4, hm', ⟨es, clock, es1, clock1, hb, rfl⟩, ⟨es, clock, es', clock', hb, rfl⟩⟩
end
end Go.Proofs.Ytldlcddmbgcfdaa.Wh
