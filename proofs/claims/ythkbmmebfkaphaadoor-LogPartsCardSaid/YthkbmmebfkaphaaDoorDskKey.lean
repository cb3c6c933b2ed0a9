/-
  Texts of earlier layers, as one.
-/
import Derived.Test.YthkbmmebfkaphaaDoorDskBase
import Derived.Test.YthkbmmebfkaphaaDoorRBase
import Derived.Maps.OwnSet
import Derived.Sort.KeysCollected
/- Files by their names, as a map reads: a name's key, a file's box as a datum; plain mathematics, of no program. -/
namespace Go.Proofs.YthkbmmebfkaphaaDoor.Dsk
open Go.RowKit Mem Go.Maps

/-- A file, its box, its bytes' slice. -/
structure Pf where
  f : Fl
  b : Nat
  A : Option Addr
  c : Nat
def key (s : ByteArray) : Lit := .string s.data.toList
/-- How a pointer to a box reads. -/
def ptrElem : Value → Option (DataW Unit × List MemPlace)
  | .pointer none => some (.nil, [])
  | .pointer (some ⟨b, 0, none⟩) => some (.lit (.int .u64 (b : Int)), [])
  | _ => none
theorem ptr_some {v : Value} {b : Nat} {ps : List MemPlace} (h : ptrElem v = some (.lit (.int .u64 (b : Int)), ps)) : v = .pointer (some ⟨b, 0, none⟩) := by
  unfold ptrElem at h
  split at h
  · cases h
  · rename_i b'
    simp only [Option.some.injEq, Prod.mk.injEq, DataW.lit.injEq, Lit.int.injEq, true_and] at h
    have : b' = b := by omega
    rw [this]
  · cases h
theorem ptr_none {v : Value} {ps : List MemPlace} (h : ptrElem v = some (.nil, ps)) : v = .pointer none := by
  unfold ptrElem at h
  split at h
  · rfl
  · cases h
  · cases h
theorem ptr_mk (b : Nat) : ptrElem (.pointer (some ⟨b, 0, none⟩)) = some (.lit (.int .u64 (b : Int)), []) := rfl
def entry (h : Pf) : Lit × DataW Unit := (key h.f.nm, .lit (.int .u64 (h.b : Int)))
def ent (hs : List Pf) : List (Lit × DataW Unit) := hs.map entry
theorem key_inj {a b : ByteArray} (h : key a = key b) : a = b := by
  unfold key at h
  injection h with h
  exact ByteArray.ext (Array.toList_inj.1 h)
theorem eqn_key (a b : ByteArray) : (key a).sameKey (key b) = eqn a b := by
  unfold eqn key
  rw [Lib.toList_data, Lib.toList_data]
  rfl
theorem eqn_same {a b : ByteArray} (h : eqn a b = true) : a = b := by
  rw [eqn_iff, Lib.toList_data, Lib.toList_data] at h
  exact ByteArray.ext (Array.toList_inj.1 h)
theorem eqn_ne {a b : ByteArray} (h : a ≠ b) : eqn a b = false := by
  cases e : eqn a b
  · rfl
  · exact absurd (eqn_same e) h
theorem less_before : ∀ (a b : List UInt8), Op.bytesLess a b = bytesBefore a b
  | [], [] => rfl
  | [], _ :: _ => rfl
  | _ :: _, [] => rfl
  | a :: x, b :: y => by unfold Op.bytesLess bytesBefore; rw [less_before x y]
theorem gtn_before (a b : ByteArray) : gtn a b = (key b).before (key a) := by
  unfold gtn
  rw [less_before, Lib.toList_data, Lib.toList_data]
  show _ = bytesBefore b.data.toList a.data.toList
  by_cases e : a.data.toList = b.data.toList
  · rw [e]
    simp [WideAt.bytes_irrefl]
  · have h2 : (a.data.toList == b.data.toList) = false := by simpa using e
    rw [h2, Bool.or_false]
    rcases WideAt.bytes_total _ _ e with h | h
    · have h3 : bytesBefore b.data.toList a.data.toList = false := by
        cases h4 : bytesBefore b.data.toList a.data.toList
        · rfl
        · have := WideShapes.bytes_trans _ _ _ h h4
          rw [WideAt.bytes_irrefl] at this
          cases this
      rw [h, h3]; rfl
    · have h3 : bytesBefore a.data.toList b.data.toList = false := by
        cases h4 : bytesBefore a.data.toList b.data.toList
        · rfl
        · have := WideShapes.bytes_trans _ _ _ h h4
          rw [WideAt.bytes_irrefl] at this
          cases this
      rw [h, h3]; rfl
/-- Files by rising names. -/
def Rising (l : List Fl) : Prop := l.Pairwise fun a b => (key a.nm).before (key b.nm) = true
theorem before_ne {a b : ByteArray} (h : (key a).before (key b) = true) : a ≠ b := fun e => by
  rw [e, WideShapes.before_irrefl] at h
  cases h
theorem rising_put {f : Fl} : ∀ {l : List Fl}, Rising l → (∀ x ∈ l, x.nm ≠ f.nm) → Rising (put f l)
  | [], _, _ => by simp [put, Rising]
  | x :: r, h, hn => by
    obtain ⟨h1, h2⟩ := List.pairwise_cons.1 h
    unfold put
    split
    · rename_i hg
      rw [gtn_before] at hg
      refine List.pairwise_cons.2 ⟨fun y hy => ?_, h⟩
      rcases List.mem_cons.1 hy with rfl | hy
      · exact hg
      · exact WideShapes.before_trans hg (h1 y hy)
    · rename_i hg
      rw [gtn_before] at hg
      have hx : (key x.nm).before (key f.nm) = true := by
        rcases WideAt.bytes_total x.nm.data.toList f.nm.data.toList (fun e => hn x (by simp) (key_inj (by unfold key; rw [e]))) with h' | h'
        · exact h'
        · exact absurd h' hg
      refine List.pairwise_cons.2 ⟨fun y hy => ?_, rising_put h2 fun y hy => hn y (by simp [hy])⟩
      have hm : ∀ {l : List Fl} {y : Fl}, y ∈ put f l → y = f ∨ y ∈ l := fun {l} => by
        induction l with
        | nil => intro y hy; simpa [put] using hy
        | cons a l ih =>
          intro y hy
          unfold put at hy
          split at hy
          · simpa using hy
          · rcases List.mem_cons.1 hy with rfl | hy
            · simp
            · rcases ih hy with h | h
              · exact .inl h
              · simp [h]
      rcases hm hy with rfl | hy
      · exact hx
      · exact h1 y hy
theorem rising_drop {l : List Fl} (h : Rising l) (s : ByteArray) : Rising (drop s l) := h.filter _
theorem rising_map {l l' : List Fl} (h : Rising l) (e : l'.map (·.nm) = l.map (·.nm)) : Rising l' := by
  have h1 : (l.map (·.nm)).Pairwise fun a b => (key a).before (key b) = true := List.pairwise_map.2 h
  rw [← e] at h1
  exact List.pairwise_map.1 h1
theorem rising_one {hs : List Pf} (h : Rising (hs.map (·.f))) {x y : Pf} (hx : x ∈ hs) (hy : y ∈ hs) (e : x.f.nm = y.f.nm) : x = y := by
  have h1 : hs.Pairwise fun a b => (key a.f.nm).before (key b.f.nm) = true := List.pairwise_map.1 h
  induction hs with
  | nil => cases hx
  | cons a r ih =>
    obtain ⟨p1, p2⟩ := List.pairwise_cons.1 h1
    rcases List.mem_cons.1 hx with ex | kx
    · rcases List.mem_cons.1 hy with ey | ky
      · rw [ex, ey]
      · rw [ex] at e
        exact absurd e (before_ne (p1 y ky))
    · rcases List.mem_cons.1 hy with ey | ky
      · rw [ey] at e
        exact absurd e.symm (before_ne (p1 x kx))
      · exact ih (List.pairwise_map.2 p2) kx ky p2
/-- Whose name it is. -/
def look (hs : List Pf) (s : ByteArray) : Option Pf := hs.find? fun h => eqn h.f.nm s
theorem look_place (hs : List Pf) (s : ByteArray) : (look hs s = none ∧ place (hs.map (·.f)) s = none) ∨ ∃ i h, look hs s = some h ∧ place (hs.map (·.f)) s = some i ∧ hs[i]? = some h ∧ h.f.nm = s := by
  induction hs with
  | nil => exact .inl ⟨rfl, rfl⟩
  | cons x r ih =>
    cases e : eqn x.f.nm s
    · rcases ih with ⟨h1, h2⟩ | ⟨i, h, h1, h2, h3, h4⟩
      · refine .inl ⟨by unfold look at h1 ⊢; simp [e, h1], ?_⟩
        unfold place at h2 ⊢
        simp only [List.map_cons, List.findIdx?_cons, e, h2]
        rfl
      · refine .inr ⟨i + 1, h, by unfold look at h1 ⊢; simp [e, h1], ?_, h3, h4⟩
        unfold place at h2 ⊢
        simp only [List.map_cons, List.findIdx?_cons, e, h2]
        rfl
    · refine .inr ⟨0, x, by unfold look; simp [e], ?_, rfl, eqn_same e⟩
      unfold place
      simp only [List.map_cons, List.findIdx?_cons, e]
      rfl
def dat : Option Pf → DataW Unit
  | none => .nil
  | some h => .lit (.int .u64 (h.b : Int))
def pv : Option Pf → Value
  | none => .pointer none
  | some h => .pointer (some ⟨h.b, 0, none⟩)
theorem find_ent (hs : List Pf) (s : ByteArray) : (ent hs).find? (fun p => p.1.sameKey (key s)) = (look hs s).map entry := by
  induction hs with
  | nil => rfl
  | cons x r ih =>
    have e : (entry x).1.sameKey (key s) = eqn x.f.nm s := eqn_key _ _
    unfold look ent at ih ⊢
    rw [List.map_cons, List.find?_cons, List.find?_cons, e]
    cases eqn x.f.nm s
    · exact ih
    · rfl
theorem at_ent (hs : List Pf) (s : ByteArray) : (DataW.map (ent hs)).atKey (key s) .nil = dat (look hs s) := by
  unfold DataW.atKey
  simp only [find_ent]
  cases look hs s <;> rfl
theorem pv_dat {v : Value} {o : Option Pf} {ps : List MemPlace} (h : ptrElem v = some (dat o, ps)) : v = pv o := by
  cases o with
  | none => exact ptr_none h
  | some x => exact ptr_some h
/-- A file put in its place, with its box. -/
def putP (h : Pf) : List Pf → List Pf
  | [] => [h]
  | x :: r => if gtn x.f.nm h.f.nm = true then h :: x :: r else x :: putP h r
theorem putP_ent (h : Pf) (l : List Pf) : DataW.insert (entry h) (ent l) = ent (putP h l) := by
  induction l with
  | nil => rfl
  | cons x r ih =>
    have e : (entry h).1.before (entry x).1 = gtn x.f.nm h.f.nm := (gtn_before _ _).symm
    show DataW.insert (entry h) (entry x :: ent r) = _
    unfold DataW.insert putP
    rw [e]
    split
    · rfl
    · rw [ih]; rfl
theorem putP_fs (h : Pf) (l : List Pf) : (putP h l).map (·.f) = put h.f (l.map (·.f)) := by
  induction l with
  | nil => rfl
  | cons x r ih =>
    unfold putP
    rw [List.map_cons]
    unfold put
    split
    · rfl
    · rw [List.map_cons, ih]
theorem mem_putP {h x : Pf} {l : List Pf} : x ∈ putP h l ↔ x = h ∨ x ∈ l := by
  induction l with
  | nil => simp [putP]
  | cons a r ih =>
    unfold putP
    split
    · simp
    · simp only [List.mem_cons, ih]
      constructor
      · rintro (h | h | h) <;> simp [h]
      · rintro (h | h | h) <;> simp [h]
theorem length_putP (h : Pf) (l : List Pf) : (putP h l).length = l.length + 1 := by
  induction l with
  | nil => rfl
  | cons x r ih =>
    unfold putP
    split
    · rfl
    · rw [List.length_cons, ih]; rfl
def dropP (s : ByteArray) (l : List Pf) : List Pf := l.filter fun h => !eqn h.f.nm s
theorem dropP_ent (s : ByteArray) (l : List Pf) : (ent l).filter (fun p => !p.1.sameKey (key s)) = ent (dropP s l) := by
  unfold ent dropP
  rw [List.filter_map]
  congr 1
  exact List.filter_congr fun h _ => by
    show (!(entry h).1.sameKey (key s)) = _
    rw [show (entry h).1 = key h.f.nm from rfl, eqn_key]
theorem dropP_fs (s : ByteArray) (l : List Pf) : (dropP s l).map (·.f) = drop s (l.map (·.f)) := by
  unfold drop dropP
  rw [List.filter_map]
  rfl
theorem del_ent (s : ByteArray) (l : List Pf) : (DataW.map (ent l)).del (key s) = .map (ent (dropP s l)) := by
  unfold DataW.del
  simp only [dropP_ent]
theorem put_ent (h : Pf) (l : List Pf) : (DataW.map (ent l)).put (key h.f.nm) (.lit (.int .u64 (h.b : Int))) = .map (ent (putP h (dropP h.f.nm l))) := by
  unfold DataW.put
  simp only [dropP_ent]
  rw [← putP_ent]
  rfl
theorem mem_dropP {s : ByteArray} {l : List Pf} {x : Pf} : x ∈ dropP s l ↔ x ∈ l ∧ x.f.nm ≠ s := by
  unfold dropP
  rw [List.mem_filter]
  constructor
  · rintro ⟨h1, h2⟩
    refine ⟨h1, fun e => ?_⟩
    rw [e, eqn_self] at h2
    cases h2
  · rintro ⟨h1, h2⟩
    exact ⟨h1, by rw [eqn_ne h2]; rfl⟩
theorem dropP_none {s : ByteArray} {l : List Pf} (h : look l s = none) : dropP s l = l := by
  unfold dropP look at *
  rw [List.find?_eq_none] at h
  exact List.filter_eq_self.2 fun x hx => by
    have := h x hx
    cases e : eqn x.f.nm s
    · rfl
    · exact absurd e this
/-- The names in their order: no sort turns them. -/
theorem names_sorted {hs : List Pf} (h : Rising (hs.map (·.f))) : (strKeys (.map (ent hs))).mergeSort leB = hs.map fun x => x.f.nm.data.toList := by
  have e : strKeys (.map (ent hs)) = hs.map fun x => x.f.nm.data.toList := by
    show (ent hs).map (fun p => strOf p.1) = _
    unfold ent
    rw [List.map_map]
    rfl
  rw [e]
  refine List.mergeSort_of_pairwise ?_
  refine List.pairwise_map.2 ((List.pairwise_map.1 h).imp fun {a b} hab => ?_)
  have hb : ∀ x y : List UInt8, bytesBefore x y = true → x ≤ y := by
    intro x y hxy
    rcases List.le_total x y with h' | h'
    · exact h'
    · exfalso
      have hl : ∀ (x y : List UInt8), bytesBefore x y = true → x < y := by
        intro x
        induction x with
        | nil => intro y hy; cases y with
          | nil => cases hy
          | cons b y => exact List.nil_lt_cons _ _
        | cons a x ih =>
          intro y hy
          cases y with
          | nil => cases hy
          | cons b y =>
            simp only [bytesBefore, Bool.or_eq_true, decide_eq_true_eq, Bool.and_eq_true, beq_iff_eq] at hy
            rw [List.cons_lt_cons_iff]
            rcases hy with hy | ⟨rfl, hy⟩
            · exact .inl hy
            · exact .inr ⟨rfl, ih y hy⟩
      exact absurd (hl x y hxy) (List.not_lt.2 h')
  simp only [leB, decide_eq_true_eq]
  exact hb _ _ hab
theorem size_ent (hs : List Pf) : Maps.size (DataW.map (ent hs)) = hs.length := by
  show (ent hs).length = _
  unfold ent
  rw [List.length_map]
/-- How many bytes are still to be counted. -/
def leftLen (left : Lit → Bool) : List Pf → Nat
  | [] => 0
  | h :: r => (if left (key h.f.nm) = true then h.f.len else 0) + leftLen left r
theorem left_all {hs : List Pf} : leftLen (has (DataW.map (ent hs))) hs = used (hs.map (·.f)) := by
  have : ∀ (l : List Pf), (∀ x ∈ l, x ∈ hs) → leftLen (has (DataW.map (ent hs))) l = used (l.map (·.f)) := by
    intro l hl
    induction l with
    | nil => rfl
    | cons x r ih =>
      have hx : has (DataW.map (ent hs)) (key x.f.nm) = true := by
        rw [has_eq, List.any_eq_true]
        refine ⟨entry x, List.mem_map.2 ⟨x, hl x (by simp), rfl⟩, ?_⟩
        show (key x.f.nm).sameKey (key x.f.nm) = true
        rw [eqn_key, eqn_self]
      unfold leftLen
      rw [if_pos hx, ih fun y hy => hl y (by simp [hy])]
      rfl
  exact this hs fun x hx => hx
theorem left_none {left : Lit → Bool} {hs : List Pf} (h : ∀ k, left k = false) : leftLen left hs = 0 := by
  induction hs with
  | nil => rfl
  | cons x r ih => unfold leftLen; rw [h, ih]; rfl
theorem left_step {left : Lit → Bool} {hs : List Pf} {x : Pf} (hr : Rising (hs.map (·.f))) (hx : x ∈ hs) (hl : left (key x.f.nm) = true) :
    leftLen (fun z => left z && !z.sameKey (key x.f.nm)) hs + x.f.len = leftLen left hs := by
  have h0 : ∀ (l : List Pf), (∀ y ∈ l, y.f.nm ≠ x.f.nm) → leftLen (fun z => left z && !z.sameKey (key x.f.nm)) l = leftLen left l := by
    intro l hl
    induction l with
    | nil => rfl
    | cons y r ih =>
      unfold leftLen
      rw [ih fun z hz => hl z (by simp [hz])]
      simp only [eqn_key, eqn_ne (hl y (by simp)), Bool.not_false, Bool.and_true]
  induction hs with
  | nil => cases hx
  | cons y r ih =>
    obtain ⟨p1, p2⟩ := List.pairwise_cons.1 (List.pairwise_map.1 hr)
    rcases List.mem_cons.1 hx with rfl | hx
    · unfold leftLen
      rw [h0 r fun z hz e => before_ne (p1 z hz) e.symm]
      simp only [eqn_key, eqn_self, Bool.not_true, Bool.and_false, hl]
      simp only [Bool.false_eq_true, if_false, if_true]
      omega
    · have h1 := ih (List.pairwise_map.2 p2) hx
      unfold leftLen
      have hne : y.f.nm ≠ x.f.nm := before_ne (p1 x hx)
      simp only [eqn_key, eqn_ne hne, Bool.not_false, Bool.and_true]
      omega
theorem has_mem {hs : List Pf} {l : Lit} {y : DataW Unit} (h : ∀ zd, (DataW.map (ent hs)).atKey l zd = y) : ∃ x ∈ hs, l = key x.f.nm ∧ y = .lit (.int .u64 (x.b : Int)) := by
  have h1 := has_true_of_atKey h
  rw [has_eq, List.any_eq_true] at h1
  obtain ⟨p, hp, he⟩ := h1
  obtain ⟨x, hx, rfl⟩ := List.mem_map.1 hp
  have e : l = key x.f.nm := (WideAt.sameKey_eq he).symm
  subst e
  have h2 := h .nil
  rw [at_ent] at h2
  cases hl : look hs x.f.nm with
  | none =>
    unfold look at hl
    rw [List.find?_eq_none] at hl
    exact absurd (eqn_self _) (hl x hx)
  | some z =>
    have hz : z ∈ hs := List.mem_of_find?_eq_some hl
    have hn : z.f.nm = x.f.nm := eqn_same (List.find?_some (p := fun h : Pf => eqn h.f.nm x.f.nm) hl)
    rw [hl] at h2
    refine ⟨z, hz, by rw [hn], h2.symm⟩
end Go.Proofs.YthkbmmebfkaphaaDoor.Dsk
