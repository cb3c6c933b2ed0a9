/-
  Texts of earlier layers, as one.
-/
import Derived.Test.YtlcggldcofncgaaIdKey
import Derived.Test.YtlcggldcofncgaaRBase
/- Maps by a function, of whatever keys and elements: what block b holds is told by a function from keys to elements; look-ups, stores, deletes, how many, a range in whatever order. -/
namespace Go.Proofs.Ytlcggldcofncgaa.Ix
open Go.RowKit Mem Go.Maps Ky

section
variable {κ β : Type}
open Classical in
/-- How an element reads: as it stands, if it is one. -/
noncomputable def rdr (E : β → Value) (v : Value) : Option (DataW Value × List MemPlace) := if ∃ c, v = E c then some (.held v, []) else none
theorem rdr_mk (E : β → Value) (c : β) : rdr E (E c) = some (.held (E c), []) := if_pos ⟨c, rfl⟩
theorem rdr_inv {E : β → Value} {v : Value} {y : DataW Value × List MemPlace} (h : rdr E v = some y) : (∃ c, v = E c) ∧ y = (.held v, []) := by
  unfold rdr at h
  split at h
  · rename_i hc
    injection h with h
    exact ⟨hc, h.symm⟩
  · cases h
/-- The function with one more, or one less. -/
def upd [DecidableEq κ] (f : κ → Option β) (x : κ) (v : Option β) : κ → Option β := fun y => if y = x then v else f y
theorem upd_same [DecidableEq κ] (f : κ → Option β) (x : κ) (v : Option β) : upd f x v x = v := if_pos rfl
theorem upd_other [DecidableEq κ] {f : κ → Option β} {x y : κ} {v : Option β} (h : y ≠ x) : upd f x v y = f y := if_neg h
theorem upd_id [DecidableEq κ] {f : κ → Option β} {x : κ} {v : Option β} (h : f x = v) : upd f x v = f := by
  funext y
  unfold upd
  split
  · rename_i e
    rw [e, h]
  · rfl
/-- What a reading holds. -/
structure Says (K : Kb κ) (E : β → Value) (D : DataW Value) (f : κ → Option β) : Prop where
  has_ : ∀ x, K.ok x → has D (K.lit x) = (f x).isSome
  at_ : ∀ x, K.ok x → ∀ z c, f x = some c → D.atKey (K.lit x) z = .held (E c)
  dom : ∀ x, (f x).isSome → K.ok x
/-- Block b is a map of N entries that holds f. -/
def Mp (K : Kb κ) (E : β → Value) (w : World) (b N : Nat) (f : κ → Option β) : Prop := ∃ D, w.ownsMap Try.prog K.t (rdr E) b N D ∧ Maps.size D = N ∧ Says K E D f
variable {K : Kb κ} {E : β → Value} {w w' : World} {b N : Nat} {f : κ → Option β} {D : DataW Value}
theorem Mp.lt (h : Mp K E w b N f) : b < w.heap.size := by
  obtain ⟨D, h, _⟩ := h
  exact h.lt
theorem Mp.keep (h : Mp K E w b N f) (hs : w'.heap[b]? = w.heap[b]?) : Mp K E w' b N f := by
  obtain ⟨D, ⟨es, clock, hb, r⟩, h⟩ := h
  exact ⟨D, ⟨es, clock, hs.trans hb, r⟩, h⟩
theorem Mp.bel {B : Nat} (h : Mp K E w b N f) (hb : Below B w w') (hB : b < B) : Mp K E w' b N f := h.keep (hb.block b hB)
theorem tight {n : Nat} (hm : w.ownsMap Try.prog K.t (rdr E) b n D) : w.ownsMap Try.prog K.t (rdr E) b (Maps.size D) D := by
  obtain ⟨es, clock, hb, F, _, rfl⟩ := hm
  exact ⟨es, clock, hb, F, by simp [Maps.size, length_sorted], rfl⟩
theorem key_lit' {x : κ} (hx : K.ok x) : WideAt.IsKeyLit (K.lit x) := K.law.key (K.key hx)
theorem Mp.dom (h : Mp K E w b N f) {x : κ} (hx : (f x).isSome) : K.ok x := by
  obtain ⟨D, _, _, h⟩ := h
  exact h.dom x hx
theorem Mp.made (K : Kb κ) (E : β → Value) (w : World) : Mp K E (w.alloc (.map #[] 0)) w.heap.size 0 (fun _ => none) :=
  ⟨.map [], World.ownsMap_made w Try.prog K.t (rdr E), rfl, ⟨fun x _ => rfl, (fun x _ z c h => by cases h), fun x h => by cases h⟩⟩
section
variable {t e : TypeId}
theorem look_val {x : κ} {z0 : β} {v : Value} {ps : List MemPlace} (hS : Says K E D f) (hx : K.ok x) (hv : rdr E v = some (D.atKey (K.lit x) (.held (E z0)), ps)) : v = E ((f x).getD z0) := by
  obtain ⟨_, h2⟩ := rdr_inv hv
  injection h2 with h2 _
  cases hf : f x with
  | none =>
    have h3 := hS.has_ x hx
    rw [hf] at h3
    rw [atKey_of_not_has h3] at h2
    injection h2 with h2
    exact h2.symm
  | some c =>
    rw [hS.at_ x hx _ c hf] at h2
    injection h2 with h2
    exact h2.symm
theorem Mp.look (h : Mp K E w b N f) (ht : Try.prog.underlying t = some (.map K.t e)) {z0 : β} (hz : ∀ w, (zeroValue e).run Try.prog w = .ok (E z0) w) {x : κ} (hx : K.ok x) :
    (Instr.lookup t (.map (some b)) (K.val x) false).run Try.prog w = .ok (E ((f x).getD z0)) w := by
  obtain ⟨D, h1, _, hS⟩ := h
  obtain ⟨v, ps, hr, hv⟩ := h1.lookup K.law ht (hz w) (rdr_mk E z0) (K.key hx)
  rw [look_val hS hx hv] at hr
  exact hr
theorem Mp.look_ok (h : Mp K E w b N f) (ht : Try.prog.underlying t = some (.map K.t e)) {z0 : β} (hz : ∀ w, (zeroValue e).run Try.prog w = .ok (E z0) w) {x : κ} (hx : K.ok x) :
    (Instr.lookup t (.map (some b)) (K.val x) true).run Try.prog w = .ok (.tuple #[E ((f x).getD z0), .bool (f x).isSome]) w := by
  obtain ⟨D, h1, _, hS⟩ := h
  obtain ⟨v, ps, hr, hv⟩ := h1.look_ok K.law ht (hz w) (rdr_mk E z0) (K.key hx)
  rw [look_val hS hx hv, hS.has_ x hx] at hr
  exact hr
theorem Mp.store [DecidableEq κ] (h : Mp K E w b N f) (ht : Try.prog.underlying t = some (.map K.t e)) (hn : N < maxLen) {x : κ} (hx : K.ok x) (c : β) :
    ∃ w', (Instr.mapUpdate t (.map (some b)) (K.val x) (E c)).run Try.prog w = .ok () w' ∧ Mp K E w' b (if (f x).isSome then N else N + 1) (upd f x (some c)) ∧ w.mapTurned w' b := by
  obtain ⟨D, h1, h2, hS⟩ := h
  obtain ⟨w', hr, h3, h4⟩ := h1.store K.law ht hn (K.key hx) (rdr_mk E c)
  have hD := h1.isMap
  have hsz : Maps.size (D.put (K.lit x) (.held (E c))) = if (f x).isSome then N else N + 1 := by rw [size_put (h1.tidy K.law), hS.has_ x hx, h2]
  refine ⟨w', hr, ⟨D.put (K.lit x) (.held (E c)), ?_, hsz, ⟨fun y hy => ?_, fun y hy z d hd => ?_, fun y hy => ?_⟩⟩, h4⟩
  · rw [← hsz]; exact tight h3
  · by_cases e1 : y = x
    · subst e1
      rw [has_put_same hD (key_lit' hy), upd_same]
      rfl
    · rw [has_put_other (fun e' => e1 (K.inj hy hx e')), upd_other e1]
      exact hS.has_ y hy
  · by_cases e1 : y = x
    · subst e1
      rw [upd_same] at hd
      rw [← Option.some.inj hd]
      exact atKey_put_same hD (key_lit' hy) _ _
    · rw [upd_other e1] at hd
      rw [atKey_put_other (fun e' => e1 (K.inj hy hx e'))]
      exact hS.at_ y hy z d hd
  · by_cases e1 : y = x
    · rw [e1]; exact hx
    · rw [upd_other e1] at hy
      exact hS.dom y hy
theorem Mp.drop [DecidableEq κ] (h : Mp K E w b N f) (ht : Try.prog.underlying t = some (.map K.t e)) {x : κ} (hx : K.ok x) (ty : TypeId) :
    ∃ w', (Builtin.delete_ #[t, K.t] ty #[.map (some b), K.val x]).run Try.prog w = .ok (.tuple #[]) w' ∧ Mp K E w' b (if (f x).isSome then N - 1 else N) (upd f x none) ∧ w.mapTurned w' b := by
  obtain ⟨D, h1, h2, hS⟩ := h
  obtain ⟨w', hr, h3, h4⟩ := h1.drop K.law ht (K.key hx) ty
  have hsz : Maps.size (D.del (K.lit x)) = if (f x).isSome then N - 1 else N := by
    have := size_del (k := K.lit x) (h1.tidy K.law)
    rw [hS.has_ x hx, h2] at this
    split at this
    · rename_i e1; rw [if_pos e1]; omega
    · rename_i e1; rw [if_neg e1]; omega
  refine ⟨w', hr, ⟨D.del (K.lit x), ?_, hsz, ⟨fun y hy => ?_, fun y hy z d hd => ?_, fun y hy => ?_⟩⟩, h4⟩
  · rw [← hsz]; exact tight h3
  · by_cases e1 : y = x
    · subst e1
      rw [has_del_same, upd_same]
      rfl
    · rw [has_del_other (fun e' => e1 (K.inj hy hx e')), upd_other e1]
      exact hS.has_ y hy
  · by_cases e1 : y = x
    · subst e1
      rw [upd_same] at hd
      cases hd
    · rw [upd_other e1] at hd
      rw [atKey_del_other (fun e' => e1 (K.inj hy hx e'))]
      exact hS.at_ y hy z d hd
  · by_cases e1 : y = x
    · rw [e1]; exact hx
    · rw [upd_other e1] at hy
      exact hS.dom y hy
theorem Mp.len (h : Mp K E w b N f) (ht : Try.prog.underlying t = some (.map K.t e)) (ty : TypeId) : (Builtin.len_ #[t] ty #[.map (some b)]).run Try.prog w = .ok (.int .i64 (N : Int)) w := by
  obtain ⟨D, h1, h2, hS⟩ := h
  rw [← h2]
  exact h1.len ht ty
theorem Mp.zero (h : Mp K E w b 0 f) (x : κ) : f x = none := by
  obtain ⟨D, h1, h2, hS⟩ := h
  cases hf : f x with
  | none => rfl
  | some c =>
    have h3 := hS.has_ x (hS.dom x (by rw [hf]; rfl))
    obtain ⟨es, rfl⟩ := h1.isMap
    have h4 : es = [] := List.eq_nil_of_length_eq_zero h2
    subst h4
    rw [hf] at h3
    cases h3
theorem Mp.mapBlock (h : Mp K E w b N f) : ∃ es clock, w.heap[b]? = some (.map es clock) := by
  obtain ⟨D, ⟨es, clock, hb, _⟩, _⟩ := h
  exact ⟨es, clock, hb⟩
/- ! ### a range -/
/-- A range over the map (or over none) is under way; 'left' tells what is still to come. -/
def Rg (K : Kb κ) (E : β → Value) (w : World) (ob : Option Nat) (r : Nat) (f : κ → Option β) (left : κ → Bool) (cnt : Nat) : Prop :=
  match ob with
  | some b => ∃ D N lf, w.ranges Try.prog K.t (rdr E) b r N D lf cnt ∧ Says K E D f ∧ (∀ x, K.ok x → left x = lf (K.lit x)) ∧ ∀ x, left x = true → K.ok x
  | none => w.heap[r]? = some (.mapIter none 0 #[] 0) ∧ (∀ x, left x = false) ∧ cnt = 0
/-- How many are to come, read off the world. -/
def meas (w : World) (ob : Option Nat) (r : Nat) : Nat := match ob with
  | some b => w.rangeLeft b r
  | none => 0
variable {ob : Option Nat} {r cnt : Nat} {left : κ → Bool}
theorem Rg.meas (h : Rg K E w ob r f left cnt) : meas w ob r = cnt := by
  cases ob with
  | none => exact h.2.2.symm
  | some b =>
    obtain ⟨D, N, lf, h, _⟩ := h
    exact h.left_eq
theorem Rg.lt (h : Rg K E w ob r f left cnt) : r < w.heap.size := by
  cases ob with
  | none => exact (Array.getElem?_eq_some_iff.1 h.1).1
  | some b =>
    obtain ⟨D, N, lf, h, _⟩ := h
    exact h.lt
theorem Rg.keep (h : Rg K E w ob r f left cnt) (hb : ∀ b, ob = some b → w'.heap[b]? = w.heap[b]?) (hr : w'.heap[r]? = w.heap[r]?) : Rg K E w' ob r f left cnt := by
  cases ob with
  | none => exact ⟨hr.trans h.1, h.2⟩
  | some b =>
    obtain ⟨D, N, lf, ⟨es, clock, since, seen, c0, h1, h2, h3, h4, h5, h6⟩, h⟩ := h
    exact ⟨D, N, lf, ⟨es, clock, since, seen, c0, (hb b rfl).trans h1, h2, h3, h4, hr.trans h5, h6⟩, h⟩
theorem Rg.iter (h : Rg K E w ob r f left cnt) : ∃ m s a c, w.heap[r]? = some (.mapIter m s a c) := by
  cases ob with
  | none => exact ⟨_, _, _, _, h.1⟩
  | some b =>
    obtain ⟨D, N, lf, ⟨es, clock, since, seen, c0, h1, h2, h3, h4, h5, h6⟩, h⟩ := h
    exact ⟨_, _, _, _, h5⟩
theorem Rg.map {b : Nat} (h : Rg K E w (some b) r f left cnt) : ∃ es clock, w.heap[b]? = some (.map es clock) := by
  obtain ⟨D, N, lf, ⟨es, clock, since, seen, c0, h1, h2⟩, h⟩ := h
  exact ⟨_, _, h1⟩
theorem own_ne_iter {base n s : Nat} {e : TypeId} {v : Value} {xs : List Value} (ho : w.ownsRow base e s v n xs) (h : ∃ m s a c, w.heap[r]? = some (.mapIter m s a c)) : v.ownBlock ≠ some r := by
  obtain ⟨m, s, a, c, h⟩ := h
  intro e1
  rcases ho.2 with ⟨rfl, _⟩ | ⟨g, cap, cur, rfl, _, hg, _⟩
  · cases e1
  · have e1 : g = r := by unfold Value.ownBlock at e1; injection e1
    rw [e1, h] at hg
    cases hg
theorem own_ne_map {b base n s : Nat} {e : TypeId} {v : Value} {xs : List Value} (ho : w.ownsRow base e s v n xs) (h : ∃ es clock, w.heap[b]? = some (.map es clock)) : v.ownBlock ≠ some b := by
  obtain ⟨es, clock, h⟩ := h
  intro e1
  rcases ho.2 with ⟨rfl, _⟩ | ⟨g, cap, cur, rfl, _, hg, _⟩
  · cases e1
  · have e1 : g = b := by unfold Value.ownBlock at e1; injection e1
    rw [e1, h] at hg
    cases hg
theorem own_keep {base n s : Nat} {e : TypeId} {v : Value} {xs : List Value} (h : w.ownsRow base e s v n xs) (hs : ∀ k, v.ownBlock = some k → k < w.heap.size → w'.heap[k]? = w.heap[k]?) : w'.ownsRow base e s v n xs := by
  refine ⟨h.1, ?_⟩
  rcases h.2 with e | ⟨g, cap, cur, e, hb, hg, r⟩
  · exact .inl e
  · exact .inr ⟨g, cap, cur, e, hb, (hs g (by rw [e]; rfl) (Array.getElem?_eq_some_iff.1 hg).1).trans hg, r⟩
/-- What block ob holds: a map, or nothing. -/
def MpO (K : Kb κ) (E : β → Value) (w : World) (ob : Option Nat) (N : Nat) (f : κ → Option β) : Prop := match ob with
  | some b => Mp K E w b N f
  | none => N = 0 ∧ f = fun _ => none
theorem MpO.range (h : MpO K E w ob N f) (ht : Try.prog.underlying t = some (.map K.t e)) :
    ∃ w', (Instr.range t (.map ob)).run Try.prog w = .ok (.pointer (some ⟨w.heap.size, 0, none⟩)) w' ∧ Rg K E w' ob w.heap.size f (fun x => (f x).isSome) N ∧ w.grownBy w' none ∧ w'.heap.size = w.heap.size + 1 := by
  cases ob with
  | none =>
    obtain ⟨rfl, rfl⟩ := h
    exact ⟨_, run_range_nilMap w t K.t e ht, ⟨heap_alloc_new w _, fun _ => rfl, rfl⟩, World.grownBy_alloc w _ none, by simp⟩
  | some b =>
    obtain ⟨D, h1, h2, hS⟩ := h
    obtain ⟨w', hr, h3, h4, h5⟩ := h1.range K.law ht
    rw [h2] at h3
    exact ⟨w', hr, ⟨D, N, Maps.has D, h3, hS, fun x hx => (hS.has_ x hx).symm, fun x hx => hS.dom x hx⟩, h4, h5⟩
theorem wpList_range_rg {ops : Array Oper} {rest : List Oper} {o : Oper} {a : Act} {Q : Exit → Act → World → Prop} (hg : o.guard = none) (m : Operand) (t : TypeId) (hop : o.op = Op.range t m) (e : TypeId) (K : Kb κ) (ht : Try.prog.underlying t = some (.map K.t e)) (E : β → Value) (ob : Option Nat) (N : Nat) (f : κ → Option β)
    (hm : a.eval m = .map ob) (h : MpO K E w ob N f)
    (hK : ∀ w', Rg K E w' ob w.heap.size f (fun x => (f x).isSome) N → w.grownBy w' none → w'.heap.size = w.heap.size + 1 → wpList Try.prog ops Q rest (a.put o.dst (.pointer (some ⟨w.heap.size, 0, none⟩))) w') :
    wpList Try.prog ops Q (o :: rest) a w := by
  refine wpList_plain hg fun K' hK' => ?_
  obtain ⟨w', hrun, r1, r2, r3⟩ := h.range ht
  unfold Oper.wp
  simp [execOp, hop, hm, hrun, Result.andThen]
  exact hK' _ _ (hK w' r1 r2 r3)
theorem run_next_none (w : World) (ty : TypeId) (r : Nat) (h : w.heap[r]? = some (.mapIter none 0 #[] 0)) : (Instr.next (.pointer (some ⟨r, 0, none⟩)) false ty).run Try.prog w = .ok (.tuple #[.bool false]) w := by
  simp only [Instr.next, getObj, Sem.run_bind, Sem.run, h, Result.andThen]
  rfl
theorem wpList_next_rg [DecidableEq κ] {ops : Array Oper} {rest : List Oper} {o : Oper} {a : Act} {Q : Exit → Act → World → Prop} (hg : o.guard = none) (it : Operand) (hop : o.op = Op.next it false) (K : Kb κ) (E : β → Value) (mkK : κ → Value) (mkE : β → Value) (hK : K.val = mkK) (hV : E = mkE) (hE : ∀ c d, E c = E d → c = d) (ob : Option Nat) (r : Nat) (f : κ → Option β) (left : κ → Bool) (cnt : Nat)
    (hit : a.eval it = .pointer (some ⟨r, 0, none⟩)) (h : Rg K E w ob r f left cnt)
    (hDone : (∀ x, left x = false) → wpList Try.prog ops Q rest (a.put o.dst (.tuple #[.bool false])) w)
    (hMore : ∀ (x : κ) (c : β) (w' : World) (cnt' : Nat), K.ok x → left x = true → f x = some c → Rg K E w' ob r f (fun y => left y && !decide (y = x)) cnt' → cnt' < cnt →
      w.grownBy w' (some r) → w'.heap.size = w.heap.size → (Instr.entry (.pointer (some ⟨r, 0, none⟩))).run Try.prog w' = .ok (.tuple #[mkK x, mkE c]) w' → wpList Try.prog ops Q rest (a.put o.dst (.tuple #[.bool true, mkK x, mkE c])) w') :
    wpList Try.prog ops Q (o :: rest) a w := by
  subst hK
  subst hV
  refine wpList_plain hg fun K' hK' => ?_
  unfold Oper.wp
  cases ob with
  | none =>
    simp [execOp, hop, hit, run_next_none w _ r h.1, Result.andThen]
    exact hK' _ _ (hDone h.2.1)
  | some b =>
    obtain ⟨D, N, lf, h1, hS, hl, hlk⟩ := h
    rcases h1.next K.law o.type with ⟨h0, hl0, hrun⟩ | ⟨key, v, kl, y, w', cnt', hkey, hlk1, hv, hat, hrun, hrg, hlt, hgr, hsz, hen⟩
    · simp [execOp, hop, hit, hrun, Result.andThen]
      refine hK' _ _ (hDone fun x => ?_)
      cases e1 : left x with
      | false => rfl
      | true =>
        have := hl x (hlk x e1)
        rw [hl0, e1] at this
        cases this
    · obtain ⟨x, hx, rfl, rfl⟩ := K.of hkey
      obtain ⟨⟨c, rfl⟩, rfl⟩ := rdr_inv hv
      have hh : has D (K.lit x) = true := has_true_of_atKey hat
      have hf : f x = some c := by
        rw [hS.has_ x hx] at hh
        cases e1 : f x with
        | none => rw [e1] at hh; cases hh
        | some d =>
          have h2 := hS.at_ x hx .nil d e1
          rw [hat] at h2
          simp only [DataW.held.injEq] at h2
          rw [hE _ _ h2]
      simp [execOp, hop, hit, hrun, Result.andThen]
      refine hK' _ _ (hMore x c w' cnt' hx ((hl x hx).trans hlk1) hf ⟨D, N, _, hrg, hS, fun y hy => ?_, fun y hy => hlk y (by simp at hy; exact hy.1)⟩ hlt hgr hsz hen)
      show (left y && !decide (y = x)) = _
      rw [hl y hy]
      by_cases e1 : y = x
      · subst e1
        rw [WideAt.sameKey_self (key_lit' hy)]
        simp
      · rw [sameKey_ne fun e' => e1 (K.inj hy hx e')]
        simp [e1]
end
end
end Go.Proofs.Ytlcggldcofncgaa.Ix
