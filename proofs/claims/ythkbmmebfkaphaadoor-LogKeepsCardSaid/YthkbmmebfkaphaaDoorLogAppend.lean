/-
  Texts of earlier layers, as one.
-/
import Derived.Test.YthkbmmebfkaphaaDoorRBase
import Derived.Maps.AppendAt
import Derived.Deep.RegionHeld
import Derived.Laws.Pointers
/- An append onto a row of the call's own, of one-cell elements of whatever type: its run, and its step where a guard wants it or in a region that draws its order. -/
namespace Go.Proofs.YthkbmmebfkaphaaDoor.Lg
open Go.RowKit Mem

theorem append_gen {P : Program} {w : World} {t e : TypeId} {i : TypeInfo} {z : Value} {bytes base : Nat} (ht : P.underlying t = some (.slice e)) (hi : P.info? e = some i) (hz : i.zero = some z) (hsize : i.size = 1) (hby : i.bytes = bytes) (hzs : z.cells.size = 1)
    {V : Option Addr} {n cv : Nat} {xs : List Value} (hown : w.ownsRow base e 1 (.slice V n cv) n xs) {A : Option Addr} {k c : Nat} {news : List Value} (hr : Rd w A k c news) (h1 : ∀ u ∈ news, u.oneCell' = true)
    (h63 : n + k ≤ maxLen) (hb : (n + k) * bytes ≤ 140737488355328) (hbase : base ≤ w.heap.size) (ty : TypeId) :
    ∃ V' c' w', (Builtin.append_ #[t, t] ty #[.slice V n cv, .slice A k c]).run P w = .ok (.slice V' (n + k) c') w' ∧ w'.ownsRow base e 1 (.slice V' (n + k) c') (n + k) (xs ++ news) ∧ Below base w w' := by
  rcases A with _ | ad
  · have hc : c = 0 := hr.nil rfl
    have hm : k = 0 := by have := hr.le; omega
    subst hc
    subst hm
    have hn : news = [] := List.eq_nil_of_length_eq_zero hr.len
    subst hn
    exact ⟨V, cv, w, run_append_owned_none (P := P) (w := w) base t ty e i 1 ht hi _ n xs hown, by simpa using hown, Below.refl _ _⟩
  · obtain ⟨v', w', hrun, ho, hg, _, _⟩ := run_append_own_at (P := P) w base t ty e i z 1 bytes ht hi hz hsize hby hzs (by omega) _ n xs hown ad k c news (by rw [hr.len, Nat.mul_one]) (hr.cells _ rfl) h1 h63 hb hbase
    obtain ⟨V', c', rfl, _⟩ := Rd.of_own ho
    exact ⟨V', c', w', hrun, ho, (Below.refl _ _).grown hg hbase fun j e => (hown.lt j e).1⟩
/-- .. where its guard wants it. -/
theorem wpList_append_w {P : Program} {w w' : World} {ops : Array Oper} {rest : List Oper} {o : Oper} {a : Act} {Q : Exit → Act → World → Prop} {t : TypeId} {v : Value} (s x : Operand)
    (ho : o.op = .call { callee := .builtin .append, args := #[s, x], argTypes := #[t, t] }) (hw : Region.wanted o (yielded ops a.tmps) = true) (hrun : (Builtin.append_ #[t, t] o.type #[a.eval s, a.eval x]).run P w = .ok v w')
    (h : wpList P ops Q rest (a.put o.dst v) w') : wpList P ops Q (o :: rest) a w :=
  wpList_step fun _ hK => by
    rw [if_pos hw]
    unfold Oper.wp
    simp [execOp, ho, resolve, invoke, builtin, hrun, Result.andThen]
    exact hK _ _ h
/-- .. in a region that draws its order. -/
theorem step_append_w {P : Program} {w w' : World} {ops : Array Oper} {o : Oper} {a : Act} {K : Act → World → Prop} {Q : Exit → Act → World → Prop} {E : Prop} {t : TypeId} {v : Value} (hgd : o.guard = none) (s x : Operand)
    (ho : o.op = .call { callee := .builtin .append, args := #[s, x], argTypes := #[t, t] }) (hrun : (Builtin.append_ #[t, t] o.type #[a.eval s, a.eval x]).run P w = .ok v w')
    (h : K (a.put o.dst v) w') : if Region.wanted o (yielded ops a.tmps) = true then Oper.wp P o a w K Q else E := by
  have hw : Region.wanted o (yielded ops a.tmps) = true := by simp [Region.wanted, hgd]
  rw [if_pos hw]
  unfold Oper.wp
  simp [execOp, ho, resolve, invoke, builtin, hrun, Result.andThen]
  exact h
end Go.Proofs.YthkbmmebfkaphaaDoor.Lg
