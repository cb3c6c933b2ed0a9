/-
  A region that draws its order and only reads, beside calls that keep all that lay in the world when it began, of no program: one walk, in the text's order.
-/
import Derived.Test.YtjofkonnpfglhaaMem
import Derived.Deep.Quiet
import Derived.Deep.QuietTactic
namespace Go.Proofs.Ytjofkonnpfglhaa
open Go.RowKit Mem

/-- A world in which all that lay in w lies as it did. -/
structure BelBy (w : World) where
  W : World
  h : Below w.heap.size w W
instance (w : World) : Inhabited (BelBy w) := ⟨⟨w, Below.refl _ _⟩⟩
theorem wp_region_bel {P : Program} {id : Nat} {Q : Exit → Act → World → Prop} {a : Act} {w : World} {l : List Oper} (hm : P.follows .mixedOrders = true) (hB : Region.lexB .any l.toArray = true)
    (h : wpQuiet P l.toArray (fun w' => ∃ p : BelBy w, w' = p.W) (fun a' => ∀ w', (∃ p : BelBy w, w' = p.W) → Q .normal a' w') l a) : (Code.region id l.toArray true).wp P Q a w :=
  wp_region_quiet (C := fun w' => ∃ p : BelBy w, w' = p.W) hm hB ⟨⟨w.drewN 1, below_drewN (Below.refl _ _) 1⟩, rfl⟩ (by simpa using h)
theorem Calls.bel_of {P : Program} {f : FuncId} {args : Array Value} {w : World} {p : BelBy w} {v : Value} (h : Calls P f args p.W fun e w' => e = .returned v ∧ Below p.W.heap.size p.W w') :
    Calls P f args p.W fun e w'' => e = .returned v ∧ ∃ p' : BelBy w, w'' = p'.W :=
  h.mono fun _ w' ⟨he, hb⟩ => ⟨he, ⟨w', bel_trans p.h hb⟩, rfl⟩
theorem Calls.bel_tells {P : Program} {f : FuncId} {args : Array Value} {w : World} {p : BelBy w} {b : Bool} (h : Calls P f args p.W (Tells b p.W)) :
    Calls P f args p.W fun e w'' => e = .returned (.bool b) ∧ ∃ p' : BelBy w, w'' = p'.W := Calls.bel_of h
theorem BelBy.cell {w : World} (p : BelBy w) {a : Addr} {v : Value} (hb : a.block < w.heap.size) (h : w.cell? a = some v) : p.W.cell? a = some v := (p.h.cell hb).trans h
/-- An operation of a region whose guard doesn't want it. -/
theorem wpQuiet_skip {P : Program} {ops : Array Oper} {C : World → Prop} {Q : Act → Prop} {a : Act} {o : Oper} {rest : List Oper} (hw : Region.wanted o (yielded ops a.tmps) = false) (h : wpQuiet P ops C Q rest (a.put o.dst undef)) : wpQuiet P ops C Q (o :: rest) a := by
  unfold wpQuiet
  rw [if_neg (by rw [hw]; simp)]
  exact h
end Go.Proofs.Ytjofkonnpfglhaa
