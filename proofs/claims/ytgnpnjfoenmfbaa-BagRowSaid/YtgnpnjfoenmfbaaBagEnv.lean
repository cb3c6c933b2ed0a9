/-
  Texts of earlier layers, as one.
-/
import Derived.Test.YtgnpnjfoenmfbaaBagAwake
/- Envelopes in a row, in memory. -/
namespace Go.Proofs.Ytgnpnjfoenmfbaa.Bg
open Go.RowKit Mem Dsk

theorem three {w : World} {g o : Nat} {x : Pn} (h : w.rangeAt g o (encN x)) : w.cell? ⟨g, o, none⟩ = some (.int .i64 x.e.f) ∧ w.cell? ⟨g, o + 1, none⟩ = some (.int .i64 x.e.t) ∧ w.cell? ⟨g, o + 2, none⟩ = some (.slice x.A x.e.bs.length x.c) :=
  ⟨h 0 _ rfl, h 1 _ rfl, h 2 _ rfl⟩
structure Envs (w : World) (A : Option Addr) (n c : Nat) (l : List Pn) : Prop where
  row : Rw LN w A n c l
  byt : ∀ x ∈ l, Rd w x.A x.e.bs.length x.c (cs x.e.bs)
theorem Envs.below {w w' : World} {A : Option Addr} {n c : Nat} {l : List Pn} (h : Envs w A n c l) (hb : Below w.heap.size w w') : Envs w' A n c l := ⟨h.row.below hb, fun x hx => (h.byt x hx).below hb⟩
theorem drop_erase (l : List En) (k : Nat) : (l.drop k).eraseIdx 0 = l.drop (k + 1) := by rw [List.eraseIdx_zero, List.tail_drop]
end Go.Proofs.Ytgnpnjfoenmfbaa.Bg
