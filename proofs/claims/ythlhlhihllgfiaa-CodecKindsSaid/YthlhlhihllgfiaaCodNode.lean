/-
  Trees of nodes in memory ('IsNode'); worlds that have kept all blocks but one.
-/
import Derived.Test.YthlhlhihllgfiaaCodText
import Derived.Deep.AppendLies
namespace Go.Proofs.Ythlhlhihllgfiaa.Cod
open Go.RowKit Mem

/-- What the value of a right item's node looks like. -/
def Shape (x : It) (v : Value) : Prop :=
  (x = .mk 0 x.num ByteArray.empty [] ∧ x.num ≤ 18446744073709551615 ∧ v = .iface 75 (.int .u64 (x.num : Int))) ∨
  (x = .mk 1 0 x.str [] ∧ x.str.size ≤ 140737488355328 ∧ v = .iface 76 (.string x.str)) ∨
  (x = .mk 2 0 ByteArray.empty x.kids ∧ ∃ A c, v = .iface 78 (.slice A x.kids.length c) ∧ x.kids.length ≤ c ∧ c ≤ maxLen ∧ (A = none → c = 0))

/-- The value v is the tree of the right item x, in blocks of S. -/
def IsNode (w : World) (S : Nat → Prop) (x : It) (v : Value) : Prop :=
  Shape x v ∧ ∀ i, (h : i < x.kids.length) → ∃ ad c u, v = .iface 78 (.slice (some ad) x.kids.length c) ∧ S ad.block ∧ ad.block < w.heap.size ∧ w.cell? (ad.add i) = some u ∧ IsNode w S x.kids[i] u
termination_by wt x
decreasing_by exact wt_kid h

theorem node_eq (w : World) (S : Nat → Prop) (x : It) (v : Value) : IsNode w S x v ↔
    Shape x v ∧ ∀ i, (h : i < x.kids.length) → ∃ ad c u, v = .iface 78 (.slice (some ad) x.kids.length c) ∧ S ad.block ∧ ad.block < w.heap.size ∧ w.cell? (ad.add i) = some u ∧ IsNode w S x.kids[i] u := by
  conv => lhs; unfold IsNode

theorem IsNode.keep {w w' : World} {S S' : Nat → Prop} (x : It) : ∀ {v : Value}, IsNode w S x v → (∀ b, S b → b < w.heap.size → S' b) → w.heap.size ≤ w'.heap.size →
    (∀ b, S b → b < w.heap.size → w'.heap[b]? = w.heap[b]?) → IsNode w' S' x v := by
  induction x using It.ind with
  | h x ih =>
  intro v h hS hs hk
  rw [node_eq] at h ⊢
  refine ⟨h.1, fun i hi => ?_⟩
  obtain ⟨ad, c, u, e, hb, hlt, hc, hn⟩ := h.2 i hi
  exact ⟨ad, c, u, e, hS _ hb hlt, by omega, (World.cell?_of_block (by rw [add_block]; exact hk _ hb hlt)).trans hc, ih _ (List.getElem_mem hi) hn hS hs hk⟩
theorem IsNode.grown {w w' : World} {S S' : Nat → Prop} {x : It} {v : Value} {g : Option Nat} (h : IsNode w S x v) (hg : w.grownBy w' g) (hS : ∀ b, S b → b < w.heap.size → some b ≠ g ∧ S' b) : IsNode w' S' x v :=
  h.keep x (fun b hb hlt => (hS b hb hlt).2) hg.size fun b hb hlt => hg.block b hlt (hS b hb hlt).1
theorem IsNode.below {w w' : World} {S S' : Nat → Prop} {x : It} {v : Value} {B : Nat} (h : IsNode w S x v) (hb : Below B w w') (hS : ∀ b, S b → b < w.heap.size → b < B ∧ S' b) : IsNode w' S' x v :=
  h.keep x (fun b hb hlt => (hS b hb hlt).2) hb.size fun b hs hlt => hb.block b (hS b hs hlt).1
theorem IsNode.iface {w : World} {S : Nat → Prop} {x : It} {v : Value} (h : IsNode w S x v) : ∃ t p, v = .iface t p := by
  rw [node_eq] at h
  rcases h.1 with ⟨_, _, e⟩ | ⟨_, _, e⟩ | ⟨_, A, c, e, _⟩ <;> exact ⟨_, _, e⟩
theorem IsNode.right {w : World} {S : Nat → Prop} {x : It} {v : Value} (h : IsNode w S x v) : formed x = true := by
  rw [node_eq] at h
  rcases h.1 with ⟨e, _⟩ | ⟨e, _⟩ | ⟨e, _⟩ <;> rw [e] <;> simp [formed, It.kind, It.num, It.str, It.kids]

section
variable {a w w' : World} {r : Option Nat} {g : Nat}
theorem gr_refl (w : World) (r : Option Nat) : w.grownBy w r := ⟨rfl, rfl, rfl, Nat.le_refl _, fun _ _ _ => rfl⟩
theorem gr_alloc (h : a.grownBy w r) (o : Obj) : a.grownBy (w.alloc o) r :=
  ⟨h.os, h.tape, h.output, Nat.le_trans h.size (by simp), fun i hi hne => (Below.heap_alloc w o i (Nat.lt_of_lt_of_le hi h.size)).trans (h.block i hi hne)⟩
theorem gr_drew (h : a.grownBy w r) : a.grownBy w.drew r := ⟨h.os, h.tape, h.output, h.size, h.block⟩
theorem gr_drewN (h : a.grownBy w r) (n : Nat) : a.grownBy (w.drewN n) r := ⟨h.os, h.tape, h.output, h.size, h.block⟩
/-- A step that touches at most one block, which is the one that may be touched, or new. -/
theorem gr_step {q : Option Nat} (h : a.grownBy w r) (k : w.grownBy w' q) (hq : ∀ b, q = some b → a.heap.size ≤ b ∨ r = some b) : a.grownBy w' r :=
  ⟨k.os.trans h.os, k.tape.trans h.tape, k.output.trans h.output, Nat.le_trans h.size k.size, fun i hi hne => (k.block i (Nat.lt_of_lt_of_le hi h.size) (fun e => by
    rcases hq i e.symm with h1 | h1
    · omega
    · exact hne h1.symm)).trans (h.block i hi hne)⟩
theorem gr_bel (h : a.grownBy w r) (k : Below w.heap.size w w') : a.grownBy w' r :=
  ⟨k.os.trans h.os, k.tape.trans h.tape, k.output.trans h.output, Nat.le_trans h.size k.size, fun i hi hne => (k.block i (Nat.lt_of_lt_of_le hi h.size)).trans (h.block i hi hne)⟩
theorem gr_set (h : a.grownBy w r) {p : Addr} (hp : some p.block = r ∨ a.heap.size ≤ p.block) (u : Value) : a.grownBy (w.setCell p u) r :=
  ⟨h.os, h.tape, h.output, by simpa [World.setCell] using h.size, fun i hi hne => (Below.heap_setCell w p u i (by
    rintro rfl
    rcases hp with hp | hp
    · exact hne hp
    · omega)).trans (h.block i hi hne)⟩
theorem gr_below {B : Nat} (h : w.grownBy w' r) (hB : B ≤ w.heap.size) (hr : ∀ b, r = some b → B ≤ b) : Below B w w' :=
  ⟨h.os, h.tape, h.output, h.size, fun i hi => h.block i (by omega) (fun e => by have := hr i e.symm; omega)⟩
theorem below_gr (h : Below w.heap.size w w') (r : Option Nat) : w.grownBy w' r := ⟨h.os, h.tape, h.output, h.size, fun i hi _ => h.block i hi⟩
end

/-- The planter's cell. -/
def Plan (w : World) (g : Nat) (s : Nat) : Prop := Blk w g 53 #[.int .i64 (s : Int)]
/-- What is thrown. -/
def flt (e p : Nat) : List PanicEntry := [{ v := .iface 50 (.agg #[.int .i64 (e : Int), .int .i64 (p : Int)]), recovered := false }]

end Go.Proofs.Ythlhlhihllgfiaa.Cod
