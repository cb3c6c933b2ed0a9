/-
  Texts of earlier layers, as one.
-/
import Derived.Test.YtpalmnjapiijaaaCompHeap
import Derived.Test.YtpalmnjapiijaaaCompFrom
/- The program's heap of numbers in memory, and its methods. -/
namespace Go.Proofs.Ytpalmnjapiijaaa.Gr.Hq
open Go.RowKit Mem Dsk

/-- Only blocks of colours in K, and new ones, are turned. -/
structure Trn (K : Nat → Prop) (w : World) (col : Nat → Nat) (w' : World) (col' : Nat → Nat) : Prop where
  os : w'.os = w.os
  tape : w'.tape = w.tape
  output : w'.output = w.output
  size : w.heap.size ≤ w'.heap.size
  ext : ∀ b, col b ≠ 0 → col' b = col b
  new : ∀ b, col' b ≠ 0 → col b ≠ 0 ∨ (w.heap.size ≤ b ∧ b < w'.heap.size)
  blk : ∀ b, b < w.heap.size → ¬ K (col b) → w'.heap[b]? = w.heap[b]?
section
variable {K : Nat → Prop} {k k' B : Nat} {w w1 w' : World} {col col1 col' : Nat → Nat} {A : Option Addr} {n c : Nat} {l : List Int}
theorem Trn.of (h : Turns k w col w' col') (hk : K k) : Trn K w col w' col' := ⟨h.os, h.tape, h.output, h.size, h.ext, h.new, fun b hb hn => h.blk b hb fun e => hn (by rw [e]; exact hk)⟩
theorem Trn.ofBelow (h : Below w.heap.size w w') (K : Nat → Prop) (col : Nat → Nat) : Trn K w col w' col := ⟨h.os, h.tape, h.output, h.size, fun _ _ => rfl, fun _ h => .inl h, fun b hb _ => h.block b hb⟩
theorem Trn.refl (K : Nat → Prop) (w : World) (col : Nat → Nat) : Trn K w col w col := Trn.ofBelow (Below.refl _ _) K col
theorem Trn.trans (h : Trn K w col w1 col1) (g : Trn K w1 col1 w' col') (hk : ¬ K 0) : Trn K w col w' col' :=
  ⟨g.os.trans h.os, g.tape.trans h.tape, g.output.trans h.output, Nat.le_trans h.size g.size, fun b hb => (g.ext b (by rw [h.ext b hb]; exact hb)).trans (h.ext b hb), fun b hb => by
    rcases g.new b hb with h1 | ⟨h1, h2⟩
    · rcases h.new b h1 with h3 | ⟨h3, h4⟩
      · exact .inl h3
      · exact .inr ⟨h3, Nat.lt_of_lt_of_le h4 g.size⟩
    · exact .inr ⟨Nat.le_trans h.size h1, h2⟩, fun b hb hn => (g.blk b (Nat.lt_of_lt_of_le hb h.size) fun e => by
      by_cases hc : col b = 0
      · rcases h.new b (fun e0 => hk (by rw [← e0]; exact e)) with h3 | ⟨h3, _⟩
        · exact h3 hc
        · omega
      · rw [h.ext b hc] at e
        exact hn e).trans (h.blk b hb hn)⟩
theorem Trn.lo (h : Trn K w col w' col') (hl : Lo B w col) (hB : B ≤ w.heap.size) : Lo B w' col' := fun b hb => by
  rcases h.new b hb with h1 | ⟨h1, h2⟩
  · have := hl b h1
    exact ⟨this.1, Nat.lt_of_lt_of_le this.2 h.size⟩
  · exact ⟨Nat.le_trans hB h1, h2⟩
theorem Trn.below {w0 : World} (h : Trn K w col w' col') (hb : Below w0.heap.size w0 w) (hl : Lo w0.heap.size w col) (hk : ¬ K 0) : Below w0.heap.size w0 w' :=
  ⟨h.os.trans hb.os, h.tape.trans hb.tape, h.output.trans hb.output, Nat.le_trans hb.size h.size, fun b hlt => (h.blk b (Nat.lt_of_lt_of_le hlt hb.size) fun e => by
    by_cases hc : col b = 0
    · rw [hc] at e
      exact hk e
    · have := (hl b hc).1
      omega).trans (hb.block b hlt)⟩
theorem Trn.cl (h : Trn K w col w' col') {b q : Nat} (hb : col b = q) (hq : q ≠ 0) : col' b = q := by rw [h.ext b (by rw [hb]; exact hq), hb]
theorem Trn.hblk (h : Trn K w col w' col') {b q : Nat} {t : TypeId} {vs : Array Value} (hb : Blk w b t vs) (hq : col b = q) (hk : ¬ K q) : Blk w' b t vs := (h.blk b hb.lt (by rw [hq]; exact hk)).trans hb
theorem Trn.row (h : Trn K w col w' col') {b q m : Nat} {t : TypeId} {f : Nat → Value} (hb : w.rowIs b t m f) (hq : col b = q) (hk : ¬ K q) : w'.rowIs b t m f := hb.of_block (h.blk b hb.lt (by rw [hq]; exact hk))
theorem Trn.own (h : Trn K w col w' col') (ho : Own1 w B col k' A n c l) (hk : ¬ K k') (h0 : k' ≠ 0) : Own1 w' B col' k' A n c l :=
  ⟨own_keep ho.row fun q hq hlt => h.blk q hlt (by rw [ho.clr q hq]; exact hk), fun b hb => h.cl (ho.clr b hb) h0⟩
end
/-- The heap: the row's box's last field, and its numbers. -/
structure HN (w : World) (B : Nat) (col : Nat → Nat) (p : Nat) (x0 x1 x2 : Value) (A : Option Addr) (c : Nat) (h : List Nat) : Prop where
  lo : Lo B w col
  pc : col p = 1
  box : Blk w p 46 #[x0, x1, x2, .slice A h.length c]
  row : Own1 w B col 4 A h.length c (toZ h)
/-- The colours that the heap's calls turn. -/
def KH (q : Nat) : Prop := q = 1 ∨ q = 4
def K4 (q : Nat) : Prop := q = 4
section
variable {w w' : World} {B p c : Nat} {col : Nat → Nat} {x0 x1 x2 : Value} {A : Option Addr} {h : List Nat}
theorem HN.bel (ho : HN w B col p x0 x1 x2 A c h) (hb : Below w.heap.size w w') : HN w' B col p x0 x1 x2 A c h := by
  have t := Turns.ofBelow hb 9 col
  have h1 := ho.lo p (by rw [ho.pc]; omega)
  exact ⟨t.lo ho.lo (by omega), ho.pc, ho.box.bel hb, t.own ho.row (by omega) (by omega)⟩
theorem HN.cell (ho : HN w B col p x0 x1 x2 A c h) : w.cell? ⟨p, 3, none⟩ = some (.slice A h.length c) := by rw [ho.box.cell]; rfl
end
theorem G_cell {w : World} {B k : Nat} {col : Nat → Nat} {g o c : Nat} {h : List Nat} (hr : Own1 w B col k (some ⟨g, o, none⟩) h.length c (toZ h)) {i : Nat} (hi : i < h.length) : w.cell? ⟨g, o + i, none⟩ = some (.int .i64 (G h i : Int)) := by
  obtain ⟨g', o', z, e, _, hz, hc⟩ := int_at hr.rw_ hi
  cases e
  have : (toZ h)[i]? = some (G h i : Int) := by
    unfold toZ
    rw [List.getElem?_map, at_G hi]
    rfl
  rw [this] at hz
  cases hz
  exact hc
theorem own_off {w : World} {B k n c : Nat} {col : Nat → Nat} {A : Option Addr} {l : List Int} (hr : Own1 w B col k A n c l) (hn : 0 < n) : ∃ g, A = some ⟨g, 0, none⟩ ∧ col g = k ∧ g < w.heap.size := by
  rcases hr.row.2 with ⟨_, h0⟩ | ⟨g, cap, cur, e, _, hg, _⟩
  · omega
  · cases e
    exact ⟨g, rfl, hr.clr g rfl, (Array.getElem?_eq_some_iff.1 hg).1⟩
/-- The pointer to it. -/
def ptr3 (p : Nat) : Value := .pointer (some ⟨p, 3, none⟩)
def ifc (p : Nat) : Value := .iface 50 (ptr3 p)
theorem meth_val {p : Nat} {A : Option Addr} {n c : Nat} (nm : String) (f : FuncId) (hm : ∀ m w, (method (m + 1) 50 (.pointer (some ⟨p, 3, none⟩)) nm).run Try.prog w = (do let v ← loadVar 44 ⟨p, 3, none⟩; pure (f, v) : Sem (FuncId × Value)).run Try.prog w) :
    ∀ m w, w.cell? ⟨p, 3, none⟩ = some (.slice A n c) → (method (m + 1) 50 (.pointer (some ⟨p, 3, none⟩)) nm).run Try.prog w = .ok (f, .slice A n c) w := fun m w hc => by
  rw [hm]
  go_simp
theorem meth_less (p : Nat) : ∀ m w, (method (m + 1) 50 (.pointer (some ⟨p, 3, none⟩)) "Less").run Try.prog w = (do let v ← loadVar 44 ⟨p, 3, none⟩; pure (45, v) : Sem (FuncId × Value)).run Try.prog w := fun m w => by kernel_rfl
theorem meth_swap (p : Nat) : ∀ m w, (method (m + 1) 50 (.pointer (some ⟨p, 3, none⟩)) "Swap").run Try.prog w = (do let v ← loadVar 44 ⟨p, 3, none⟩; pure (46, v) : Sem (FuncId × Value)).run Try.prog w := fun m w => by kernel_rfl
theorem meth_len (p : Nat) : ∀ m w, (method (m + 1) 50 (.pointer (some ⟨p, 3, none⟩)) "Len").run Try.prog w = (do let v ← loadVar 44 ⟨p, 3, none⟩; pure (23, v) : Sem (FuncId × Value)).run Try.prog w := fun m w => by kernel_rfl
theorem meth_push (p : Nat) : ∀ m w, (method (m + 1) 50 (.pointer (some ⟨p, 3, none⟩)) "Push").run Try.prog w = .ok (48, .pointer (some ⟨p, 3, none⟩)) w := fun m w => by kernel_rfl
theorem meth_pop (p : Nat) : ∀ m w, (method (m + 1) 50 (.pointer (some ⟨p, 3, none⟩)) "Pop").run Try.prog w = .ok (47, .pointer (some ⟨p, 3, none⟩)) w := fun m w => by kernel_rfl
end Go.Proofs.Ytpalmnjapiijaaa.Gr.Hq
