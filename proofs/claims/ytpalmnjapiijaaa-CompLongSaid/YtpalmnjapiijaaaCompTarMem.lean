/-
  Texts of earlier layers, as one.
-/
import Derived.Test.YtpalmnjapiijaaaCompTar
import Derived.Test.YtpalmnjapiijaaaCompRefComps
/- Blocks by colours, of no program: which are the call's own and what part of it; what a turn of one colour keeps. The walk in memory. -/
namespace Go.Proofs.Ytpalmnjapiijaaa.Gr
open Go.RowKit Mem Dsk

def ptr (p : Nat) : Value := .pointer (some ⟨p, 0, none⟩)
/-- Only blocks of colour k, and new ones, are turned. -/
structure Turns (k : Nat) (w : World) (col : Nat → Nat) (w' : World) (col' : Nat → Nat) : Prop where
  os : w'.os = w.os
  tape : w'.tape = w.tape
  output : w'.output = w.output
  size : w.heap.size ≤ w'.heap.size
  ext : ∀ b, col b ≠ 0 → col' b = col b
  new : ∀ b, col' b ≠ 0 → col b ≠ 0 ∨ (w.heap.size ≤ b ∧ b < w'.heap.size)
  blk : ∀ b, b < w.heap.size → col b ≠ k → w'.heap[b]? = w.heap[b]?
/-- The call's own blocks. -/
def Lo (B : Nat) (w : World) (col : Nat → Nat) : Prop := ∀ b, col b ≠ 0 → B ≤ b ∧ b < w.heap.size
/-- A row of ints of the call's own, of colour k. -/
structure Own1 (w : World) (B : Nat) (col : Nat → Nat) (k : Nat) (A : Option Addr) (n c : Nat) (l : List Int) : Prop where
  row : w.ownsRow B 3 LN.s (.slice A n c) n (LN.flat l)
  clr : ∀ b, (Value.slice A n c).ownBlock = some b → col b = k
section
variable {k k' B : Nat} {w w1 w' : World} {col col1 col' : Nat → Nat} {A : Option Addr} {n c : Nat} {l : List Int}
theorem Turns.refl (k : Nat) (w : World) (col : Nat → Nat) : Turns k w col w col := ⟨rfl, rfl, rfl, Nat.le_refl _, fun _ _ => rfl, fun _ h => .inl h, fun _ _ _ => rfl⟩
theorem Turns.ofBelow (h : Below w.heap.size w w') (k : Nat) (col : Nat → Nat) : Turns k w col w' col := ⟨h.os, h.tape, h.output, h.size, fun _ _ => rfl, fun _ h => .inl h, fun b hb _ => h.block b hb⟩
theorem Turns.set {b i : Nat} (h : col b = k) (v : Value) : Turns k w col (w.setCell ⟨b, i, none⟩ v) col :=
  ⟨rfl, rfl, rfl, by simp, fun _ _ => rfl, fun _ h => .inl h, fun q _ hn => Below.heap_setCell w ⟨b, i, none⟩ v q fun e => hn (by have e : q = b := e; rw [e, h])⟩
theorem Turns.trans (h : Turns k w col w1 col1) (g : Turns k w1 col1 w' col') (hk : k ≠ 0) : Turns k w col w' col' :=
  ⟨g.os.trans h.os, g.tape.trans h.tape, g.output.trans h.output, Nat.le_trans h.size g.size, fun b hb => (g.ext b (by rw [h.ext b hb]; exact hb)).trans (h.ext b hb), fun b hb => by
    rcases g.new b hb with h1 | ⟨h1, h2⟩
    · rcases h.new b h1 with h3 | ⟨h3, h4⟩
      · exact .inl h3
      · exact .inr ⟨h3, Nat.lt_of_lt_of_le h4 g.size⟩
    · exact .inr ⟨Nat.le_trans h.size h1, h2⟩, fun b hb hn => (g.blk b (Nat.lt_of_lt_of_le hb h.size) fun e => by
      by_cases hc : col b = 0
      · rcases h.new b (by rw [e]; exact hk) with h3 | ⟨h3, _⟩
        · exact h3 hc
        · omega
      · exact hn ((h.ext b hc).symm.trans e)).trans (h.blk b hb hn)⟩
theorem Turns.lo (h : Turns k w col w' col') (hl : Lo B w col) (hB : B ≤ w.heap.size) : Lo B w' col' := fun b hb => by
  rcases h.new b hb with h1 | ⟨h1, h2⟩
  · have := hl b h1
    exact ⟨this.1, Nat.lt_of_lt_of_le this.2 h.size⟩
  · exact ⟨Nat.le_trans hB h1, h2⟩
theorem Turns.below {w0 : World} (h : Turns k w col w' col') (hb : Below w0.heap.size w0 w) (hl : Lo w0.heap.size w col) (hk : k ≠ 0) : Below w0.heap.size w0 w' :=
  ⟨h.os.trans hb.os, h.tape.trans hb.tape, h.output.trans hb.output, Nat.le_trans hb.size h.size, fun b hlt => (h.blk b (Nat.lt_of_lt_of_le hlt hb.size) fun e => by
    have := (hl b (by rw [e]; exact hk)).1
    omega).trans (hb.block b hlt)⟩
theorem Turns.cl (h : Turns k w col w' col') {b q : Nat} (hb : col b = q) (hq : q ≠ 0) : col' b = q := by rw [h.ext b (by rw [hb]; exact hq), hb]
theorem Turns.hblk (h : Turns k w col w' col') {b q : Nat} {t : TypeId} {vs : Array Value} (hb : Blk w b t vs) (hq : col b = q) (hk : q ≠ k) : Blk w' b t vs := (h.blk b hb.lt (by rw [hq]; exact hk)).trans hb
theorem Turns.row (h : Turns k w col w' col') {b q m : Nat} {t : TypeId} {f : Nat → Value} (hb : w.rowIs b t m f) (hq : col b = q) (hk : q ≠ k) : w'.rowIs b t m f := hb.of_block (h.blk b hb.lt (by rw [hq]; exact hk))
theorem Turns.own (h : Turns k w col w' col') (ho : Own1 w B col k' A n c l) (hk : k' ≠ k) (h0 : k' ≠ 0) : Own1 w' B col' k' A n c l :=
  ⟨own_keep ho.row fun q hq hlt => h.blk q hlt (by rw [ho.clr q hq]; exact hk), fun b hb => h.cl (ho.clr b hb) h0⟩
theorem Own1.nil (w : World) (B : Nat) (col : Nat → Nat) (k : Nat) : Own1 w B col k none 0 0 [] := ⟨⟨rfl, .inl ⟨rfl, rfl⟩⟩, fun b h => by cases h⟩
theorem own_block {A : Option Addr} {n c m d : Nat} : (Value.slice A n c).ownBlock = (Value.slice A m d).ownBlock := by cases A <;> rfl
theorem ownsRow_take {e : TypeId} {s m : Nat} {xs : List Value} (h : w.ownsRow B e s (.slice A n c) n xs) (hm : m ≤ n) : w.ownsRow B e s (.slice A m c) m (xs.take (m * s)) := by
  have h1 := h.1
  have hle : m * s ≤ n * s := Nat.mul_le_mul_right _ hm
  refine ⟨by rw [List.length_take, h1]; omega, ?_⟩
  rcases h.2 with ⟨e1, e2⟩ | ⟨g, cap, cur, e1, hb, hg, hnc, hcm, hs, ht⟩
  · cases e1
    have : m = 0 := by omega
    subst this
    exact .inl ⟨rfl, rfl⟩
  · cases e1
    refine .inr ⟨g, c, cur, rfl, hb, hg, by omega, hcm, hs, ?_⟩
    rw [← ht, List.take_take, Nat.min_eq_left hle]
theorem Own1.take (h : Own1 w B col k A n c l) {m : Nat} (hm : m ≤ n) : Own1 w B col k A m c (l.take m) :=
  ⟨by rw [← flat_take]; exact ownsRow_take h.row hm, fun b hb => h.clr b (by rw [← hb]; exact own_block)⟩
theorem Own1.len (h : Own1 w B col k A n c l) : l.length = n := (Rw.own (L := LN) h.row).len
theorem Own1.rw_ (h : Own1 w B col k A n c l) : Rw LN w A n c l := Rw.own (L := LN) h.row
/-- An append onto such a row, behind a literal. -/
theorem Own1.push {V : Option Addr} {c' : Nat} {x : Int} (h : Own1 w B col k A n c l) (hlo : Lo B w col) (hb : Below w.heap.size w w1) (hown : w'.ownsRow B 3 LN.s (.slice V (n + 1) c') (n + 1) (LN.flat (l ++ [x]))) (hg : w1.grownBy w' (Value.slice A n c).ownBlock)
    (hloc : (Value.slice V (n + 1) c').ownBlock = (Value.slice A n c).ownBlock ∨ (Value.slice V (n + 1) c').ownBlock = some w1.heap.size) : ∃ col', Turns k w col w' col' ∧ Own1 w' B col' k V (n + 1) c' (l ++ [x]) := by
  have hblk : ∀ b, b < w.heap.size → col b ≠ k → w'.heap[b]? = w.heap[b]? := fun b hlt hn => (hg.block b (Nat.lt_of_lt_of_le hlt hb.size) fun e => hn (h.clr b e.symm)).trans (hb.block b hlt)
  have hos := hg.os.trans hb.os
  have hta := hg.tape.trans hb.tape
  have hou := hg.output.trans hb.output
  have hsz := Nat.le_trans hb.size hg.size
  rcases hloc with h1 | h1
  · exact ⟨col, ⟨hos, hta, hou, hsz, fun _ _ => rfl, fun _ h => .inl h, hblk⟩, hown, fun b hb' => h.clr b (h1.symm.trans hb')⟩
  · refine ⟨upd col w1.heap.size k, ⟨hos, hta, hou, hsz, fun b hb' => upd_other (by have := (hlo b hb').2; have := hb.size; omega), fun b hb' => ?_, hblk⟩, hown, fun b hb' => ?_⟩
    · by_cases e : b = w1.heap.size
      · right
        rw [e]
        exact ⟨hb.size, (hown.lt _ h1).2⟩
      · rw [upd_other e] at hb'
        exact .inl hb'
    · rw [h1] at hb'
      injection hb' with e
      rw [← e, upd_same]
end
theorem cne {col : Nat → Nat} {a b i j : Nat} (h1 : col a = i) (h2 : col b = j) (h : i ≠ j) : a ≠ b := fun e => h (by rw [← h1, e, h2])
abbrev tb (b n : Nat) : Value := .slice (some ⟨b, 0, none⟩) n n
def nrow (f : Nat → Nat) : Nat → Value := fun v => .int .i64 ((f v : Nat) : Int)
/-- The program's walk in memory. -/
structure TM (w0 : World) (A : Option Addr) (n c p bo bf bl bg : Nat) (w : World) (col : Nat → Nat) (Ap : Option Addr) (cp : Nat) (Ao : Option Addr) (co : Nat) (s : TS) : Prop where
  bel : Below w0.heap.size w0 w
  lo : Lo w0.heap.size w col
  pc : col p = 1
  oc : col bo = 2
  fc : col bf = 3
  lc : col bl = 4
  gc : col bg = 5
  box : Blk w p 36 #[.slice A n c, .slice Ap s.path.length cp, .slice Ao s.opn.length co, .int .i64 (s.count : Int), .int .i64 (s.comps : Int), .slice (some ⟨bo, 0, none⟩) n n, .slice (some ⟨bf, 0, none⟩) n n, .slice (some ⟨bl, 0, none⟩) n n, .slice (some ⟨bg, 0, none⟩) n n]
  of : w.rowIs bo 3 n (nrow s.of)
  fnd : w.rowIs bf 3 n (nrow s.fnd)
  low : w.rowIs bl 3 n (nrow s.low)
  gone : w.rowIs bg 3 n (nrow s.gone)
  path : Own1 w w0.heap.size col 6 Ap s.path.length cp (toZ s.path)
  opn : Own1 w w0.heap.size col 7 Ao s.opn.length co (toZ s.opn)
section
variable {w0 w w1 w' : World} {A : Option Addr} {n c p bo bf bl bg : Nat} {col col' : Nat → Nat} {Ap Ao : Option Addr} {cp co : Nat} {s : TS}
theorem TM.turn (h : TM w0 A n c p bo bf bl bg w col Ap cp Ao co s) (hb : Below w.heap.size w w') : TM w0 A n c p bo bf bl bg w' col Ap cp Ao co s := by
  have t := fun k => Turns.ofBelow hb k col
  exact ⟨(t 9).below h.bel h.lo (by omega), (t 9).lo h.lo h.bel.size, h.pc, h.oc, h.fc, h.lc, h.gc, (t 9).hblk h.box h.pc (by omega), (t 9).row h.of h.oc (by omega), (t 9).row h.fnd h.fc (by omega), (t 9).row h.low h.lc (by omega), (t 9).row h.gone h.gc (by omega), (t 9).own h.path (by omega) (by omega), (t 9).own h.opn (by omega) (by omega)⟩
theorem nrow_set {b m j x : Nat} {f : Nat → Nat} (h : w.rowIs b 3 m (nrow f)) : (w.setCell ⟨b, j, none⟩ (.int .i64 (x : Int))).rowIs b 3 m (nrow (upd f j x)) := by
  refine (h.set j _).congr fun i _ => ?_
  unfold nrow upd
  by_cases e : i = j
  · rw [if_pos e, if_pos e]
  · rw [if_neg e, if_neg e]
theorem TM.setOf (h : TM w0 A n c p bo bf bl bg w col Ap cp Ao co s) (j x : Nat) : TM w0 A n c p bo bf bl bg (w.setCell ⟨bo, j, none⟩ (.int .i64 (x : Int))) col Ap cp Ao co { s with of := upd s.of j x } := by
  have t : Turns 2 w col _ col := Turns.set (w := w) (i := j) h.oc (.int .i64 (x : Int))
  exact ⟨t.below h.bel h.lo (by omega), t.lo h.lo h.bel.size, h.pc, h.oc, h.fc, h.lc, h.gc, t.hblk h.box h.pc (by omega), nrow_set h.of, t.row h.fnd h.fc (by omega), t.row h.low h.lc (by omega), t.row h.gone h.gc (by omega), t.own h.path (by omega) (by omega), t.own h.opn (by omega) (by omega)⟩
theorem TM.setFnd (h : TM w0 A n c p bo bf bl bg w col Ap cp Ao co s) (j x : Nat) : TM w0 A n c p bo bf bl bg (w.setCell ⟨bf, j, none⟩ (.int .i64 (x : Int))) col Ap cp Ao co { s with fnd := upd s.fnd j x } := by
  have t : Turns 3 w col _ col := Turns.set (w := w) (i := j) h.fc (.int .i64 (x : Int))
  exact ⟨t.below h.bel h.lo (by omega), t.lo h.lo h.bel.size, h.pc, h.oc, h.fc, h.lc, h.gc, t.hblk h.box h.pc (by omega), t.row h.of h.oc (by omega), nrow_set h.fnd, t.row h.low h.lc (by omega), t.row h.gone h.gc (by omega), t.own h.path (by omega) (by omega), t.own h.opn (by omega) (by omega)⟩
theorem TM.setLow (h : TM w0 A n c p bo bf bl bg w col Ap cp Ao co s) (j x : Nat) : TM w0 A n c p bo bf bl bg (w.setCell ⟨bl, j, none⟩ (.int .i64 (x : Int))) col Ap cp Ao co { s with low := upd s.low j x } := by
  have t : Turns 4 w col _ col := Turns.set (w := w) (i := j) h.lc (.int .i64 (x : Int))
  exact ⟨t.below h.bel h.lo (by omega), t.lo h.lo h.bel.size, h.pc, h.oc, h.fc, h.lc, h.gc, t.hblk h.box h.pc (by omega), t.row h.of h.oc (by omega), t.row h.fnd h.fc (by omega), nrow_set h.low, t.row h.gone h.gc (by omega), t.own h.path (by omega) (by omega), t.own h.opn (by omega) (by omega)⟩
theorem TM.setGone (h : TM w0 A n c p bo bf bl bg w col Ap cp Ao co s) (j x : Nat) : TM w0 A n c p bo bf bl bg (w.setCell ⟨bg, j, none⟩ (.int .i64 (x : Int))) col Ap cp Ao co { s with gone := upd s.gone j x } := by
  have t : Turns 5 w col _ col := Turns.set (w := w) (i := j) h.gc (.int .i64 (x : Int))
  exact ⟨t.below h.bel h.lo (by omega), t.lo h.lo h.bel.size, h.pc, h.oc, h.fc, h.lc, h.gc, t.hblk h.box h.pc (by omega), t.row h.of h.oc (by omega), t.row h.fnd h.fc (by omega), t.row h.low h.lc (by omega), nrow_set h.gone, t.own h.path (by omega) (by omega), t.own h.opn (by omega) (by omega)⟩
theorem TM.setCount (h : TM w0 A n c p bo bf bl bg w col Ap cp Ao co s) (x : Nat) : TM w0 A n c p bo bf bl bg (w.setCell ⟨p, 3, none⟩ (.int .i64 (x : Int))) col Ap cp Ao co { s with count := x } := by
  have t : Turns 1 w col _ col := Turns.set (w := w) (i := 3) h.pc (.int .i64 (x : Int))
  exact ⟨t.below h.bel h.lo (by omega), t.lo h.lo h.bel.size, h.pc, h.oc, h.fc, h.lc, h.gc, by simpa using h.box.put 3 (.int .i64 (x : Int)), t.row h.of h.oc (by omega), t.row h.fnd h.fc (by omega), t.row h.low h.lc (by omega), t.row h.gone h.gc (by omega), t.own h.path (by omega) (by omega), t.own h.opn (by omega) (by omega)⟩
theorem TM.setComps (h : TM w0 A n c p bo bf bl bg w col Ap cp Ao co s) (x : Nat) : TM w0 A n c p bo bf bl bg (w.setCell ⟨p, 4, none⟩ (.int .i64 (x : Int))) col Ap cp Ao co { s with comps := x } := by
  have t : Turns 1 w col _ col := Turns.set (w := w) (i := 4) h.pc (.int .i64 (x : Int))
  exact ⟨t.below h.bel h.lo (by omega), t.lo h.lo h.bel.size, h.pc, h.oc, h.fc, h.lc, h.gc, by simpa using h.box.put 4 (.int .i64 (x : Int)), t.row h.of h.oc (by omega), t.row h.fnd h.fc (by omega), t.row h.low h.lc (by omega), t.row h.gone h.gc (by omega), t.own h.path (by omega) (by omega), t.own h.opn (by omega) (by omega)⟩
/-- The path is another row of its colour. -/
theorem TM.setPath {V : Option Addr} {c' : Nat} {P : List Nat} (h : TM w0 A n c p bo bf bl bg w col Ap cp Ao co s) (t1 : Turns 6 w col w1 col') (ho : Own1 w1 w0.heap.size col' 6 V P.length c' (toZ P)) :
    TM w0 A n c p bo bf bl bg (w1.setCell ⟨p, 1, none⟩ (.slice V P.length c')) col' V c' Ao co { s with path := P } := by
  have pc := t1.cl h.pc (by omega)
  have t : Turns 1 w1 col' _ col' := Turns.set (w := w1) (i := 1) pc (.slice V P.length c')
  have l1 := t1.lo h.lo h.bel.size
  have b1 := t1.below h.bel h.lo (by omega)
  have hx := (t1.hblk h.box h.pc (by omega)).put 1 (.slice V P.length c')
  exact ⟨t.below b1 l1 (by omega), t.lo l1 b1.size, pc, t1.cl h.oc (by omega), t1.cl h.fc (by omega), t1.cl h.lc (by omega), t1.cl h.gc (by omega), by simpa using hx, t.row (t1.row h.of h.oc (by omega)) (t1.cl h.oc (by omega)) (by omega), t.row (t1.row h.fnd h.fc (by omega)) (t1.cl h.fc (by omega)) (by omega), t.row (t1.row h.low h.lc (by omega)) (t1.cl h.lc (by omega)) (by omega), t.row (t1.row h.gone h.gc (by omega)) (t1.cl h.gc (by omega)) (by omega),
    t.own ho (by omega) (by omega), t.own (t1.own h.opn (by omega) (by omega)) (by omega) (by omega)⟩
theorem TM.setOpn {V : Option Addr} {c' : Nat} {P : List Nat} (h : TM w0 A n c p bo bf bl bg w col Ap cp Ao co s) (t1 : Turns 7 w col w1 col') (ho : Own1 w1 w0.heap.size col' 7 V P.length c' (toZ P)) :
    TM w0 A n c p bo bf bl bg (w1.setCell ⟨p, 2, none⟩ (.slice V P.length c')) col' Ap cp V c' { s with opn := P } := by
  have pc := t1.cl h.pc (by omega)
  have t : Turns 1 w1 col' _ col' := Turns.set (w := w1) (i := 2) pc (.slice V P.length c')
  have l1 := t1.lo h.lo h.bel.size
  have b1 := t1.below h.bel h.lo (by omega)
  have hx := (t1.hblk h.box h.pc (by omega)).put 2 (.slice V P.length c')
  exact ⟨t.below b1 l1 (by omega), t.lo l1 b1.size, pc, t1.cl h.oc (by omega), t1.cl h.fc (by omega), t1.cl h.lc (by omega), t1.cl h.gc (by omega), by simpa using hx, t.row (t1.row h.of h.oc (by omega)) (t1.cl h.oc (by omega)) (by omega), t.row (t1.row h.fnd h.fc (by omega)) (t1.cl h.fc (by omega)) (by omega), t.row (t1.row h.low h.lc (by omega)) (t1.cl h.lc (by omega)) (by omega), t.row (t1.row h.gone h.gc (by omega)) (t1.cl h.gc (by omega)) (by omega),
    t.own (t1.own h.path (by omega) (by omega)) (by omega) (by omega), t.own ho (by omega) (by omega)⟩
/-- The box's cells. -/
theorem TM.cells (h : TM w0 A n c p bo bf bl bg w col Ap cp Ao co s) : w.cell? ⟨p, 0, none⟩ = some (.slice A n c) ∧ w.cell? ⟨p, 1, none⟩ = some (.slice Ap s.path.length cp) ∧ w.cell? ⟨p, 2, none⟩ = some (.slice Ao s.opn.length co) ∧ w.cell? ⟨p, 3, none⟩ = some (.int .i64 (s.count : Int)) ∧
    w.cell? ⟨p, 4, none⟩ = some (.int .i64 (s.comps : Int)) ∧ w.cell? ⟨p, 5, none⟩ = some (.slice (some ⟨bo, 0, none⟩) n n) ∧ w.cell? ⟨p, 6, none⟩ = some (.slice (some ⟨bf, 0, none⟩) n n) ∧ w.cell? ⟨p, 7, none⟩ = some (.slice (some ⟨bl, 0, none⟩) n n) ∧ w.cell? ⟨p, 8, none⟩ = some (.slice (some ⟨bg, 0, none⟩) n n) :=
  ⟨by rw [h.box.cell]; rfl, by rw [h.box.cell]; rfl, by rw [h.box.cell]; rfl, by rw [h.box.cell]; rfl, by rw [h.box.cell]; rfl, by rw [h.box.cell]; rfl, by rw [h.box.cell]; rfl, by rw [h.box.cell]; rfl, by rw [h.box.cell]; rfl⟩
theorem TM.soft (h : TM w0 A n c p bo bf bl bg w col Ap cp Ao co s) (i : Nat) : w.frozen? ⟨p, i, none⟩ = false := h.box.soft i
end
/-- 'append(v, j)', v such a row, j's literal made ahead of it. -/
theorem push_at {k B a : Nat} {w w1 : World} {col : Nat → Nat} {A : Option Addr} {n c : Nat} {l : List Nat} {t : TypeId} {j : Nat} (ht : Try.prog.underlying t = some (.slice 3)) (h : Own1 w B col k A n c (toZ l)) (hlo : Lo B w col) (hB : B ≤ w.heap.size) (hn : n ≤ 1000000) (ty : TypeId) (hb : Below w.heap.size w w1) (hlit : Rw LN w1 (some ⟨a, 0, none⟩) 1 1 [(j : Int)]) :
    ∃ V c' w' col', (Builtin.append_ #[t, t] ty #[.slice A n c, .slice (some ⟨a, 0, none⟩) 1 1]).run Try.prog w1 = .ok (.slice V (n + 1) c') w' ∧ Turns k w col w' col' ∧ Own1 w' B col' k V (n + 1) c' (toZ (l ++ [j])) := by
  obtain ⟨i0, hi, hz0, hz1, hz2⟩ := info_parts info_int
  obtain ⟨V, c', u3, hrun, hown, hgr, hloc⟩ := run_append_rw (L := LN) (ty := ty) (bytes := 8) ht hi hz0 hz1 hz2 rfl (ownsRow_below h.row hb) hlit (by unfold maxLen; omega) (by omega) (Nat.le_trans hB hb.size)
  obtain ⟨col', ht', ho'⟩ := h.push hlo hb hown hgr hloc
  exact ⟨V, c', u3, col', hrun, ht', by rw [toZ_append]; exact ho'⟩
/-- 'append(v, j)', v such a row. -/
theorem push_run {k B : Nat} {w : World} {col : Nat → Nat} {A : Option Addr} {n c : Nat} {l : List Nat} {t : TypeId} (ht : Try.prog.underlying t = some (.slice 3)) (h : Own1 w B col k A n c (toZ l)) (hlo : Lo B w col) (hB : B ≤ w.heap.size) (hn : n ≤ 1000000) (ty : TypeId) (j : Nat) :
    ∃ V c' w' col', (Builtin.append_ #[t, t] ty #[.slice A n c, .slice (some ⟨w.heap.size, 0, none⟩) 1 1]).run Try.prog (w.alloc (.cells #[.int .i64 (j : Int)] 3)) = .ok (.slice V (n + 1) c') w' ∧ Turns k w col w' col' ∧ Own1 w' B col' k V (n + 1) c' (toZ (l ++ [j])) :=
  push_at ht h hlo hB hn ty (bel_alloc (Below.refl _ _) _) (Rw.lit (L := LN) w (j : Int) 3)
/-- What a call leaves of the walk. -/
def Left (w0 : World) (A : Option Addr) (n c p bo bf bl bg : Nat) (s : TS) (x : Ending) (w : World) : Prop := x = .returned (.tuple #[]) ∧ ∃ col Ap cp Ao co, TM w0 A n c p bo bf bl bg w col Ap cp Ao co s
end Go.Proofs.Ytpalmnjapiijaaa.Gr
