/-
  Texts of earlier layers, as one.
-/
import Derived.Test.YtgnpnjfoenmfbaaBagPlain
import Derived.Test.YtgnpnjfoenmfbaaRBase
/- The program's bag in memory: its box, its row of entries, of each entry a row of bytes; what keeps it, and what a step makes of it. -/
namespace Go.Proofs.Ytgnpnjfoenmfbaa.Bg
open Go.RowKit Mem Dsk

def ptr (p : Nat) : Value := .pointer (some ⟨p, 0, none⟩)
/-- The row's block. -/
def Row (A : Option Addr) (k : Nat) : Prop := (Value.slice A 0 0).ownBlock = some k
theorem row_of {A : Option Addr} {n c k : Nat} : (Value.slice A n c).ownBlock = some k ↔ Row A k := by cases A <;> exact Iff.rfl
theorem Row.eq {g k : Nat} {o : Nat} (h : Row (some ⟨g, o, none⟩) k) : g = k := by
  unfold Row Value.ownBlock at h
  injection h
theorem Row.mk (g o : Nat) : Row (some ⟨g, o, none⟩) g := rfl
structure Own (w : World) (S : Nat → Prop) (p : Nat) (A : Option Addr) (c : Nat) (es : List Pe) (r nx : Int) : Prop where
  box : Blk w p 47 #[.slice A es.length c, .int .i64 r, .int .i64 nx]
  row : w.ownsRow 0 50 LP.s (.slice A es.length c) es.length (LP.flat es)
  byt : ∀ x ∈ es, RdS (fun b => S b ∧ b ≠ p ∧ ¬ Row A b) w x.A x.e.bs.length x.c x.e.bs
  rp : ¬ Row A p
  sp : S p
  sr : ∀ k, Row A k → S k
  lt : ∀ k, S k → k < w.heap.size
  up : Up es nx
/-- A bag in memory: the world, the blocks that are its own, its block, what it holds. -/
abbrev Held := World → (Nat → Prop) → Nat → Bag → Prop
/-- The program's bag. -/
def BI : Held := fun w S p b => ∃ A c es, Own w S p A c es b.r b.nx ∧ es.map (·.e) = b.xs
theorem row_keep {w w' : World} {B : Nat} {e : TypeId} {s : Nat} {v : Value} {n : Nat} {xs : List Value} (h : w.ownsRow B e s v n xs) (hs : ∀ k, v.ownBlock = some k → w'.heap[k]? = w.heap[k]?) : w'.ownsRow B e s v n xs := by
  refine ⟨h.1, ?_⟩
  rcases h.2 with e | ⟨g, cap, cur, e, hb, hg, r⟩
  · exact .inl e
  · exact .inr ⟨g, cap, cur, e, hb, (hs g (by rw [e]; rfl)).trans hg, r⟩
section
variable {w w' : World} {S S' T : Nat → Prop} {p c : Nat} {A : Option Addr} {es : List Pe} {r nx : Int}
theorem Own.keep (h : Own w S p A c es r nx) (hk : Keeps T w w') (hd : ∀ b, S b → ¬ T b) : Own w' S p A c es r nx := by
  have hb : ∀ k, S k → w'.heap[k]? = w.heap[k]? := fun k hs => hk.block k (h.lt k hs) (hd k hs)
  exact ⟨(hb p h.sp).trans h.box, row_keep h.row fun k e => hb k (h.sr k (row_of.1 e)), fun x hx => (h.byt x hx).keep hk.size fun b hS _ => ⟨hS, hb b hS.1⟩, h.rp, h.sp, h.sr,
    fun k hs => Nat.lt_of_lt_of_le (h.lt k hs) hk.size, h.up⟩
theorem Own.below (h : Own w S p A c es r nx) (hb : Below w.heap.size w w') : Own w' S p A c es r nx := h.keep (T := fun _ => False) (Keeps.ofBelow hb) fun _ _ h => h
theorem Own.cells (h : Own w S p A c es r nx) : w.cell? ⟨p, 0, none⟩ = some (.slice A es.length c) ∧ w.cell? ⟨p, 1, none⟩ = some (.int .i64 r) ∧ w.cell? ⟨p, 2, none⟩ = some (.int .i64 nx) := ⟨h.box.cell 0, h.box.cell 1, h.box.cell 2⟩
theorem Own.rw_ (h : Own w S p A c es r nx) : Rw LP w A es.length c es := Rw.own h.row
/-- An entry of the bag, where it lies. -/
theorem Own.at_ (h : Own w S p A c es r nx) {k : Nat} {x : Pe} (hx : es[k]? = some x) : ∃ g, A = some ⟨g, 0, none⟩ ∧ g < w.heap.size ∧ w.rangeAt g (k * 4) (encP x) ∧ Rd w x.A x.e.bs.length x.c (cs x.e.bs) := by
  have hk : k < es.length := (List.getElem?_eq_some_iff.1 hx).1
  obtain ⟨g, c', e, _, _, _, hh⟩ := Hdr.of_own h.row (by omega)
  injection e with e1 e2 e3
  exact ⟨g, e1, hh.lt, hh.at_ hx, (h.byt x (List.mem_of_getElem? hx)).1⟩
/-- The row was turned: what is left of the entries lies in it. -/
theorem Own.cut {es' : List Pe} {q : Pe → Bool} (h : Own w S p A c es r nx) (hk : Keeps (Row A) w w') (hr : w'.ownsRow 0 50 LP.s (.slice A (es.filter q).length c) (es.filter q).length (LP.flat (es.filter q)))
    (he : es' = es.filter q) : Own (w'.setCell ⟨p, 0, none⟩ (.slice A es'.length c)) S p A c es' r nx ∧ Keeps S w (w'.setCell ⟨p, 0, none⟩ (.slice A es'.length c)) := by
  subst he
  have hpb := (hk.block p (h.lt p h.sp) h.rp).trans h.box
  have hk2 : Keeps (fun k => k = p) w' (w'.setCell ⟨p, 0, none⟩ (.slice A (es.filter q).length c)) := ⟨rfl, rfl, rfl, by simp, fun k _ hn => Below.heap_setCell w' ⟨p, 0, none⟩ _ k hn⟩
  refine ⟨⟨by simpa using Blk.put hpb 0 (.slice A (es.filter q).length c), row_keep hr fun k e => ?_, fun x hx => ?_, h.rp, h.sp, h.sr, fun k hs => ?_, h.up.filter q⟩, ?_⟩
  · exact hk2.block k (Nat.lt_of_lt_of_le (h.lt k (h.sr k (row_of.1 e))) hk.size) fun e' => h.rp (e' ▸ row_of.1 e)
  · refine (h.byt x (List.mem_filter.1 hx).1).keep (Nat.le_trans hk.size hk2.size) fun b hS hlt => ⟨hS, (hk2.block b (Nat.lt_of_lt_of_le hlt hk.size) hS.2.1).trans (hk.block b hlt hS.2.2)⟩
  · have h1 := h.lt k hs
    have h2 := hk.size
    have h3 := hk2.size
    omega
  · exact ⟨hk2.os.trans hk.os, hk2.tape.trans hk.tape, hk2.output.trans hk.output, Nat.le_trans hk.size hk2.size, fun k hlt hn => (hk2.block k (Nat.lt_of_lt_of_le hlt hk.size) fun e => hn (by rw [e]; exact h.sp)).trans (hk.block k hlt fun e => hn (h.sr k e))⟩
/-- One more entry: its bytes new, its row where it was, or in new memory. -/
theorem Own.put {u u2 : World} {x : Pe} {V : Option Addr} {c' m : Nat} {v : Value} (h : Own w S p A c es r nx) (hb : Below w.heap.size w u) (hx : x.k = nx) (h0 : 0 ≤ nx) (hby : u.ownsRow w.heap.size 5 1 (.slice x.A x.e.bs.length x.c) x.e.bs.length (cs x.e.bs))
    (hm : es.length + 1 = m) (hr : u2.ownsRow 0 50 LP.s (.slice V m c') m (LP.flat (es ++ [x]))) (hg : u.grownBy u2 (Value.slice A es.length c).ownBlock) (hl : (Value.slice V m c').ownBlock = (Value.slice A es.length c).ownBlock ∨ (Value.slice V m c').ownBlock = some u.heap.size)
    (hv : v = .int .i64 (nx + 1)) :
    Own ((u2.setCell ⟨p, 0, none⟩ (.slice V m c')).setCell ⟨p, 2, none⟩ v) (Plus S w u2) p V c' (es ++ [x]) r (nx + 1) ∧ Keeps S w ((u2.setCell ⟨p, 0, none⟩ (.slice V m c')).setCell ⟨p, 2, none⟩ v) := by
  subst hm
  subst hv
  have hz1 := hb.size
  have hz2 := hg.size
  have hplt := h.lt p h.sp
  have hrow : ∀ k, Row V k → Row A k ∨ k = u.heap.size := fun k hk => by
    have hk' := (row_of (n := es.length + 1) (c := c')).2 hk
    rcases hl with e | e
    · exact .inl (row_of.1 (e ▸ hk'))
    · rw [e] at hk'
      injection hk' with hk'
      exact .inr hk'.symm
  have hset : ∀ k, k ≠ p → ((u2.setCell ⟨p, 0, none⟩ (.slice V (es.length + 1) c')).setCell ⟨p, 2, none⟩ (.int .i64 (nx + 1))).heap[k]? = u2.heap[k]? := fun k hk =>
    (Below.heap_setCell _ ⟨p, 2, none⟩ _ k hk).trans (Below.heap_setCell _ ⟨p, 0, none⟩ _ k hk)
  have hold : ∀ k, k < w.heap.size → ¬ Row A k → u2.heap[k]? = w.heap[k]? := fun k hk hn => (hg.block k (by omega) fun e => hn (row_of.1 e.symm)).trans (hb.block k hk)
  have hsz : ((u2.setCell ⟨p, 0, none⟩ (.slice V (es.length + 1) c')).setCell ⟨p, 2, none⟩ (.int .i64 (nx + 1))).heap.size = u2.heap.size := by simp
  have hbp : Blk u2 p 47 #[.slice A es.length c, .int .i64 r, .int .i64 nx] := (hold p hplt h.rp).trans h.box
  refine ⟨⟨?_, ?_, fun y hy => ?_, fun hk => ?_, .inl h.sp, fun k hk => ?_, fun k hk => ?_, h.up.snoc h0 hx⟩, ?_⟩
  · rw [List.length_append]
    exact by simpa using (hbp.put 0 (.slice V (es.length + 1) c')).put 2 (.int .i64 (nx + 1))
  · rw [List.length_append]
    refine row_keep hr fun k hk => hset k fun e => ?_
    rcases hrow k (row_of.1 hk) with h' | h'
    · exact h.rp (e ▸ h')
    · omega
  · rcases List.mem_append.1 hy with hy | hy
    · refine (h.byt y hy).keep (by rw [hsz]; omega) fun b hS hlt => ⟨⟨.inl hS.1, hS.2.1, fun hk => ?_⟩, (hset b hS.2.1).trans (hold b hlt hS.2.2)⟩
      rcases hrow b hk with h' | h'
      · exact hS.2.2 h'
      · omega
    · rw [List.mem_singleton.1 hy]
      refine (RdS.new (S := fun b => w.heap.size ≤ b ∧ b < u.heap.size) hby fun b h1 h2 => ⟨h1, h2⟩).keep (by rw [hsz]; omega) fun b hS hlt => ⟨⟨.inr ⟨hS.1, by omega⟩, by omega, fun hk => ?_⟩, (hset b (by omega)).trans (hg.block b hlt fun e => ?_)⟩
      · rcases hrow b hk with h' | h'
        · have := h.lt b (h.sr b h')
          omega
        · omega
      · have := h.lt b (h.sr b (row_of.1 e.symm))
        omega
  · rcases hrow p hk with h' | h'
    · exact h.rp h'
    · omega
  · rcases hrow k hk with h' | h'
    · exact .inl (h.sr k h')
    · refine .inr ⟨by omega, ?_⟩
      have := (hr.lt k (row_of.2 hk)).2
      omega
  · rw [hsz]
    rcases hk with h' | h'
    · have := h.lt k h'
      omega
    · exact h'.2
  · exact ⟨hg.os.trans hb.os, hg.tape.trans hb.tape, hg.output.trans hb.output, by rw [hsz]; omega, fun k hk hn => (hset k fun e => hn (by rw [e]; exact h.sp)).trans (hold k hk fun e => hn (h.sr k e))⟩
end
theorem bi_low {w : World} {S : Nat → Prop} {p : Nat} {b : Bag} (h : BI w S p b) : ∀ k, S k → k < w.heap.size := by
  obtain ⟨A, c, es, h, _⟩ := h
  exact h.lt
theorem bi_keep {w w' : World} {S T : Nat → Prop} {p : Nat} {b : Bag} (h : BI w S p b) (hk : Keeps T w w') (hd : ∀ b, S b → ¬ T b) : BI w' S p b := by
  obtain ⟨A, c, es, h, e⟩ := h
  exact ⟨A, c, es, h.keep hk hd, e⟩
theorem bi_below {w w' : World} {S : Nat → Prop} {p : Nat} {b : Bag} (h : BI w S p b) (hb : Below w.heap.size w w') : BI w' S p b := bi_keep h (T := fun _ => False) (Keeps.ofBelow hb) fun _ _ h => h
/-- The bag stays a bag; only its own blocks were turned. -/
def Stays (I : Held) (p : Nat) (S : Nat → Prop) (b : Bag) (w w' : World) : Prop := ∃ S', I w' S' p b ∧ Grew S S' w ∧ Keeps S w w'
end Go.Proofs.Ytgnpnjfoenmfbaa.Bg
