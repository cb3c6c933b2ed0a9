/-
  Texts of earlier layers, as one.
-/
import Derived.Test.YtpalmnjapiijaaaRBase
import Derived.Test.YtpalmnjapiijaaaCompPlain
import Derived.Deep.OwnRows
import Derived.Deep.MidRow
/- Rows of rows in memory: a graph that is read, a table of bools that the call makes and writes. -/
namespace Go.Proofs.Ytpalmnjapiijaaa.Gr
open Go.RowKit Mem Dsk

/-- A slice's value as an element. -/
abbrev Hd := Option Addr × Nat × Nat
def hdV (h : Hd) : Value := .slice h.1 h.2.1 h.2.2
def LS : Lay Hd := ⟨fun h => [hdV h], 1, fun _ => rfl, fun x u hu => by
  simp only [List.mem_cons, List.not_mem_nil, or_false] at hu
  rcases hu with rfl
  rfl, by omega⟩
def LN : Lay Int := ⟨fun z => [.int .i64 z], 1, fun _ => rfl, fun x u hu => by
  simp only [List.mem_cons, List.not_mem_nil, or_false] at hu
  rcases hu with rfl
  rfl, by omega⟩
section
variable {w w' : World} {A : Option Addr} {n c : Nat} {ls : Graph}
theorem int_at {l : List Int} {k : Nat} (h : Rw LN w A n c l) (hk : k < n) : ∃ g o z, A = some ⟨g, o, none⟩ ∧ g < w.heap.size ∧ l[k]? = some z ∧ w.cell? ⟨g, o + k, none⟩ = some (.int .i64 z) := by
  obtain ⟨g, o, z, e, hg, hz, hc⟩ := h.at_ hk
  refine ⟨g, o, z, e, hg, hz, ?_⟩
  have := hc 0 _ rfl
  rw [show o + k * LN.s = o + k from by show o + k * 1 = _; omega] at this
  exact this
/-- Rows of integers that can be read. -/
def Mat (w : World) (A : Option Addr) (n c : Nat) (ls : Graph) : Prop := ∃ hs : List Hd, Rw LS w A n c hs ∧ hs.length = ls.length ∧ ∀ (j : Nat) (h : Hd) (l : List Int), hs[j]? = some h → ls[j]? = some l → Rw LN w h.1 h.2.1 h.2.2 l
theorem Mat.below (h : Mat w A n c ls) (hb : Below w.heap.size w w') : Mat w' A n c ls := by
  obtain ⟨hs, h1, h2, h3⟩ := h
  exact ⟨hs, h1.below hb, h2, fun j h l a b => (h3 j h l a b).below hb⟩
theorem Mat.len (h : Mat w A n c ls) : ls.length = n := by
  obtain ⟨hs, h1, h2, _⟩ := h
  rw [← h2, h1.len]
theorem Mat.cap (h : Mat w A n c ls) : n ≤ c ∧ c ≤ maxLen := by
  obtain ⟨hs, h1, _, _⟩ := h
  exact ⟨h1.le, h1.cap⟩
/-- A row: where it lies, and what it has. -/
theorem Mat.at_ (h : Mat w A n c ls) {k : Nat} (hk : k < n) : ∃ (g o : Nat) (R : Option Addr) (rn rc : Nat) (l : List Int), A = some ⟨g, o, none⟩ ∧ g < w.heap.size ∧ ls[k]? = some l ∧ w.cell? ⟨g, o + k, none⟩ = some (.slice R rn rc) ∧ Rw LN w R rn rc l := by
  obtain ⟨hs, h1, h2, h3⟩ := h
  obtain ⟨g, o, ⟨R, rn, rc⟩, e, hg, hx, hc⟩ := h1.at_ hk
  have hl : k < ls.length := by rw [← h2]; exact (List.getElem?_eq_some_iff.1 hx).1
  refine ⟨g, o, R, rn, rc, ls[k], e, hg, List.getElem?_eq_getElem hl, ?_, h3 k _ _ hx (List.getElem?_eq_getElem hl)⟩
  have := hc 0 _ rfl
  rw [show o + k * LS.s = o + k from by show o + k * 1 = _; omega] at this
  exact this
theorem getD_at {k : Nat} {l : List Int} (h : ls[k]? = some l) : ls.getD k [] = l := by simp [List.getD, h]
end
theorem own_keep {w w' : World} {base n s : Nat} {e : TypeId} {v : Value} {xs : List Value} (h : w.ownsRow base e s v n xs) (hs : ∀ k, v.ownBlock = some k → k < w.heap.size → w'.heap[k]? = w.heap[k]?) : w'.ownsRow base e s v n xs := by
  refine ⟨h.1, ?_⟩
  rcases h.2 with e | ⟨g, cap, cur, e, hb, hg, r⟩
  · exact .inl e
  · have hlt : g < w.heap.size := (Array.getElem?_eq_some_iff.1 hg).1
    exact .inr ⟨g, cap, cur, e, hb, (hs g (by rw [e]; rfl) hlt).trans hg, r⟩
/-- A table of bools of the call's own: m rows of n. -/
structure MB (w : World) (B : Nat) (A : Option Addr) (m c n : Nat) (bs : List Nat) (f : Nat → Nat → Bool) : Prop where
  own : w.ownsRow B 41 LS.s (.slice A m c) m (LS.flat (bs.map fun b => ((some ⟨b, 0, none⟩ : Option Addr), n, n)))
  row : ∀ k b, bs[k]? = some b → w.rowIs b 4 n (fun j => .bool (f k j))
  low : ∀ b ∈ bs, B ≤ b ∧ (Value.slice A m c).ownBlock ≠ some b
  dist : bs.Nodup
section
variable {w w' : World} {B : Nat} {A : Option Addr} {m c n : Nat} {bs : List Nat} {f g : Nat → Nat → Bool}
theorem MB.len (h : MB w B A m c n bs f) : bs.length = m := by
  have := h.own.1
  rw [length_flat, List.length_map] at this
  have hs : LS.s = 1 := rfl
  rw [hs] at this
  omega
theorem MB.at_ (h : MB w B A m c n bs f) {k : Nat} (hk : k < m) : ∃ (G o b : Nat), A = some ⟨G, o, none⟩ ∧ bs[k]? = some b ∧ w.cell? ⟨G, o + k, none⟩ = some (.slice (some ⟨b, 0, none⟩) n n) ∧ w.rowIs b 4 n (fun j => .bool (f k j)) := by
  obtain ⟨G, o, x, e, hg, hx, hc⟩ := (Rw.own (L := LS) h.own).at_ hk
  rw [List.getElem?_map] at hx
  obtain ⟨b, hb, rfl⟩ := Option.map_eq_some_iff.1 hx
  refine ⟨G, o, b, e, hb, ?_, h.row k b hb⟩
  have := hc 0 _ rfl
  rw [show o + k * LS.s = o + k from by show o + k * 1 = _; omega] at this
  exact this
theorem MB.below (h : MB w B A m c n bs f) (hb : Below w.heap.size w w') : MB w' B A m c n bs f :=
  ⟨ownsRow_below h.own hb, fun k b hk => (h.row k b hk).of_block (hb.block b (h.row k b hk).lt), h.low, h.dist⟩
theorem MB.congr (h : MB w B A m c n bs f) (e : ∀ k j, k < m → j < n → f k j = g k j) : MB w B A m c n bs g :=
  ⟨h.own, fun k b hk => (h.row k b hk).congr fun j hj => by rw [e k j (by have := (List.getElem?_eq_some_iff.1 hk).1; have := h.len; omega) hj], h.low, h.dist⟩
theorem MB.nil (w : World) (B n : Nat) (f : Nat → Nat → Bool) : MB w B none 0 0 n [] f := ⟨⟨rfl, .inl ⟨rfl, rfl⟩⟩, (fun k b h => by simp at h), (fun b h => by cases h), List.nodup_nil⟩
theorem nodup_at {α : Type} {l : List α} (h : l.Nodup) {i j : Nat} {x : α} (hi : l[i]? = some x) (hj : l[j]? = some x) : i = j := by
  exact (List.getElem?_inj (List.getElem?_eq_some_iff.1 hi).1 h).1 (hi.trans hj.symm)
/-- One of them is written. -/
theorem MB.store (h : MB w B A m c n bs f) {k b j : Nat} (hk : bs[k]? = some b) (v : Bool) : MB (w.setCell ⟨b, j, none⟩ (.bool v)) B A m c n bs (fun k' j' => if k' = k ∧ j' = j then v else f k' j') := by
  refine ⟨own_keep h.own fun q hq _ => ?_, fun k' b' hk' => ?_, h.low, h.dist⟩
  · exact Below.heap_setCell w ⟨b, j, none⟩ (.bool v) q fun e => (h.low b (List.mem_of_getElem? hk)).2 (by have e : q = b := e; rw [← e]; exact hq)
  · by_cases e : k' = k
    · subst e
      have : b' = b := by rw [hk'] at hk; exact Option.some.inj hk
      subst this
      refine ((h.row k' b' hk').set j (.bool v)).congr fun i _ => ?_
      by_cases e2 : i = j
      · rw [if_pos e2, if_pos ⟨rfl, e2⟩]
      · rw [if_neg e2, if_neg (fun q => e2 q.2)]
    · refine ((h.row k' b' hk').setOther (fun q => e ?_) (.bool v)).congr fun i _ => ?_
      · subst q
        exact nodup_at h.dist hk' hk
      · rw [if_neg (fun q => e q.1)]
/-- A row more. -/
theorem MB.snoc {A1 : Option Addr} {c1 b : Nat} (h : MB w B A m c n bs f) (hr : w.rowIs b 4 n (fun j => .bool (f m j))) (hB : B ≤ b) (hn : (Value.slice A m c).ownBlock ≠ some b) (hnb : b ∉ bs)
    (hown : w'.ownsRow B 41 LS.s (.slice A1 (m + 1) c1) (m + 1) (LS.flat (bs.map (fun b => ((some ⟨b, 0, none⟩ : Option Addr), n, n)) ++ [(some ⟨b, 0, none⟩, n, n)]))) (hg : w.grownBy w' (Value.slice A m c).ownBlock)
    (hloc : (Value.slice A1 (m + 1) c1).ownBlock = (Value.slice A m c).ownBlock ∨ (Value.slice A1 (m + 1) c1).ownBlock = some w.heap.size) : MB w' B A1 (m + 1) c1 n (bs ++ [b]) f := by
  have hkeep : ∀ q, q < w.heap.size → (Value.slice A m c).ownBlock ≠ some q → w'.heap[q]? = w.heap[q]? := fun q h1 h2 => hg.block q h1 fun e => h2 e.symm
  have hne : ∀ q, q < w.heap.size → (Value.slice A m c).ownBlock ≠ some q → (Value.slice A1 (m + 1) c1).ownBlock ≠ some q := fun q h1 h2 e => by
    rcases hloc with h3 | h3
    · exact h2 (h3.symm.trans e)
    · rw [h3] at e
      injection e with e
      omega
  refine ⟨by rw [List.map_append]; exact hown, fun k b' hk => ?_, fun b' hb' => ?_, ?_⟩
  · by_cases hkm : k < bs.length
    · rw [List.getElem?_append_left hkm] at hk
      have hr' := h.row k b' hk
      exact hr'.of_block (hkeep b' hr'.lt (h.low b' (List.mem_of_getElem? hk)).2)
    · rw [List.getElem?_append_right (by omega)] at hk
      have hlt := (List.getElem?_eq_some_iff.1 hk).1
      simp only [List.length_cons, List.length_nil] at hlt
      have hk0 : k - bs.length = 0 := by omega
      rw [hk0] at hk
      have hb : b = b' := by simpa using hk
      subst hb
      have hkm : k = m := by have := h.len; omega
      subst hkm
      exact hr.of_block (hkeep b hr.lt hn)
  · rcases List.mem_append.1 hb' with hb' | hb'
    · obtain ⟨k, hk⟩ := List.getElem?_of_mem hb'
      exact ⟨(h.low b' hb').1, hne b' (h.row k b' hk).lt (h.low b' hb').2⟩
    · rw [List.mem_singleton.1 hb']
      exact ⟨hB, hne b hr.lt hn⟩
  · rw [List.nodup_append]
    exact ⟨h.dist, by simp, fun x hx y hy e => hnb (by rw [List.mem_singleton.1 hy] at e; rw [← e]; exact hx)⟩
end
end Go.Proofs.Ytpalmnjapiijaaa.Gr
