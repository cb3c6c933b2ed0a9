/-
  Texts of earlier layers, as one.
-/
import Derived.Test.YtldlcddmbgcfdaaWhlMap
import Derived.Test.YtldlcddmbgcfdaaRBase
/- The program's wheel in memory: its box, its row of timers, its map of places; what keeps it. -/
namespace Go.Proofs.Ytldlcddmbgcfdaa.Wh
open Go.RowKit Mem Dsk Go.Maps

def ptr (p : Nat) : Value := .pointer (some ⟨p, 0, none⟩)
def encT (t : Tm) : List Value := [.int .i64 t.i.1, .int .i64 t.i.2, .int .i64 t.a]
def LT : Lay Tm := ⟨encT, 3, fun _ => rfl, fun x u hu => by
  simp only [encT, List.mem_cons, List.not_mem_nil, or_false] at hu
  rcases hu with rfl | rfl | rfl <;> rfl, by omega⟩
/-- The row's block. -/
def Row (A : Option Addr) (k : Nat) : Prop := (Value.slice A 0 0).ownBlock = some k
theorem row_of {A : Option Addr} {n c k : Nat} : (Value.slice A n c).ownBlock = some k ↔ Row A k := by cases A <;> exact Iff.rfl
theorem Row.eq {g k : Nat} {o : Nat} (h : Row (some ⟨g, o, none⟩) k) : g = k := by
  unfold Row Value.ownBlock at h
  injection h
theorem Row.mk (g o : Nat) : Row (some ⟨g, o, none⟩) g := rfl
structure Own (w : World) (S : Nat → Prop) (p : Nat) (A : Option Addr) (c b : Nat) (D : DataW Value) (h : List Tm) : Prop where
  box : Blk w p 53 #[.slice A h.length c, .map (some b)]
  row : w.ownsRow 0 55 LT.s (.slice A h.length c) h.length (LT.flat h)
  mp : PM w b h.length D
  hol : Holds D h
  uq : Uq h
  wf : ∀ x ∈ h, Wf x.i
  rp : ¬ Row A p
  rb : ¬ Row A b
  bp : b ≠ p
  sp : S p
  sb : S b
  sr : ∀ k, Row A k → S k
  lt : ∀ k, S k → k < w.heap.size
theorem row_keep {w w' : World} {B : Nat} {e : TypeId} {s : Nat} {v : Value} {n : Nat} {xs : List Value} (h : w.ownsRow B e s v n xs) (hs : ∀ k, v.ownBlock = some k → w'.heap[k]? = w.heap[k]?) : w'.ownsRow B e s v n xs := by
  refine ⟨h.1, ?_⟩
  rcases h.2 with e | ⟨g, cap, cur, e, hb, hg, r⟩
  · exact .inl e
  · exact .inr ⟨g, cap, cur, e, hb, (hs g (by rw [e]; rfl)).trans hg, r⟩
theorem pm_keep {w w' : World} {b n : Nat} {D : DataW Value} (h : PM w b n D) (hs : w'.heap[b]? = w.heap[b]?) : PM w' b n D := by
  obtain ⟨es, clock, hb, r⟩ := h
  exact ⟨es, clock, hs.trans hb, r⟩
section
variable {w w' : World} {S S' T : Nat → Prop} {p c b : Nat} {A : Option Addr} {D : DataW Value} {h : List Tm}
theorem Own.keep (h1 : Own w S p A c b D h) (hk : Keeps T w w') (hd : ∀ k, S k → ¬ T k) : Own w' S p A c b D h := by
  have hb : ∀ k, S k → w'.heap[k]? = w.heap[k]? := fun k hs => hk.block k (h1.lt k hs) (hd k hs)
  exact ⟨(hb p h1.sp).trans h1.box, row_keep h1.row fun k e => hb k (h1.sr k (row_of.1 e)), pm_keep h1.mp (hb b h1.sb), h1.hol, h1.uq, h1.wf, h1.rp, h1.rb, h1.bp, h1.sp, h1.sb, h1.sr,
    fun k hs => Nat.lt_of_lt_of_le (h1.lt k hs) hk.size⟩
theorem Own.below (h1 : Own w S p A c b D h) (hb : Below w.heap.size w w') : Own w' S p A c b D h := h1.keep (T := fun _ => False) (Keeps.ofBelow hb) fun _ _ h => h
theorem Own.cells (h1 : Own w S p A c b D h) : w.cell? ⟨p, 0, none⟩ = some (.slice A h.length c) ∧ w.cell? ⟨p, 1, none⟩ = some (.map (some b)) := ⟨h1.box.cell 0, h1.box.cell 1⟩
theorem Own.rw_ (h1 : Own w S p A c b D h) : Rw LT w A h.length c h := Rw.own h1.row
/-- The row, where it has something. -/
theorem Own.hdr (h1 : Own w S p A c b D h) (hn : 0 < h.length) : ∃ g, A = some ⟨g, 0, none⟩ ∧ g ≠ p ∧ g ≠ b ∧ S g ∧ h.length ≤ c ∧ Hdr LT w g 55 c h := by
  obtain ⟨g, c', e, _, _, hc, hh⟩ := Hdr.of_own h1.row hn
  injection e with e1 e2 e3
  subst e1
  subst e3
  exact ⟨g, rfl, fun e => h1.rp (e ▸ Row.mk g 0), fun e => h1.rb (e ▸ Row.mk g 0), h1.sr g (Row.mk g 0), hc, hh⟩
/-- What was turned inside the wheel, the row where it was. -/
theorem Own.turn {D' : DataW Value} {h' : List Tm} {n' : Nat} (h1 : Own w S p A c b D h) (hk : w.heap.size ≤ w'.heap.size) (hbox : Blk w' p 53 #[.slice A h'.length c, .map (some b)])
    (hrow : w'.ownsRow 0 55 LT.s (.slice A h'.length c) h'.length (LT.flat h')) (hm : PM w' b n' D') (hol : Holds D' h') (uq : Uq h') (wf : ∀ x ∈ h', Wf x.i) : Own w' S p A c b D' h' :=
  ⟨hbox, hrow, by rw [← hol.size]; exact pm_tight hm, hol, uq, wf, h1.rp, h1.rb, h1.bp, h1.sp, h1.sb, h1.sr, fun k hs => Nat.lt_of_lt_of_le (h1.lt k hs) hk⟩
/-- Two places turn round in the row alone: what is there then. -/
theorem Own.swapped {i j : Nat} (h1 : Own w S p A c b D h) {g : Nat} (hg : A = some ⟨g, 0, none⟩) (hi : i < h.length) (hj : j < h.length) :
    let w2 := (w.setCells g (i * 3) (encT (G h j))).setCells g (j * 3) (encT (G h i))
    Hdr LT w2 g 55 c (swl h i j) ∧ Keeps (fun k => k = g) w w2 := by
  obtain ⟨g', e, _, _, _, _, hh⟩ := h1.hdr (by omega)
  cases hg.symm.trans e
  have k1 := hh.put (k := i) hi (G h j)
  have k2 := k1.put (k := j) (by simpa using hj) (G h i)
  exact ⟨k2, (keeps_cells (encT (G h j)) (i * 3) w).trans (keeps_cells (encT (G h i)) (j * 3) _) (Grew.refl _ _)⟩
end
/-- A wheel in memory: the world, the blocks that are its own, its block, its timers in their order. -/
def WI (w : World) (S : Nat → Prop) (p : Nat) (x : List Tm) : Prop := ∃ A c b D h, Own w S p A c b D h ∧ Hp h.length (G h) ∧ h.Perm x ∧ Srt x
theorem wi_low {w : World} {S : Nat → Prop} {p : Nat} {x : List Tm} (h : WI w S p x) : ∀ k, S k → k < w.heap.size := by
  obtain ⟨A, c, b, D, l, h, _⟩ := h
  exact h.lt
theorem wi_keep {w w' : World} {S T : Nat → Prop} {p : Nat} {x : List Tm} (h : WI w S p x) (hk : Keeps T w w') (hd : ∀ b, S b → ¬ T b) : WI w' S p x := by
  obtain ⟨A, c, b, D, l, h, e⟩ := h
  exact ⟨A, c, b, D, l, h.keep hk hd, e⟩
theorem wi_below {w w' : World} {S : Nat → Prop} {p : Nat} {x : List Tm} (h : WI w S p x) (hb : Below w.heap.size w w') : WI w' S p x := wi_keep h (T := fun _ => False) (Keeps.ofBelow hb) fun _ _ h => h
theorem wi_uq {w : World} {S : Nat → Prop} {p : Nat} {x : List Tm} (h : WI w S p x) : Uq x ∧ Srt x ∧ ∀ t ∈ x, Wf t.i := by
  obtain ⟨A, c, b, D, l, h, _, hp, hs⟩ := h
  exact ⟨h.uq.perm hp, hs, fun t ht => h.wf t (hp.mem_iff.2 ht)⟩
end Go.Proofs.Ytldlcddmbgcfdaa.Wh
