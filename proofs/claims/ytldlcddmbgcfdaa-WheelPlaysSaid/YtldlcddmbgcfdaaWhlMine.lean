/-
  Texts of earlier layers, as one.
-/
import Derived.Test.YtldlcddmbgcfdaaWhlSet
import Derived.Test.YtldlcddmbgcfdaaWhlDue
import Derived.Test.YtldlcddmbgcfdaaWhlRefSet
/- A wheel, and what lasts while it alone is turned. -/
namespace Go.Proofs.Ytldlcddmbgcfdaa.Wh
open Go.RowKit Mem Dsk

/-- A wheel, and what lasts. -/
def Mine (F : World → (Nat → Prop) → Prop) (w : World) (p : Nat) (x : List Tm) : Prop := ∃ S, WI w S p x ∧ F w S
/-- A block outside of a set's. -/
def FBlk (g : Nat) (t : TypeId) (vs : Array Value) (w : World) (S : Nat → Prop) : Prop := Blk w g t vs ∧ ¬ S g
theorem frame_blk (g : Nat) (t : TypeId) (vs : Array Value) : Dsk.Frame (FBlk g t vs) := by
  refine ⟨fun {w w' S S'} h hk hg => ⟨(hk.block g h.1.lt h.2).trans h.1, fun hs => ?_⟩⟩
  rcases hg g hs with h' | h'
  · exact h.2 h'
  · have := h.1.lt
    omega
/-- A row of the call's own outside of a set's blocks. -/
def FOwn (B : Nat) (t : TypeId) (s : Nat) (V : Option Addr) (n c : Nat) (xs : List Value) (w : World) (S : Nat → Prop) : Prop := w.ownsRow B t s (.slice V n c) n xs ∧ ∀ k, (Value.slice V n c).ownBlock = some k → ¬ S k
theorem frame_own (B : Nat) (t : TypeId) (s : Nat) (V : Option Addr) (n c : Nat) (xs : List Value) : Dsk.Frame (FOwn B t s V n c xs) := by
  refine ⟨fun {w w' S S'} h hk hg => ⟨row_keep h.1 fun k e => hk.block k (h.1.lt k e).2 (h.2 k e), fun k e hs => ?_⟩⟩
  rcases hg k hs with h' | h'
  · exact h.2 k e h'
  · have := (h.1.lt k e).2
    omega
section
variable {F : World → (Nat → Prop) → Prop} {w w' : World} {p : Nat} {x : List Tm}
theorem Mine.bel (h : Mine F w p x) (hFr : Dsk.Frame F) (hb : Below w.heap.size w w') : Mine F w' p x := by
  obtain ⟨S, h1, h2⟩ := h
  exact ⟨S, wi_below h1 hb, hFr.go h2 (Keeps.ofBelow hb) (Grew.refl S w)⟩
theorem Mine.more {G : World → (Nat → Prop) → Prop} (h : Mine F w p x) (hg : ∀ S, WI w S p x → F w S → G w S) : Mine G w p x := by
  obtain ⟨S, h1, h2⟩ := h
  exact ⟨S, h1, hg S h1 h2⟩
theorem Mine.uq (h : Mine F w p x) : Uq x ∧ Srt x ∧ ∀ t ∈ x, Wf t.i := by
  obtain ⟨S, h1, _⟩ := h
  exact wi_uq h1
/-- A new block lies outside. -/
theorem Mine.box (h : Mine F w p x) (hFr : Dsk.Frame F) (vs : Array Value) (t : TypeId) : Mine (fun v S => F v S ∧ FBlk w.heap.size t vs v S) (w.alloc (.cells vs t)) p x := by
  obtain ⟨S, h1, h2⟩ := h
  have hb := bel_alloc (Below.refl w.heap.size w) (.cells vs t)
  exact ⟨S, wi_below h1 hb, hFr.go h2 (Keeps.ofBelow hb) (Grew.refl S w), Blk.new w t vs, fun hs => by have := wi_low h1 _ hs; omega⟩
theorem set_mine (hFr : Dsk.Frame F) (i : Int × Int) (a : Int) (h : Mine F w p x) (hwf : Wf i) (hl : x.length ≤ 800000) :
    Calls Try.prog 10 #[ptr p, .agg #[.int .i64 i.1, .int .i64 i.2], .int .i64 a] w (fun e w' => e = .returned (.tuple #[]) ∧ Mine F w' p (setR x ⟨i, a⟩)) := by
  obtain ⟨S, h1, h2⟩ := h
  refine (set_any i a w h1 hwf hl).mono ?_
  rintro e u ⟨rfl, S', h3, h4, h5⟩
  exact ⟨rfl, S', h3, hFr.go h2 h5 h4⟩
theorem cancel_mine (hFr : Dsk.Frame F) (i : Int × Int) (h : Mine F w p x) (hwf : Wf i) (hl : x.length ≤ 800000) :
    Calls Try.prog 12 #[ptr p, .agg #[.int .i64 i.1, .int .i64 i.2]] w (fun e w' => e = .returned (.bool (atR x i).isSome) ∧ Mine F w' p (outR x i)) := by
  obtain ⟨S, h1, h2⟩ := h
  refine (cancel_any i w h1 hwf (by omega)).mono ?_
  rintro e u ⟨rfl, h3, h4⟩
  exact ⟨rfl, S, h3, hFr.go h2 h4 (Grew.refl _ _)⟩
theorem at_mine (hFr : Dsk.Frame F) (i : Int × Int) (h : Mine F w p x) (hwf : Wf i) (hl : x.length ≤ 800000) :
    Calls Try.prog 9 #[ptr p, .agg #[.int .i64 i.1, .int .i64 i.2]] w (fun e w' => e = .returned (.tuple #[.int .i64 ((atR x i).getD 0), .bool (atR x i).isSome]) ∧ Mine F w' p x ∧ Below w.heap.size w w') := by
  obtain ⟨S, h1, h2⟩ := h
  refine (at_any i w h1 hwf (by omega)).mono ?_
  rintro e u ⟨rfl, h4⟩
  exact ⟨rfl, ⟨S, wi_below h1 h4, hFr.go h2 (Keeps.ofBelow h4) (Grew.refl _ _)⟩, h4⟩
theorem next_mine (h : Mine F w p x) (hl : x.length ≤ 800000) :
    Calls Try.prog 16 #[ptr p] w (fun e w' => e = .returned (.tuple #[.int .i64 ((x.head?.map (·.a)).getD 0), .bool (x.head?).isSome]) ∧ w' = w) := by
  obtain ⟨S, h1, h2⟩ := h
  exact next_any w h1 (by omega)
theorem len_mine (h : Mine F w p x) : Calls Try.prog 17 #[ptr p] w (fun e w' => e = .returned (.int .i64 (x.length : Int)) ∧ w' = w) := by
  obtain ⟨S, h1, h2⟩ := h
  exact len_any w h1
theorem due_mine (hFr : Dsk.Frame F) (now : Int) (h : Mine F w p x) (hl : x.length ≤ 800000) :
    Calls Try.prog 14 #[ptr p, .int .i64 now] w (fun e w' => ∃ V c', e = .returned (.slice V (dueR x now) c') ∧ Mine (fun v S => F v S ∧ FOwn w.heap.size 28 LI.s V (dueR x now) c' (LI.flat (idsOf (x.take (dueR x now)))) v S) w' p (x.drop (dueR x now))) := by
  obtain ⟨S, h1, h2⟩ := h
  refine (due_any now w h1 hl).mono ?_
  rintro e u ⟨V, c', rfl, h3, h4, h5⟩
  refine ⟨V, c', rfl, S, h4, hFr.go h2 h5 (Grew.refl _ _), h3, fun k e hs => ?_⟩
  have := wi_low h1 k hs
  have := (h3.lt k e).1
  omega
end
theorem wf_small {a b : Int} (ha : -1000 ≤ a ∧ a ≤ 1000) (hb : -1000 ≤ b ∧ b ≤ 1000) : Wf (a, b) := by
  constructor <;> (simp [Lit.wf, IntKind.min, IntKind.max, IntKind.signed, IntKind.bits]; omega)
end Go.Proofs.Ytldlcddmbgcfdaa.Wh
