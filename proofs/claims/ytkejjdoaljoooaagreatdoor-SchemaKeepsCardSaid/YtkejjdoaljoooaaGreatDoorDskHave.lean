/-
  Texts of earlier layers, as one.
-/
import Derived.Test.YtkejjdoaljoooaaGreatDoorDskLow
import Derived.Test.YtkejjdoaljoooaaGreatDoorRNum
/- What the laws ask of the program's disk: it is held against the plain disk, whatever it keeps in memory. -/
namespace Go.Proofs.YtkejjdoaljoooaaGreatDoor.Dsk
open Go.RowKit Mem Cod
abbrev Held := World → (Nat → Prop) → Nat → Dk → Prop
def ptr (p : Nat) : Value := .pointer (some ⟨p, 0, none⟩)
def Outs (S : Nat → Prop) (n : Nat) (A : Option Addr) : Prop := 0 < n → ∀ ad, A = some ad → ¬ S ad.block
def Stays (I : Held) (p : Nat) (S : Nat → Prop) (d : Dk) (w w' : World) : Prop := ∃ S', I w' S' p d ∧ Grew S S' w ∧ Keeps S w w'
def Does (I : Held) (p : Nat) (S : Nat → Prop) (r : Nat × Dk) (w : World) (e : Ending) (w' : World) : Prop := e = .returned (.int .i64 (r.1 : Int)) ∧ Stays I p S r.2 w w'
structure Frame (F : World → (Nat → Prop) → Prop) : Prop where
 go : ∀ {w w' : World} {S S' : Nat → Prop}, F w S → Keeps S w w' → Grew S S' w → F w' S'
def FNew (w0 : World) (w : World) (S : Nat → Prop) : Prop := (∀ k, S k → w0.heap.size ≤ k) ∧ Below w0.heap.size w0 w
def FRd (A : Option Addr) (n c : Nat) (xs : List Value) (w : World) (S : Nat → Prop) : Prop := Rd w A n c xs ∧ Outs S n A
theorem frame_new (w0 : World) : Frame (FNew w0) := by
 refine ⟨fun {w w' S S'} h hk hg => ?_⟩;have hs := h.2.size;refine ⟨fun k hk' => ?_, h.2.trans (hk.below hs h.1)⟩;rcases hg k hk' with h' | h'
 · exact h.1 k h'
 · omega
theorem frame_rd (A : Option Addr) (n c : Nat) (xs : List Value) : Frame (FRd A n c xs) := by
 refine ⟨fun {w w' S S'} h hk hg => ?_⟩;obtain ⟨h1, h2⟩ := h;refine ⟨⟨h1.len, h1.le, h1.cap, h1.nil, fun h0 => ?_⟩, fun h0 ad e hs => ?_⟩
 · obtain ⟨ad, e, hlt, hc⟩ := h1.spot h0
   refine ⟨ad, e, Nat.lt_of_lt_of_le hlt hk.size, fun j v hv => ?_⟩;have hb : (ad.add j).block = ad.block := add_block _ _;exact (World.cell?_of_block (by rw [hb]; exact hk.block _ hlt (h2 h0 ad e))).trans (hc j v hv)
 · obtain ⟨ad', e', hlt, _⟩ := h1.spot h0
   cases e.symm.trans e';rcases hg _ hs with h' | h'
   · exact h2 h0 ad e h'
   · omega
theorem Frame.and {F G : World → (Nat → Prop) → Prop} (hF : Frame F) (hG : Frame G) : Frame (fun w S => F w S ∧ G w S) := ⟨fun h hk hg => ⟨hF.go h.1 hk hg, hG.go h.2 hk hg⟩⟩
section
variable {I : Held} {F : World → (Nat → Prop) → Prop} {w w' : World} {S : Nat → Prop} {p : Nat} {d : Dk} {e : Ending} {r : Nat × Dk}
end
theorem outs_lit {S : Nat → Prop} {w : World} {n : Nat} (h : ¬ S w.heap.size) : Outs S n (some ⟨w.heap.size, 0, none⟩) := fun _ ad e => by
 injection e with e;subst e;exact h
theorem fine_new {r : Int} (hr : r ≤ 1099511627776) : Fine (newDk r) := ⟨fits_new r, by show max r 0 ≤ _; omega, by show (-9223372036854775808 : Int) ≤ -1; decide, by show (-1 : Int) ≤ 9223372036854775807; decide⟩
end Go.Proofs.YtkejjdoaljoooaaGreatDoor.Dsk
