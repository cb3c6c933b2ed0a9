/-
  Texts of earlier layers, as one.
-/
import Derived.Test.YthkbmmebfkaphaaDoorLogHave
import Derived.Test.YthkbmmebfkaphaaDoorLogScan
/- What lasts while a disk is turned: the table of the sums, a log's box, a row of records. -/
namespace Go.Proofs.YthkbmmebfkaphaaDoor.Lg
open Go.RowKit Mem Dsk

/-- The table of the sums lasts. -/
def FTab (w : World) (S : Nat → Prop) : Prop := Cr.Tab w ∧ ¬ S 0
theorem frame_tab : Dsk.Frame FTab := by
  refine ⟨fun {w w' S S'} h hk hg => ⟨fun i hi => ?_, fun hs => ?_⟩⟩
  · have hc := h.1 i hi
    exact (hk.cell (p := ⟨0, i, none⟩) (World.block_lt_of_cell? _ _ hc) h.2).trans hc
  · have hl := World.block_lt_of_cell? _ _ (h.1 0 (by decide))
    simp only at hl
    rcases hg _ hs with h' | h'
    · exact h.2 h'
    · omega
/-- A log's box lasts. -/
def FLog (g p : Nat) (s : ByteArray) (w : World) (S : Nat → Prop) : Prop := Blk w g 54 #[Dsk.ptr p, .string s] ∧ ¬ S g
theorem frame_log (g p : Nat) (s : ByteArray) : Dsk.Frame (FLog g p s) := by
  refine ⟨fun {w w' S S'} h hk hg => ⟨?_, fun hs => ?_⟩⟩
  · exact (hk.block g h.1.lt h.2).trans h.1
  · rcases hg _ hs with h' | h'
    · exact h.2 h'
    · have := h.1.lt
      omega
/-- A row of records lasts. -/
def FMat (V : Option Addr) (n c : Nat) (ps : List Cr.Part) (w : World) (S : Nat → Prop) : Prop := FRd V n c (ps.map Cr.pv) w S ∧ ∀ p ∈ ps, FRd p.A p.n p.c (cs p.bs) w S ∧ ∀ b ∈ p.bs, b < 256
theorem frame_mat (V : Option Addr) (n c : Nat) (ps : List Cr.Part) : Dsk.Frame (FMat V n c ps) :=
  ⟨fun h hk hg => ⟨(frame_rd _ _ _ _).go h.1 hk hg, fun p hp => ⟨(frame_rd _ _ _ _).go (h.2 p hp).1 hk hg, (h.2 p hp).2⟩⟩⟩
theorem FMat.mat {V : Option Addr} {n c : Nat} {ps : List Cr.Part} {w : World} {S : Nat → Prop} (h : FMat V n c ps w S) : Cr.Mat w V n c ps := ⟨h.1.1, fun p hp => ⟨(h.2 p hp).1.1, (h.2 p hp).2⟩⟩
/-- Records in new memory lie outside what the disk has. -/
theorem NewMat.out {B n c : Nat} {w : World} {V : Option Addr} {l : List (List Nat)} {ps : List Cr.Part} {S : Nat → Prop} (h : NewMat B w V n c l ps) (hS : ∀ k, S k → k < B) : FMat V n c ps w S := by
  refine ⟨⟨h.mat.row, fun h0 ad e hs => ?_⟩, fun p hp => ⟨⟨(h.mat.part p hp).1, fun h0 ad e hs => ?_⟩, (h.mat.part p hp).2⟩⟩
  · have := h.row h0 ad e
    have := hS _ hs
    omega
  · have := h.part p hp h0 ad e
    have := hS _ hs
    omega
/-- Records that came in lie outside what is new. -/
theorem fmat_arg {w w1 : World} {S : Nat → Prop} {V : Option Addr} {n c : Nat} {ps : List Cr.Part} (h : Cr.Mat w V n c ps) (hl : ∀ k, S k → w.heap.size ≤ k) (hb : Below w.heap.size w w1) : FMat V n c ps w1 S := by
  have hrd : ∀ {A : Option Addr} {n c : Nat} {xs : List Value}, Rd w A n c xs → FRd A n c xs w1 S := fun {A n c xs} h => by
    refine ⟨h.below hb, fun h0 ad e hs => ?_⟩
    obtain ⟨ad', e', hlt, _⟩ := h.spot h0
    cases e.symm.trans e'
    have := hl _ hs
    omega
  exact ⟨hrd h.row, fun p hp => ⟨hrd (h.part p hp).1, (h.part p hp).2⟩⟩
theorem Does.on {I : Held} {S S1 : Nat → Prop} {p : Nat} {r : Nat × Dk} {w w1 w' : World} {e : Ending} (h : Does I p S1 r w1 e w') (hk : Keeps S w w1) (hg : Grew S S1 w) : Does I p S r w e w' := by
  obtain ⟨h1, S', h2, h3, h4⟩ := h
  exact ⟨h1, S', h2, hg.trans h3 hk.size, hk.trans h4 hg⟩
theorem stays_refl {I : Held} {w : World} {S : Nat → Prop} {p : Nat} {d : Dk} (h : I w S p d) : Stays I p S d w w := ⟨S, h, Grew.refl S w, Keeps.refl S w⟩
/-- What a call that only makes memory leaves of the disk. -/
theorem have_bel {I : Held} (hH : Has2 I) {w w' : World} {S : Nat → Prop} {p : Nat} {d : Dk} (h : I w S p d) (hb : Below w.heap.size w w') : I w' S p d := hH.keep h (T := fun _ => False) (Keeps.ofBelow hb) fun _ _ h => h
end Go.Proofs.YthkbmmebfkaphaaDoor.Lg
