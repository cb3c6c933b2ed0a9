/-
  Texts of earlier layers, as one.
-/
import Derived.Test.YtlcggldcofncgaaIdxDeps
import Derived.Test.YtlcggldcofncgaaIdxPut
/- An index, and what lasts while it alone is turned. -/
namespace Go.Proofs.Ytlcggldcofncgaa.Ix
open Go.RowKit Mem Dsk Cmd Ids Ky

/-- An index, and what lasts. -/
def Mine (F : World → (Nat → Prop) → Prop) (w : World) (p M : Nat) (l : List En) : Prop := ∃ S, II w S p M l ∧ F w S
/-- A row of the call's own outside of a set's blocks. -/
def FOwn (B : Nat) (t : TypeId) (s : Nat) (V : Option Addr) (n c : Nat) (xs : List Value) (w : World) (S : Nat → Prop) : Prop := w.ownsRow B t s (.slice V n c) n xs ∧ ∀ k, (Value.slice V n c).ownBlock = some k → ¬ S k
theorem frame_own (B : Nat) (t : TypeId) (s : Nat) (V : Option Addr) (n c : Nat) (xs : List Value) : Dsk.Frame (FOwn B t s V n c xs) := by
  refine ⟨fun {w w' S S'} h hk hg => ⟨own_keep h.1 fun k e hl => hk.block k hl (h.2 k e), fun k e hs => ?_⟩⟩
  rcases hg k hs with h' | h'
  · exact h.2 k e h'
  · have := (h.1.lt k e).2
    omega
section
variable {F : World → (Nat → Prop) → Prop} {w w' : World} {p M : Nat} {l : List En}
theorem Mine.bel (h : Mine F w p M l) (hFr : Dsk.Frame F) (hb : Below w.heap.size w w') : Mine F w' p M l := by
  obtain ⟨S, h1, h2⟩ := h
  exact ⟨S, ii_below h1 hb, hFr.go h2 (Keeps.ofBelow hb) (Grew.refl S w)⟩
theorem Mine.more {G : World → (Nat → Prop) → Prop} (h : Mine F w p M l) (hg : ∀ S, II w S p M l → F w S → G w S) : Mine G w p M l := by
  obtain ⟨S, h1, h2⟩ := h
  exact ⟨S, h1, hg S h1 h2⟩
theorem Mine.uq (h : Mine F w p M l) : Uq l ∧ l.length ≤ M ∧ ∀ e ∈ l, Wf e.i := by
  obtain ⟨S, h1, _⟩ := h
  exact ii_uq h1
theorem put_mine (hFr : Dsk.Frame F) (i : Int × Int) (c : Cm) (s : Int) (h : Mine F w p M l) (hi : Wf i) (hky : c.ky.size ≤ 281474976710656) (hcl : (Lit.int .i64 c.cl).wf = true) (hM : M ≤ 536870912) :
    Calls Try.prog 11 #[ptr p, .agg #[.int .i64 i.1, .int .i64 i.2], cmV c, .int .i64 s] w (fun e w' => e = .returned (.tuple #[]) ∧ Mine F w' p (M + 2) (putE l i c s)) := by
  obtain ⟨S, h1, h2⟩ := h
  refine (put_any i c s w h1 hi hky hcl hM).mono ?_
  rintro e u ⟨rfl, S', h3, h4, h5⟩
  exact ⟨rfl, S', h3, hFr.go h2 h5 h4⟩
theorem drop_mine (hFr : Dsk.Frame F) (i : Int × Int) (h : Mine F w p M l) (hi : Wf i) :
    Calls Try.prog 12 #[ptr p, .agg #[.int .i64 i.1, .int .i64 i.2]] w (fun e w' => e = .returned (.tuple #[]) ∧ Mine F w' p M (dropE l i)) := by
  obtain ⟨S, h1, h2⟩ := h
  refine (drop_any i w h1 hi).mono ?_
  rintro e u ⟨rfl, h3, h4⟩
  exact ⟨rfl, S, h3, hFr.go h2 h4 (Grew.refl _ _)⟩
theorem deps_mine (c : Cm) (but : Int × Int) (h : Mine F w p M l) (hM : M ≤ 10000) (hky : c.ky.size ≤ 281474976710656) (hcl : (Lit.int .i64 c.cl).wf = true) :
    Calls Try.prog 15 #[ptr p, cmV c, .agg #[.int .i64 but.1, .int .i64 but.2]] w (Gets w (depsE l c but)) := by
  obtain ⟨S, h1, h2⟩ := h
  exact deps_any c but w h1 hM (Nat.le_trans hky (by unfold maxLen; omega)) hcl
theorem seq_mine (c : Cm) (but : Int × Int) (h : Mine F w p M l) (hM : M ≤ 10000) (hky : c.ky.size ≤ 281474976710656) (hcl : (Lit.int .i64 c.cl).wf = true) (htop : topE l c but ≤ 4611686018427387904) :
    Calls Try.prog 17 #[ptr p, cmV c, .agg #[.int .i64 but.1, .int .i64 but.2]] w (fun e w' => e = .returned (.int .i64 (topE l c but + 1)) ∧ Below w.heap.size w w') := by
  obtain ⟨S, h1, h2⟩ := h
  exact seq_any c but w h1 hM (Nat.le_trans hky (by unfold maxLen; omega)) hcl htop
theorem len_mine (h : Mine F w p M l) : Calls Try.prog 13 #[ptr p] w (fun e w' => e = .returned (.int .i64 (l.length : Int)) ∧ w' = w) := by
  obtain ⟨S, h1, h2⟩ := h
  exact len_any w h1
end
theorem wf_small {a b : Int} (ha : -1000 ≤ a ∧ a ≤ 1000) (hb : -1000 ≤ b ∧ b ≤ 1000) : Wf (a, b) := by
  constructor <;> (simp [Lit.wf, IntKind.min, IntKind.max, IntKind.signed, IntKind.bits]; omega)
theorem wf_int {a : Int} (h : -9223372036854775808 ≤ a ∧ a ≤ 9223372036854775807) : (Lit.int .i64 a).wf = true := by
  simp [Lit.wf, IntKind.min, IntKind.max, IntKind.signed, IntKind.bits]
  omega
theorem setl_nil : setl [] = [] := List.eq_nil_of_length_eq_zero (Nat.le_zero.1 (length_setl []))
theorem setl_one (x : Int × Int) : setl [x] = [x] := (setl_eq (by simp [Up]) fun _ => Iff.rfl).symm
end Go.Proofs.Ytlcggldcofncgaa.Ix
