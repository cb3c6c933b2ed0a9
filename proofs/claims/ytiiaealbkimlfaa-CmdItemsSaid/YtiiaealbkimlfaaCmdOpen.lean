/-
  A command that came in, opened.
-/
import Derived.Test.YtiiaealbkimlfaaCmdPlain
import Derived.Test.YtiiaealbkimlfaaProg
import Derived.WalkKit
import Derived.ProofKit
import Derived.OpenShut
import Derived.ShutString
import Derived.Deep.Slices
import Derived.Deep.Fields
import Derived.ChangeSame
import Derived.SizedLaws
namespace Go.Proofs.Ytiiaealbkimlfaa
open Go.ChangeShapes Go.WideShapes Go.ChangeAt Go.RowKit Mem Cmd
section
variable {H : Type} {enc : TypeId × Value → H} {W : World} {held : Bool}

def In64 (v : Int) : Prop := -9223372036854775808 ≤ v ∧ v ≤ 9223372036854775807
theorem cmd_of {fuel : Nat} {cs : List Value} {x : DataW H × List MemPlace} (h : DataW.trod enc Try.prog W 0 (fun _ => true) held fuel 23 cs = some x) :
    ∃ y : Cm, cs = [.int .i64 y.kd, .int .i64 y.cl, .int .i64 y.sq, .string y.ky, .string y.vl, .int .i64 y.rv] ∧ In64 y.kd ∧ In64 y.cl ∧ In64 y.sq ∧ In64 y.rv := by
  obtain ⟨ys, n, _, _, hlen, hyl, hf⟩ := DataW.trod_struct Try.underlying23 h
  have hC : Try.prog.cellsOf 23 = 6 := by kernel_rfl
  have hc1 : Try.prog.cellsOf 3 = 1 := by kernel_rfl
  have hc2 : Try.prog.cellsOf 9 = 1 := by kernel_rfl
  match ys, hyl with
  | [y0, y1, y2, y3, y4, y5], _ =>
  match cs, hlen.trans hC with
  | [c0, c1, c2, c3, c4, c5], _ =>
  have g0 := hf 0 _ rfl
  have g1 := hf 1 _ rfl
  have g2 := hf 2 _ rfl
  have g3 := hf 3 _ rfl
  have g4 := hf 4 _ rfl
  have g5 := hf 5 _ rfl
  simp [hc1, hc2] at g0 g1 g2 g3 g4 g5
  obtain ⟨k0, hk0, _, w0⟩ := DataW.trod_int Try.underlying3 g0
  obtain ⟨k1, hk1, _, w1⟩ := DataW.trod_int Try.underlying3 g1
  obtain ⟨k2, hk2, _, w2⟩ := DataW.trod_int Try.underlying3 g2
  obtain ⟨k5, hk5, _, w5⟩ := DataW.trod_int Try.underlying3 g5
  obtain ⟨s3, hs3, _⟩ := DataW.trod_string Try.underlying9 g3
  obtain ⟨s4, hs4, _⟩ := DataW.trod_string Try.underlying9 g4
  simp only [List.cons.injEq, and_true] at hk0 hk1 hk2 hk5 hs3 hs4
  subst hk0; subst hk1; subst hk2; subst hk5; subst hs3; subst hs4
  exact ⟨⟨k0, k1, k2, s3, s4, k5⟩, rfl, bounds_i64 w0, bounds_i64 w1, bounds_i64 w2, bounds_i64 w5⟩
end
end Go.Proofs.Ytiiaealbkimlfaa
