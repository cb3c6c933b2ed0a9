/-
  What instances hang on, that came in, opened.
-/
import Derived.Test.YtccbkpdkmdnmfaaAttPlain
import Derived.Test.YtccbkpdkmdnmfaaIdsOpen
import Derived.Deep.Slices
import Derived.Deep.Fields
import Derived.SizedLaws
namespace Go.Proofs.Ytccbkpdkmdnmfaa
open Go.ChangeShapes Go.WideShapes Go.ChangeAt Go.RowKit Mem Ids Att
section
variable {H : Type} {enc : TypeId × Value → H} {W : World} {held : Bool}
theorem att_of {fuel : Nat} {cs : List Value} {x : DataW H × List MemPlace} (h : DataW.trod enc Try.prog W 0 (fun _ => true) held fuel 24 cs = some x) :
    ∃ (y : At) (A : Option Addr) (n c : Nat), cs = [.slice A n c, .int .i64 y.sq, .int .i64 y.tg] ∧ Rs W A n c y.dp := by
  obtain ⟨ys, n, _, _, hlen, hyl, hf⟩ := DataW.trod_struct Try.underlying24 h
  have hC : Try.prog.cellsOf 24 = 3 := by kernel_rfl
  have hc1 : Try.prog.cellsOf 3 = 1 := by kernel_rfl
  have hc2 : Try.prog.cellsOf 22 = 1 := by kernel_rfl
  match ys, hyl with
  | [y0, y1, y2], _ =>
  match cs, hlen.trans hC with
  | [c0, c1, c2], _ =>
  have g0 := hf 0 _ rfl
  have g1 := hf 1 _ rfl
  have g2 := hf 2 _ rfl
  simp [hc1, hc2] at g0 g1 g2
  obtain ⟨k1, hk1, _, w1⟩ := DataW.trod_int Try.underlying3 g1
  obtain ⟨k2, hk2, _, w2⟩ := DataW.trod_int Try.underlying3 g2
  obtain ⟨a, len, cap, l, e, hr⟩ := ids_of' g0
  simp only [List.cons.injEq, and_true] at hk1 hk2 e
  subst hk1; subst hk2; subst e
  exact ⟨⟨l, k1, k2⟩, a, len, cap, rfl, hr⟩
end
end Go.Proofs.Ytccbkpdkmdnmfaa
