/-
  Texts of earlier layers, as one.
-/
import Derived.Test.YtlcggldcofncgaaIdxMine
import Derived.Test.YtlcggldcofncgaaRowOpen
import Derived.Test.YtlcggldcofncgaaROpen
/- Ids, and acts of an index, that came in, as the rows' reading opens them. -/
namespace Go.Proofs.Ytlcggldcofncgaa.Ix
open Go.ChangeShapes Go.WideShapes Go.ChangeAt Go.RowKit Mem Ky Cmd

def encI (i : Int × Int) : List Value := [.int .i64 i.1, .int .i64 i.2]
/-- What is done with an index. -/
structure Ac where
  d : Int
  i : Int × Int
  c : Cm
  s : Int
def encA (y : Ac) : List Value := [.int .i64 y.d, .int .i64 y.i.1, .int .i64 y.i.2, .int .i64 y.c.kd, .int .i64 y.c.cl, .int .i64 y.c.sq, .string y.c.ky, .string y.c.vl, .int .i64 y.c.rv, .int .i64 y.s]
def LA : Lay Ac := ⟨encA, 10, fun _ => rfl, fun x u hu => by
  simp only [encA, List.mem_cons, List.not_mem_nil, or_false] at hu
  rcases hu with rfl | rfl | rfl | rfl | rfl | rfl | rfl | rfl | rfl | rfl <;> rfl, by omega⟩
/-- What an act that came in is. -/
def Fit_ (y : Ac) : Prop := Wf y.i ∧ (Lit.int .i64 y.c.cl).wf = true
section
variable {H : Type} {enc : TypeId × Value → H} {W : World} {held : Bool}
set_option maxRecDepth 100000 in
theorem id_in {fuel : Nat} {l : List Value} {x : DataW H × List MemPlace} (h : DataW.trod enc Try.prog W 0 (fun _ => true) held fuel 26 l = some x) :
    ∃ y : Int × Int, l = encI y ∧ Wf y := by
  obtain ⟨ys, n, _, _, hlen, hyl, hf⟩ := DataW.trod_struct Try.underlying26 h
  have hC : Try.prog.cellsOf 26 = 2 := by kernel_rfl
  have hc1 : Try.prog.cellsOf 3 = 1 := by kernel_rfl
  match ys, hyl with
  | [y0, y1], _ =>
  match l, hlen.trans hC with
  | [c0, c1], _ =>
  have g0 := hf 0 _ rfl
  have g1 := hf 1 _ rfl
  simp [hc1] at g0 g1
  obtain ⟨k0, hk0, _, w0⟩ := DataW.trod_int Try.underlying3 g0
  obtain ⟨k1, hk1, _, w1⟩ := DataW.trod_int Try.underlying3 g1
  simp only [List.cons.injEq, and_true] at hk0 hk1
  subst hk0; subst hk1
  exact ⟨(k0, k1), rfl, w0, w1⟩
set_option maxRecDepth 100000 in
theorem act_in {fuel : Nat} {l : List Value} {x : DataW H × List MemPlace} (h : DataW.trod enc Try.prog W 0 (fun _ => true) held fuel 34 l = some x) :
    ∃ y : Ac, l = encA y ∧ Fit_ y := by
  obtain ⟨ys, n, _, _, hlen, hyl, hf⟩ := DataW.trod_struct Try.underlying34 h
  have hC : Try.prog.cellsOf 34 = 10 := by kernel_rfl
  have hc1 : Try.prog.cellsOf 3 = 1 := by kernel_rfl
  have hc2 : Try.prog.cellsOf 26 = 2 := by kernel_rfl
  have hc3 : Try.prog.cellsOf 24 = 6 := by kernel_rfl
  match ys, hyl with
  | [y0, y1, y2, y3], _ =>
  match l, hlen.trans hC with
  | [c0, c1, c2, c3, c4, c5, c6, c7, c8, c9], _ =>
  have g0 := hf 0 _ rfl
  have g1 := hf 1 _ rfl
  have g2 := hf 2 _ rfl
  have g3 := hf 3 _ rfl
  simp [hc1, hc2, hc3] at g0 g1 g2 g3
  obtain ⟨k0, hk0, _, w0⟩ := DataW.trod_int Try.underlying3 g0
  obtain ⟨y, hy, hw⟩ := id_in g1
  obtain ⟨z, hz, hzk, hzc, _⟩ := cmd_of g2
  obtain ⟨k3, hk3, _, w3⟩ := DataW.trod_int Try.underlying3 g3
  unfold encI at hy
  simp only [List.cons.injEq, and_true] at hk0 hk3 hy hz
  obtain ⟨hy0, hy1⟩ := hy
  obtain ⟨hz0, hz1, hz2, hz3, hz4, hz5⟩ := hz
  subst hk0; subst hk3; subst hy0; subst hy1; subst hz0; subst hz1; subst hz2; subst hz3; subst hz4; subst hz5
  exact ⟨⟨k0, y, z, k3⟩, rfl, hw, wf_int hzc⟩
theorem acts_in {fuel : Nat} {a : Option Addr} {len cap : Nat} {x : DataW H × List MemPlace} (h : DataW.trod enc Try.prog W 0 (fun _ => true) held fuel 22 [.slice a len cap] = some x) : ∃ l, Rw LA W a len cap l ∧ ∀ y ∈ l, Fit_ y :=
  rows_of Try.underlying22 (by kernel_rfl) (⟨0, (0, 0), zeroCm, 0⟩ : Ac) Fit_ (fun y : Ac => ⟨y.d, rfl⟩) (fun h => act_in h) h
end
end Go.Proofs.Ytlcggldcofncgaa.Ix
