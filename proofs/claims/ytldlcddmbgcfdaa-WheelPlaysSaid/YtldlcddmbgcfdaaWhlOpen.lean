/-
  Texts of earlier layers, as one.
-/
import Derived.Test.YtldlcddmbgcfdaaWhlMine
import Derived.Test.YtldlcddmbgcfdaaRowOpen
/- Ids, slices of ids and acts of a wheel that came in, as the rows' reading opens them. -/
namespace Go.Proofs.Ytldlcddmbgcfdaa.Wh
open Go.ChangeShapes Go.WideShapes Go.ChangeAt Go.RowKit Mem

/-- What is done with a wheel. -/
structure Ac where
  d : Int
  i : Int × Int
  a : Int
def encA (y : Ac) : List Value := [.int .i64 y.d, .int .i64 y.i.1, .int .i64 y.i.2, .int .i64 y.a]
def LA : Lay Ac := ⟨encA, 4, fun _ => rfl, fun x u hu => by
  simp only [encA, List.mem_cons, List.not_mem_nil, or_false] at hu
  rcases hu with rfl | rfl | rfl | rfl <;> rfl, by omega⟩
section
variable {H : Type} {enc : TypeId × Value → H} {W : World} {held : Bool}
set_option maxRecDepth 100000 in
theorem id_in {fuel : Nat} {l : List Value} {x : DataW H × List MemPlace} (h : DataW.trod enc Try.prog W 0 (fun _ => true) held fuel 28 l = some x) :
    ∃ y : Int × Int, l = encI y ∧ Wf y := by
  obtain ⟨ys, n, _, _, hlen, hyl, hf⟩ := DataW.trod_struct Try.underlying28 h
  have hC : Try.prog.cellsOf 28 = 2 := by kernel_rfl
  have hc1 : Try.prog.cellsOf 3 = 1 := by kernel_rfl
  match ys, hyl with
  | [y0, y1], _ =>
  match l, hlen.trans hC with
  | [c0, c1], _ =>
  have g0 := hf 0 _ rfl
  have g1 := hf 1 _ rfl
  simp [hc1] at g0 g1
  obtain ⟨k0, hk0, _, w0⟩ := DataW.trod_int Try.underlying3 g0
  obtain ⟨k1, hk1, _, w1⟩ := DataW.trod_int Try.underlying3 g1
  simp only [List.cons.injEq, and_true] at hk0 hk1
  subst hk0; subst hk1
  exact ⟨(k0, k1), rfl, w0, w1⟩
theorem ids_in {fuel : Nat} {a : Option Addr} {len cap : Nat} {x : DataW H × List MemPlace} (h : DataW.trod enc Try.prog W 0 (fun _ => true) held fuel 40 [.slice a len cap] = some x) : ∃ l, Rw LI W a len cap l ∧ ∀ y ∈ l, Wf y :=
  rows_of Try.underlying40 (by kernel_rfl) ((0, 0) : Int × Int) Wf (fun y : Int × Int => ⟨y.1, rfl⟩) (fun h => id_in h) h
set_option maxRecDepth 100000 in
theorem act_in {fuel : Nat} {l : List Value} {x : DataW H × List MemPlace} (h : DataW.trod enc Try.prog W 0 (fun _ => true) held fuel 30 l = some x) :
    ∃ y : Ac, l = encA y ∧ Wf y.i := by
  obtain ⟨ys, n, _, _, hlen, hyl, hf⟩ := DataW.trod_struct Try.underlying30 h
  have hC : Try.prog.cellsOf 30 = 4 := by kernel_rfl
  have hc1 : Try.prog.cellsOf 3 = 1 := by kernel_rfl
  have hc2 : Try.prog.cellsOf 28 = 2 := by kernel_rfl
  match ys, hyl with
  | [y0, y1, y2], _ =>
  match l, hlen.trans hC with
  | [c0, c1, c2, c3], _ =>
  have g0 := hf 0 _ rfl
  have g1 := hf 1 _ rfl
  have g2 := hf 2 _ rfl
  simp [hc1, hc2] at g0 g1 g2
  obtain ⟨k0, hk0, _, w0⟩ := DataW.trod_int Try.underlying3 g0
  obtain ⟨y, hy, hw⟩ := id_in g1
  obtain ⟨k2, hk2, _, w2⟩ := DataW.trod_int Try.underlying3 g2
  unfold encI at hy
  simp only [List.cons.injEq, and_true] at hk0 hk2 hy
  obtain ⟨hy0, hy1⟩ := hy
  subst hk0; subst hk2; subst hy0; subst hy1
  exact ⟨⟨k0, y, k2⟩, rfl, hw⟩
theorem acts_in {fuel : Nat} {a : Option Addr} {len cap : Nat} {x : DataW H × List MemPlace} (h : DataW.trod enc Try.prog W 0 (fun _ => true) held fuel 22 [.slice a len cap] = some x) : ∃ l, Rw LA W a len cap l ∧ ∀ y ∈ l, Wf y.i :=
  rows_of Try.underlying22 (by kernel_rfl) (⟨0, (0, 0), 0⟩ : Ac) (fun y : Ac => Wf y.i) (fun y : Ac => ⟨y.d, rfl⟩) (fun h => act_in h) h
end
end Go.Proofs.Ytldlcddmbgcfdaa.Wh
