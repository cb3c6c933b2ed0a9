/-
  Texts of earlier layers, as one.
-/
import Derived.Test.YtbjooblaamjppaaGreatROpen
import Derived.Test.YtbjooblaamjppaaGreatRecSmall
/- A record that came in, opened. -/
namespace Go.Proofs.YtbjooblaamjppaaGreat.Rk
open Go.ChangeShapes Go.WideShapes Go.ChangeAt Go.RowKit Mem Ids Att
section
variable {H : Type} {enc : TypeId × Value → H} {W : World} {held : Bool}
set_option maxRecDepth 100000 in
theorem rec_of {fuel : Nat} {cs : List Value} {x : DataW H × List MemPlace} (h : DataW.trod enc Tryz.prog W 0 (fun _ => true) held fuel 32 cs = some x) :
    ∃ (y : Rc) (A : Option Addr) (n c : Nat), cs = [.int .i64 y.id.1, .int .i64 y.id.2, .int .i64 y.st, .int .i64 y.bl.1, .int .i64 y.bl.2, .int .i64 y.tk.1, .int .i64 y.tk.2, .int .i64 y.cm.kd, .int .i64 y.cm.cl, .int .i64 y.cm.sq, .string y.cm.ky, .string y.cm.vl, .int .i64 y.cm.rv, .slice A n c, .int .i64 y.at_.sq, .int .i64 y.at_.tg] ∧ Rs W A n c y.at_.dp := by
  obtain ⟨ys, n, _, _, hlen, hyl, hf⟩ := DataW.trod_struct Tryz.underlying32 h
  have hC : Tryz.prog.cellsOf 32 = 16 := by kernel_rfl
  have hc1 : Tryz.prog.cellsOf 3 = 1 := by kernel_rfl
  have hc2 : Tryz.prog.cellsOf 23 = 2 := by kernel_rfl
  have hc3 : Tryz.prog.cellsOf 25 = 2 := by kernel_rfl
  have hc4 : Tryz.prog.cellsOf 27 = 6 := by kernel_rfl
  have hc5 : Tryz.prog.cellsOf 30 = 3 := by kernel_rfl
  match ys, hyl with
  | [y0, y1, y2, y3, y4, y5], _ =>
  match cs, hlen.trans hC with
  | [c0, c1, c2, c3, c4, c5, c6, c7, c8, c9, c10, c11, c12, c13, c14, c15], _ =>
  have g0 := hf 0 _ rfl
  have g1 := hf 1 _ rfl
  have g2 := hf 2 _ rfl
  have g3 := hf 3 _ rfl
  have g4 := hf 4 _ rfl
  have g5 := hf 5 _ rfl
  simp [hc1, hc2, hc3, hc4, hc5] at g0 g1 g2 g3 g4 g5
  obtain ⟨i, e0, _⟩ := id_of g0
  obtain ⟨k1, hk1, _, w1⟩ := DataW.trod_int Tryz.underlying3 g1
  obtain ⟨b, e2, _⟩ := Bal.bal_of g2
  obtain ⟨t, e3, _⟩ := Bal.bal_of g3
  obtain ⟨m, e4, _⟩ := cmd_of g4
  obtain ⟨a, A, n', c', e5, hr⟩ := att_of g5
  simp only [List.cons.injEq, and_true] at e0 hk1 e2 e3 e4 e5
  obtain ⟨rfl, rfl⟩ := e0
  subst hk1
  obtain ⟨rfl, rfl⟩ := e2
  obtain ⟨rfl, rfl⟩ := e3
  obtain ⟨rfl, rfl, rfl, rfl, rfl, rfl⟩ := e4
  obtain ⟨rfl, rfl, rfl⟩ := e5
  exact ⟨⟨i, k1, b, t, m, a⟩, A, n', c', rfl, hr⟩
end
end Go.Proofs.YtbjooblaamjppaaGreat.Rk
