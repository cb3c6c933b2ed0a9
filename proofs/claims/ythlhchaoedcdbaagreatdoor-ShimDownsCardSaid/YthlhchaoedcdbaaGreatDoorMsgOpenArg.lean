/-
  Texts of earlier layers, as one.
-/
import Derived.Test.YthlhchaoedcdbaaGreatDoorROpen
import Derived.Test.YthlhchaoedcdbaaGreatDoorMsgBase
/- A message that came in, opened. -/
namespace Go.Proofs.YthlhchaoedcdbaaGreatDoor.Mg
open Go.ChangeShapes Go.WideShapes Go.ChangeAt Go.RowKit Mem Ids Att
section
variable {H : Type} {enc : TypeId × Value → H} {W : World} {held : Bool}
set_option maxRecDepth 100000 in
theorem mg_of {fuel : Nat} {cs : List Value} {x : DataW H × List MemPlace} (h : DataW.trod enc Tryz.prog W 0 (fun _ => true) held fuel 32 cs = some x) :
 ∃ (y : Mg) (A : Option Addr) (n c : Nat), cs = [.int .i64 y.kd, .int .i64 y.id.1, .int .i64 y.id.2, .int .i64 y.bl.1, .int .i64 y.bl.2, .int .i64 y.tk.1, .int .i64 y.tk.2, .int .i64 y.st, .int .i64 y.cm.kd, .int .i64 y.cm.cl, .int .i64 y.cm.sq, .string y.cm.ky, .string y.cm.vl, .int .i64 y.cm.rv, .slice A n c, .int .i64 y.at_.sq, .int .i64 y.at_.tg, .int .i64 y.vn] ∧ Rs W A n c y.at_.dp := by
 obtain ⟨ys, n, _, _, hlen, hyl, hf⟩ := DataW.trod_struct Tryz.underlying32 h
 have hC : Tryz.prog.cellsOf 32 = 18 := by kernel_rfl
 have hc1 : Tryz.prog.cellsOf 3 = 1 := by kernel_rfl
 have hc2 : Tryz.prog.cellsOf 23 = 2 := by kernel_rfl
 have hc3 : Tryz.prog.cellsOf 25 = 2 := by kernel_rfl
 have hc4 : Tryz.prog.cellsOf 27 = 6 := by kernel_rfl
 have hc5 : Tryz.prog.cellsOf 30 = 3 := by kernel_rfl
 match ys, hyl with
 | [y0, y1, y2, y3, y4, y5, y6, y7], _ =>
 match cs, hlen.trans hC with
 | [c0, c1, c2, c3, c4, c5, c6, c7, c8, c9, c10, c11, c12, c13, c14, c15, c16, c17], _ =>
 have g0 := hf 0 _ rfl
 have g1 := hf 1 _ rfl
 have g2 := hf 2 _ rfl
 have g3 := hf 3 _ rfl
 have g4 := hf 4 _ rfl
 have g5 := hf 5 _ rfl
 have g6 := hf 6 _ rfl
 have g7 := hf 7 _ rfl
 simp [hc1, hc2, hc3, hc4, hc5] at g0 g1 g2 g3 g4 g5 g6 g7
 obtain ⟨k, hk, _, _⟩ := DataW.trod_int Tryz.underlying3 g0
 obtain ⟨i, e1, _⟩ := id_of g1
 obtain ⟨b, e2, _⟩ := Bal.bal_of g2
 obtain ⟨t, e3, _⟩ := Bal.bal_of g3
 obtain ⟨s, hs, _, _⟩ := DataW.trod_int Tryz.underlying3 g4
 obtain ⟨m, e5, _⟩ := cmd_of g5
 obtain ⟨a, A, n', c', e6, hr⟩ := att_of g6
 obtain ⟨v, hv, _, _⟩ := DataW.trod_int Tryz.underlying3 g7
 simp only [List.cons.injEq, and_true] at hk e1 e2 e3 hs e5 e6 hv
 obtain ⟨rfl, rfl⟩ := e1
 obtain ⟨rfl, rfl⟩ := e2
 obtain ⟨rfl, rfl⟩ := e3
 obtain ⟨rfl, rfl, rfl, rfl, rfl, rfl⟩ := e5
 obtain ⟨rfl, rfl, rfl⟩ := e6
 subst hk hs hv
 exact ⟨⟨k, i, b, t, s, m, a, v⟩, A, n', c', rfl, hr⟩
end
end Go.Proofs.YthlhchaoedcdbaaGreatDoor.Mg
