/-
  Texts of earlier layers, as one.
-/
import Derived.Test.YthlhchaoedcdbaaGreatDoorRows
import Derived.Test.YthlhchaoedcdbaaGreatDoorMsgOw
import Derived.Lib.LaidTab
import Derived.LaidSub
import Derived.LaidLaws
import Derived.Deep.DeepHandedRow
/- What the rows' lists give: the three tables lie in the world as the program's text lays them; and a world for the witnesses. -/
namespace Go.Proofs.YthlhchaoedcdbaaGreatDoor.Mg
open Go.ChangeShapes Go.WideShapes Go.ChangeAt Go.RowKit
def plc : List Int := [0, 5, 4, 5, 0, 4, 0, 7, 0, 0]
def Pla (w : World) : Prop := ∀ k : Nat, k < 10 → w.cell? ⟨0, k, none⟩ = some (.int .i64 (plc.getD k 0))
theorem Pla.below {w w' : World} (h : Pla w) (hb : Below w.heap.size w w') : Pla w' := fun k hk => by
 have := h k hk;exact (hb.cell (World.block_lt_of_cell? w _ this)).trans this
def kinds10 : List Int := [0, 27, 19, 27, 3, 25, 3, 31, 3, 32]
theorem gTab : Tryz.prog.globalNamed "stonecrop/crc.halves" = some 2 := by kernel_rfl
theorem gNam : Tryz.prog.globalNamed "stonecrop/msg.named" = some 1 := by kernel_rfl
theorem gPla : Tryz.prog.globalNamed "stonecrop/shim.attrAt" = some 0 := by kernel_rfl
theorem gTabType : (Tryz.prog.globals[2]?).map (·.type) = some 185 := by kernel_rfl
theorem gNamType : (Tryz.prog.globals[1]?).map (·.type) = some 79 := by kernel_rfl
theorem gPlaType : (Tryz.prog.globals[0]?).map (·.type) = some 79 := by kernel_rfl
theorem cellsTab : Tryz.prog.cellsOf 185 = 16 := by kernel_rfl
theorem cellsNam : Tryz.prog.cellsOf 79 = 10 := by kernel_rfl
theorem cellsWord : Tryz.prog.cellsOf 94 = 1 := by kernel_rfl
theorem cellsInt : Tryz.prog.cellsOf 3 = 1 := by kernel_rfl
structure Glob (w : World) : Prop where
 sums : Cr.Tab w
 named : Nam w
 places : Pla w
theorem Glob.below {w w' : World} (h : Glob w) (hb : Below w.heap.size w w') : Glob w' := ⟨h.1.below hb, h.2.below hb, h.3.below hb⟩
theorem globOf {W : World} (h : laidMetH Tryz.prog [("stonecrop/crc.halves", Rows.laid_stonecrop_crc_halves), ("stonecrop/msg.named", Rows.laid_stonecrop_msg_named), ("stonecrop/shim.attrAt", Rows.laid_stonecrop_shim_attrAt)] W) : Glob W := by
 refine ⟨fun i hi => ?_, fun k hk => ?_, fun k hk => ?_⟩
 · have h1 : Lib.TabIs Tryz.prog W "stonecrop/crc.halves" .u32 (Crc.tab.map fun (n : Nat) => (n : Int)) := Lib.tabIs_of_head gTab gTabType Tryz.underlying185 Tryz.underlying94 cellsWord cellsTab h
   have hc := h1.cell gTab i (by simpa [Crc.tab] using hi);rw [hc];have ht := Crc.tab_ok i hi;simp [List.getD, List.getElem?_map, ht]
 · have h1 := laidMetH.filter (fun x => x.1 == "stonecrop/msg.named") h
   have h2 : Lib.TabIs Tryz.prog W "stonecrop/msg.named" .i64 kinds10 := Lib.tabIs_of_head (rest := []) gNam gNamType Tryz.underlying79 Tryz.underlying3 cellsInt cellsNam h1;exact (h2.cell gNam k hk).trans rfl
 · have h1 := laidMetH.filter (fun x => x.1 == "stonecrop/shim.attrAt") h
   have h2 : Lib.TabIs Tryz.prog W "stonecrop/shim.attrAt" .i64 plc := Lib.tabIs_of_head (rest := []) gPla gPlaType Tryz.underlying79 Tryz.underlying3 cellsInt cellsNam h1;exact (h2.cell gPla k hk).trans rfl
noncomputable def putTab (k : IntKind) (zs : List Int) : Obj → Obj
 | .cells _ t frozen => .cells (zs.map fun z => Value.int k z).toArray t frozen
 | o => o
noncomputable def laidWorld (os : Os) : World :=
 let w0 := World.holding Tryz.prog os ⟨#[], #[], []⟩
 { w0 with heap := (w0.heap.modify 2 (putTab .u32 (Crc.tab.map fun (n : Nat) => (n : Int)))).modify 1 (putTab .i64 kinds10) |>.modify 0 (putTab .i64 plc) }
end Go.Proofs.YthlhchaoedcdbaaGreatDoor.Mg
