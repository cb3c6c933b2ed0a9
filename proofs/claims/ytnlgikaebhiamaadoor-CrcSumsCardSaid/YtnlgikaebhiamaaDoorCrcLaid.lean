/-
  What the rows' list gives: the table lies in the world as the program's text lays it; and a world for the witnesses.
-/
import Derived.Test.YtnlgikaebhiamaaDoorRows
import Derived.Test.YtnlgikaebhiamaaDoorCrcSum
import Derived.Lib.LaidTab
import Derived.Deep.DeepHandedRow
namespace Go.Proofs.YtnlgikaebhiamaaDoor
open Go.ChangeShapes Go.WideShapes Go.ChangeAt Go.RowKit

theorem gTab : Tryd.prog.globalNamed "stonecrop/crc.halves" = some 0 := by kernel_rfl
theorem gTabType : (Tryd.prog.globals[0]?).map (·.type) = some 36 := by kernel_rfl
theorem cellsTab : Tryd.prog.cellsOf 36 = 16 := by kernel_rfl
theorem cellsWord : Tryd.prog.cellsOf 25 = 1 := by kernel_rfl

theorem table {W : World} (h : laidMetH Tryd.prog Rows.crcSumsRow.laid W) : Lib.TabIs Tryd.prog W "stonecrop/crc.halves" .u32 (Crc.tab.map fun (n : Nat) => (n : Int)) :=
  Lib.tabIs_of_head (rest := []) gTab gTabType Tryd.underlying36 Tryd.underlying25 cellsWord cellsTab h
theorem tabOf {W : World} (h : laidMetH Tryd.prog Rows.crcSumsRow.laid W) : Tab W := by
  intro i hi
  have hc := (table h).cell gTab i (by simpa [Crc.tab] using hi)
  rw [hc]
  have ht := Crc.tab_ok i hi
  simp [List.getD, List.getElem?_map, ht]

/-- A world for the witnesses: the settled one, the table (block 0) holding what its initialiser lays. -/
noncomputable def laidWorld (os : Os) : World :=
  { World.holding Tryd.prog os ⟨#[], #[], []⟩ with heap := (World.holding Tryd.prog os ⟨#[], #[], []⟩).heap.modify 0 fun
      | .cells _ t frozen => .cells (Crc.tab.map fun (n : Nat) => Value.int .u32 (n : Int)).toArray t frozen
      | o => o }
end Go.Proofs.YtnlgikaebhiamaaDoor
