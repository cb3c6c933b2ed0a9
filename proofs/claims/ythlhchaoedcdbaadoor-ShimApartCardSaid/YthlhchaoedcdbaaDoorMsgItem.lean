/-
  Texts of earlier layers, as one.
-/
import Derived.Test.YthlhchaoedcdbaaDoorMsgBase
import Derived.Test.YthlhchaoedcdbaaDoorMsgPl
import Derived.Test.YthlhchaoedcdbaaDoorRAtt
import Derived.Deep.Cut
import Derived.Deep.RegionHeld
/- The document's Item of a right message, in either form. -/
namespace Go.Proofs.YthlhchaoedcdbaaDoor.Mg
open Go.RowKit Mem Ids Att Cod Rk

theorem num_cells (v : Int) (h : 0 ≤ v) : (⟨Cmd.numIt v, none, 0⟩ : Hung).cells = [.int .i64 0, .int .u64 v, .string ByteArray.empty, .slice none 0 0] := by
  show [Value.int .i64 0, .int .u64 ((v.toNat : Nat) : Int), .string ByteArray.empty, .slice none 0 0] = _
  rw [Int.toNat_of_nonneg h]
theorem cells4_h (a : Hung) : cells4 [a] = a.cells := by simp [cells4]
theorem cells4_hh (a b : Hung) : cells4 [a, b] = a.cells ++ b.cells := by simp [cells4]
theorem lies_num (w : World) (S : Nat → Prop) (v : Int) (h : v ≤ 1099511627776) : Lies w S (Cmd.numIt v) none 0 := lies_leaf w S (by decide) (by omega) (by decide)
end Go.Proofs.YthlhchaoedcdbaaDoor.Mg
