/-
  The library's contracts that this program's own calls need, laid at its numbers: each is one application of a theorem of the kit's library.
-/
import Derived.Test.YtccbkpdkmdnmfaaProg
import Derived.Shelf.SlSorted.Search
import Derived.Ground.SlsoProg
namespace Go.Proofs
open Go.Shelf
def Try.searchAny_ren : Go.Shelf.Ren := ⟨fun | 16 => 45 | n => n, fun | 3 => 3 | 35 => 73 | 4 => 4 | 38 => 81 | n => n, fun | n => n⟩
theorem Try.searchAny : Go.Proofs.SlLaysO.n16 Try.prog Try.searchAny_ren := {
  mixed := by kernel_rfl
  f16 := Try.func45.trans (congrArg some (by kernel_rfl))
  t3 := Try.underlying3
  a3 := Try.isAgg3
  z3 := Try.sizeOf3
  v3 := Try.zeroValue3
  t4 := Try.underlying4
  a4 := Try.isAgg4
  z4 := Try.sizeOf4
  v4 := Try.zeroValue4
  t35 := Try.underlying73
  a35 := Try.isAgg73
  z35 := Try.sizeOf73
  v35 := Try.zeroValue73
  t38 := Try.underlying81
  a38 := Try.isAgg81
  z38 := Try.sizeOf81
  v38 := Try.zeroValue81 }
end Go.Proofs
