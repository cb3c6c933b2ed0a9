/-
  DERIVED. GIVEN WITH THE SEED: THE PROGRAM's TIES (one call each: nine closed facts by the kernel) AND EACH ROW's TIE, after the 31st guide's Derived/Test/Toyas{Tie, Card}.lean. No idea stands in it: it is a product of the set-up. Laid BY PROGRAM, IN A SANDBOX (cutbox-door.mjs). By AI agents, Wed Nov 11 2026. No macro, syntax, notation, axiom, sorry.
-/
import Derived.Test.YthlhchaoedcdbaaGreatDoorRows
import Derived.LaidByTextLater
import Derived.SevenTiedAt
import Derived.LaidSub
import Derived.LaidOnce
namespace Go.Proofs.YthlhchaoedcdbaaGreatDoor
open Go
set_option maxRecDepth 100000
theorem seatTie1 : Tryz.prog.laidByTextLater [("stonecrop/crc.halves", Rows.laid_stonecrop_crc_halves), ("stonecrop/msg.named", Rows.laid_stonecrop_msg_named), ("stonecrop/shim.attrAt", Rows.laid_stonecrop_shim_attrAt)] [.data, .data, .data] true :=
  Program.laidByTextLater_by_one 24 8 17 (by kernel_rfl) (by kernel_rfl) (by kernel_rfl) (by kernel_rfl) (by kernel_rfl) (by kernel_rfl) (fun _ _ => by kernel_rfl)
theorem noOwnUnsafe : Tryz.pinned.checked.prog.headLifts.contains "ownunsafe" = false := by kernel_rfl
theorem tie : Tryz.prog.laidByTextLater [("stonecrop/crc.halves", Rows.laid_stonecrop_crc_halves), ("stonecrop/msg.named", Rows.laid_stonecrop_msg_named), ("stonecrop/shim.attrAt", Rows.laid_stonecrop_shim_attrAt)] [.data, .data, .data] true :=
  Program.laidByTextLater.sub seatTie1 ["stonecrop/crc.halves", "stonecrop/msg.named", "stonecrop/shim.attrAt"] (by kernel_rfl) (by kernel_rfl)
theorem shimDowns_row_tie : Rows.shimDownsRow.laidByTextAt .later Tryz.pinned [.data, .data, .data] true :=
  OpenClaim.laidByTextAt_later rfl rfl tie noOwnUnsafe
theorem shimReads_row_tie : Rows.shimReadsRow.laidByTextAt .later Tryz.pinned [.data, .data, .data] true :=
  OpenClaim.laidByTextAt_later rfl rfl tie noOwnUnsafe
theorem shimDownsUpto_row_tie : Rows.shimDownsUptoRow.laidByTextAt .later Tryz.pinned [.data, .data, .data] true :=
  OpenClaim.laidByTextAt_later rfl rfl tie noOwnUnsafe
theorem shimReadsUpto_row_tie : Rows.shimReadsUptoRow.laidByTextAt .later Tryz.pinned [.data, .data, .data] true :=
  OpenClaim.laidByTextAt_later rfl rfl tie noOwnUnsafe
end Go.Proofs.YthlhchaoedcdbaaGreatDoor
