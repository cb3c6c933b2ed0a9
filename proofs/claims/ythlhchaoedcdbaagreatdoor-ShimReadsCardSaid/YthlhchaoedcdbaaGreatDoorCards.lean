/-
  DERIVED. GIVEN WITH THE SEED: THE CARDS: each row of YthlhchaoedcdbaaGreatDoorRows.lean that lists a variable, with what it lists TIED to the program's text (the seventh form; the later family's looks); each row that meets fmt, with fmt's text TOLD by the authors' own Lean function (tested against real Go, not proved from fmt's source: count such statements apart). THE CARD IS WHAT COUNTS. Prove the row's statement (the work); the ties are given (YthlhchaoedcdbaaGreatDoorTie.lean); close each card by the builder's one call (the guide's Derived/Test/ToyasCard.lean, 'card_holds'). Laid BY PROGRAM, IN A SANDBOX (cutbox-door.mjs). By AI agents, Wed Nov 11 2026. No macro, syntax, notation, axiom, sorry.
-/
import Derived.Test.YthlhchaoedcdbaaGreatDoorRows
import GoSem.ClaimSeven
namespace Go.Proofs.YthlhchaoedcdbaaGreatDoor
namespace Rows

/-- THE TIED CARD OF 'stonecroplaw11.ShimDowns'. -/
def shimDownsCard : Claim7 := { stood := { row := shimDownsRow, standIns := [], harness := (true, "5f67cc2efac081479528e93805d3a2074068901b0e8957976916f7d4468c1f03"), looks := true }, kinds := [], alts := [], laidByText := true, laidKinds := [.data, .data, .data], laidTests := true, laidLooks := .later }
def ShimDownsCardSaid : Prop := Claim7.holds Tryz.pinned (.plain (OpenSpec.ofChange shimDownsSpec)) shimDownsCard

/-- THE TIED CARD OF 'stonecroplaw11.ShimReads'. -/
def shimReadsCard : Claim7 := { stood := { row := shimReadsRow, standIns := [], harness := (true, "5f67cc2efac081479528e93805d3a2074068901b0e8957976916f7d4468c1f03"), looks := true }, kinds := [], alts := [], laidByText := true, laidKinds := [.data, .data, .data], laidTests := true, laidLooks := .later }
def ShimReadsCardSaid : Prop := Claim7.holds Tryz.pinned (.plain (OpenSpec.ofChange shimReadsSpec)) shimReadsCard

/-- THE SECOND FORM's CARD OF 'stonecroplaw11.ShimDowns'. -/
def shimDownsUptoCard : Claim7 := { stood := { row := shimDownsUptoRow, standIns := [], harness := (true, "5f67cc2efac081479528e93805d3a2074068901b0e8957976916f7d4468c1f03"), looks := true }, kinds := [], alts := [], laidByText := true, laidKinds := [.data, .data, .data], laidTests := true, laidLooks := .later }
def ShimDownsUptoCardSaid : Prop := Claim7.holds Tryz.pinned (.plain (OpenSpec.upto shimDownsSpec)) shimDownsUptoCard

/-- THE SECOND FORM's CARD OF 'stonecroplaw11.ShimReads'. -/
def shimReadsUptoCard : Claim7 := { stood := { row := shimReadsUptoRow, standIns := [], harness := (true, "5f67cc2efac081479528e93805d3a2074068901b0e8957976916f7d4468c1f03"), looks := true }, kinds := [], alts := [], laidByText := true, laidKinds := [.data, .data, .data], laidTests := true, laidLooks := .later }
def ShimReadsUptoCardSaid : Prop := Claim7.holds Tryz.pinned (.plain (OpenSpec.upto shimReadsSpec)) shimReadsUptoCard
end Rows
end Go.Proofs.YthlhchaoedcdbaaGreatDoor
