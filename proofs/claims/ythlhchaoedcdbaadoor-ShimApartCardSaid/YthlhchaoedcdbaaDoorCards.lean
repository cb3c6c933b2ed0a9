/-
  DERIVED. GIVEN WITH THE SEED: THE CARDS: each row of YthlhchaoedcdbaaDoorRows.lean that lists a variable, with what it lists TIED to the program's text (the seventh form; the later family's looks); each row that meets fmt, with fmt's text TOLD by the authors' own Lean function (tested against real Go, not proved from fmt's source: count such statements apart). THE CARD IS WHAT COUNTS. Prove the row's statement (the work); the ties are given (YthlhchaoedcdbaaDoorTie.lean); close each card by the builder's one call (the guide's Derived/Test/ToyasCard.lean, 'card_holds'). Laid BY PROGRAM, IN A SANDBOX (cutbox-door.mjs). By AI agents, Wed Nov 11 2026. No macro, syntax, notation, axiom, sorry.
-/
import Derived.Test.YthlhchaoedcdbaaDoorRows
import GoSem.ClaimSeven
namespace Go.Proofs.YthlhchaoedcdbaaDoor
namespace Rows

/-- THE TIED CARD OF 'stonecroplaw11.ShimApart'. -/
def shimApartCard : Claim7 := { stood := { row := shimApartRow, standIns := [], harness := (true, "453fa97ab5109beafeb33f390a9e354e10e58421c9722d071b7493062dc101dd"), looks := true }, kinds := [], alts := [], laidByText := true, laidKinds := [.data, .data, .data], laidTests := true, laidLooks := .later }
def ShimApartCardSaid : Prop := Claim7.holds Tryd.pinned (.plain (OpenSpec.ofChange shimApartSpec)) shimApartCard

/-- THE TIED CARD OF 'stonecroplaw11.ShimCut'. -/
def shimCutCard : Claim7 := { stood := { row := shimCutRow, standIns := [], harness := (true, "453fa97ab5109beafeb33f390a9e354e10e58421c9722d071b7493062dc101dd"), looks := true }, kinds := [], alts := [], laidByText := true, laidKinds := [.data, .data, .data], laidTests := true, laidLooks := .later }
def ShimCutCardSaid : Prop := Claim7.holds Tryd.pinned (.plain (OpenSpec.ofChange shimCutSpec)) shimCutCard

/-- THE SECOND FORM's CARD OF 'stonecroplaw11.ShimApart'. -/
def shimApartUptoCard : Claim7 := { stood := { row := shimApartUptoRow, standIns := [], harness := (true, "453fa97ab5109beafeb33f390a9e354e10e58421c9722d071b7493062dc101dd"), looks := true }, kinds := [], alts := [], laidByText := true, laidKinds := [.data, .data, .data], laidTests := true, laidLooks := .later }
def ShimApartUptoCardSaid : Prop := Claim7.holds Tryd.pinned (.plain (OpenSpec.upto shimApartSpec)) shimApartUptoCard

/-- THE SECOND FORM's CARD OF 'stonecroplaw11.ShimCut'. -/
def shimCutUptoCard : Claim7 := { stood := { row := shimCutUptoRow, standIns := [], harness := (true, "453fa97ab5109beafeb33f390a9e354e10e58421c9722d071b7493062dc101dd"), looks := true }, kinds := [], alts := [], laidByText := true, laidKinds := [.data, .data, .data], laidTests := true, laidLooks := .later }
def ShimCutUptoCardSaid : Prop := Claim7.holds Tryd.pinned (.plain (OpenSpec.upto shimCutSpec)) shimCutUptoCard
end Rows
end Go.Proofs.YthlhchaoedcdbaaDoor
