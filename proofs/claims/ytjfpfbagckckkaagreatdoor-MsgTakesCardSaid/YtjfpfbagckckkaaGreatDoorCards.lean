/-
  DERIVED. GIVEN WITH THE SEED: THE CARDS: each row of YtjfpfbagckckkaaGreatDoorRows.lean that lists a variable, with what it lists TIED to the program's text (the seventh form; the later family's looks); each row that meets fmt, with fmt's text TOLD by the authors' own Lean function (tested against real Go, not proved from fmt's source: count such statements apart). THE CARD IS WHAT COUNTS. Prove the row's statement (the work); the ties are given (YtjfpfbagckckkaaGreatDoorTie.lean); close each card by the builder's one call (the guide's Derived/Test/ToyasCard.lean, 'card_holds'). Laid BY PROGRAM, IN A SANDBOX (cutbox-door.mjs). By AI agents, Wed Nov 11 2026. No macro, syntax, notation, axiom, sorry.
-/
import Derived.Test.YtjfpfbagckckkaaGreatDoorRows
import GoSem.ClaimSeven
namespace Go.Proofs.YtjfpfbagckckkaaGreatDoor
namespace Rows

/-- THE TIED CARD OF 'stonecroplaw10.MsgPuts'. -/
def msgPutsCard : Claim7 := { stood := { row := msgPutsRow, standIns := [], harness := (true, "6d2d7230bb758da9b092d19fe2771d26deaaf12d78c8c895e067d41335ebcc35"), looks := true }, kinds := [], alts := [], laidByText := true, laidKinds := [.data, .data], laidTests := true, laidLooks := .later }
def MsgPutsCardSaid : Prop := Claim7.holds Tryz.pinned (.plain (OpenSpec.ofChange msgPutsSpec)) msgPutsCard

/-- THE TIED CARD OF 'stonecroplaw10.MsgTakes'. -/
def msgTakesCard : Claim7 := { stood := { row := msgTakesRow, standIns := [], harness := (true, "6d2d7230bb758da9b092d19fe2771d26deaaf12d78c8c895e067d41335ebcc35"), looks := true }, kinds := [], alts := [], laidByText := true, laidKinds := [.data, .data], laidTests := true, laidLooks := .later }
def MsgTakesCardSaid : Prop := Claim7.holds Tryz.pinned (.plain (OpenSpec.ofChange msgTakesSpec)) msgTakesCard

/-- THE SECOND FORM's CARD OF 'stonecroplaw10.MsgPuts'. -/
def msgPutsUptoCard : Claim7 := { stood := { row := msgPutsUptoRow, standIns := [], harness := (true, "6d2d7230bb758da9b092d19fe2771d26deaaf12d78c8c895e067d41335ebcc35"), looks := true }, kinds := [], alts := [], laidByText := true, laidKinds := [.data, .data], laidTests := true, laidLooks := .later }
def MsgPutsUptoCardSaid : Prop := Claim7.holds Tryz.pinned (.plain (OpenSpec.upto msgPutsSpec)) msgPutsUptoCard

/-- THE SECOND FORM's CARD OF 'stonecroplaw10.MsgTakes'. -/
def msgTakesUptoCard : Claim7 := { stood := { row := msgTakesUptoRow, standIns := [], harness := (true, "6d2d7230bb758da9b092d19fe2771d26deaaf12d78c8c895e067d41335ebcc35"), looks := true }, kinds := [], alts := [], laidByText := true, laidKinds := [.data, .data], laidTests := true, laidLooks := .later }
def MsgTakesUptoCardSaid : Prop := Claim7.holds Tryz.pinned (.plain (OpenSpec.upto msgTakesSpec)) msgTakesUptoCard
end Rows
end Go.Proofs.YtjfpfbagckckkaaGreatDoor
