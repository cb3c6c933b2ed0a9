/-
  DERIVED. GIVEN WITH THE SEED: THE CARDS: each row of YtkejjdoaljoooaaGreatDoorRows.lean that lists a variable, with what it lists TIED to the program's text (the seventh form; the later family's looks); each row that meets fmt, with fmt's text TOLD by the authors' own Lean function (tested against real Go, not proved from fmt's source: count such statements apart). THE CARD IS WHAT COUNTS. Prove the row's statement (the work); the ties are given (YtkejjdoaljoooaaGreatDoorTie.lean); close each card by the builder's one call (the guide's Derived/Test/ToyasCard.lean, 'card_holds'). Laid BY PROGRAM, IN A SANDBOX (cutbox-door.mjs). By AI agents, Wed Nov 11 2026. No macro, syntax, notation, axiom, sorry.
-/
import Derived.Test.YtkejjdoaljoooaaGreatDoorRows
import GoSem.ClaimSeven
namespace Go.Proofs.YtkejjdoaljoooaaGreatDoor
namespace Rows

/-- THE TIED CARD OF 'stonecroplaw14.SchemaKeeps'. -/
def schemaKeepsCard : Claim7 := { stood := { row := schemaKeepsRow, standIns := [], harness := (true, "0cdbc9289b09685106918e38736c44ecb9817d8d2f6635a92fb057cc6f38bc56"), looks := true }, kinds := [], alts := [], laidByText := true, laidKinds := [.data], laidTests := true, laidLooks := .later }
def SchemaKeepsCardSaid : Prop := Claim7.holds Tryz.pinned (.plain (OpenSpec.ofChange schemaKeepsSpec)) schemaKeepsCard

/-- THE TIED CARD OF 'stonecroplaw14.SchemaFresh'. -/
def schemaFreshCard : Claim7 := { stood := { row := schemaFreshRow, standIns := [], harness := (true, "0cdbc9289b09685106918e38736c44ecb9817d8d2f6635a92fb057cc6f38bc56"), looks := true }, kinds := [], alts := [], laidByText := true, laidKinds := [.data], laidTests := true, laidLooks := .later }
def SchemaFreshCardSaid : Prop := Claim7.holds Tryz.pinned (.plain (OpenSpec.ofChange schemaFreshSpec)) schemaFreshCard

/-- THE SECOND FORM's CARD OF 'stonecroplaw14.SchemaKeeps'. -/
def schemaKeepsUptoCard : Claim7 := { stood := { row := schemaKeepsUptoRow, standIns := [], harness := (true, "0cdbc9289b09685106918e38736c44ecb9817d8d2f6635a92fb057cc6f38bc56"), looks := true }, kinds := [], alts := [], laidByText := true, laidKinds := [.data], laidTests := true, laidLooks := .later }
def SchemaKeepsUptoCardSaid : Prop := Claim7.holds Tryz.pinned (.plain (OpenSpec.upto schemaKeepsSpec)) schemaKeepsUptoCard

/-- THE SECOND FORM's CARD OF 'stonecroplaw14.SchemaFresh'. -/
def schemaFreshUptoCard : Claim7 := { stood := { row := schemaFreshUptoRow, standIns := [], harness := (true, "0cdbc9289b09685106918e38736c44ecb9817d8d2f6635a92fb057cc6f38bc56"), looks := true }, kinds := [], alts := [], laidByText := true, laidKinds := [.data], laidTests := true, laidLooks := .later }
def SchemaFreshUptoCardSaid : Prop := Claim7.holds Tryz.pinned (.plain (OpenSpec.upto schemaFreshSpec)) schemaFreshUptoCard
end Rows
end Go.Proofs.YtkejjdoaljoooaaGreatDoor
