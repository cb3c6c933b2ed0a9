/-
  DERIVED. GIVEN WITH THE SEED: THE CARDS: each row of YthkbmmebfkaphaaDoorRows.lean that lists a variable, with what it lists TIED to the program's text (the seventh form; the later family's looks); each row that meets fmt, with fmt's text TOLD by the authors' own Lean function (tested against real Go, not proved from fmt's source: count such statements apart). THE CARD IS WHAT COUNTS. Prove the row's statement (the work); the ties are given (YthkbmmebfkaphaaDoorTie.lean); close each card by the builder's one call (the guide's Derived/Test/ToyasCard.lean, 'card_holds'). Laid BY PROGRAM, IN A SANDBOX (cutbox-door.mjs). By AI agents, Wed Nov 11 2026. No macro, syntax, notation, axiom, sorry.
-/
import Derived.Test.YthkbmmebfkaphaaDoorRows
import GoSem.ClaimSeven
namespace Go.Proofs.YthkbmmebfkaphaaDoor
namespace Rows

/-- THE TIED CARD OF 'stonecroplaw13.LogKeeps'. -/
def logKeepsCard : Claim7 := { stood := { row := logKeepsRow, standIns := [], harness := (true, "f13d8ef00fd23f1dcff096f9ea7ebed04d0607193b15b9783fc1bcc51e065754"), looks := false }, kinds := [], alts := [], laidByText := true, laidKinds := [.data], laidTests := true, laidLooks := .later }
def LogKeepsCardSaid : Prop := Claim7.holds Tryd.pinned (.plain (OpenSpec.ofChange logKeepsSpec)) logKeepsCard

/-- THE TIED CARD OF 'stonecroplaw13.LogWrites'. -/
def logWritesCard : Claim7 := { stood := { row := logWritesRow, standIns := [], harness := (true, "f13d8ef00fd23f1dcff096f9ea7ebed04d0607193b15b9783fc1bcc51e065754"), looks := false }, kinds := [], alts := [], laidByText := true, laidKinds := [.data], laidTests := true, laidLooks := .later }
def LogWritesCardSaid : Prop := Claim7.holds Tryd.pinned (.plain (OpenSpec.ofChange logWritesSpec)) logWritesCard

/-- THE TIED CARD OF 'stonecroplaw13.LogParts'. -/
def logPartsCard : Claim7 := { stood := { row := logPartsRow, standIns := [], harness := (true, "f13d8ef00fd23f1dcff096f9ea7ebed04d0607193b15b9783fc1bcc51e065754"), looks := false }, kinds := [], alts := [], laidByText := true, laidKinds := [.data], laidTests := true, laidLooks := .later }
def LogPartsCardSaid : Prop := Claim7.holds Tryd.pinned (.plain (OpenSpec.ofChange logPartsSpec)) logPartsCard

/-- THE SECOND FORM's CARD OF 'stonecroplaw13.LogKeeps'. -/
def logKeepsUptoCard : Claim7 := { stood := { row := logKeepsUptoRow, standIns := [], harness := (true, "f13d8ef00fd23f1dcff096f9ea7ebed04d0607193b15b9783fc1bcc51e065754"), looks := false }, kinds := [], alts := [], laidByText := true, laidKinds := [.data], laidTests := true, laidLooks := .later }
def LogKeepsUptoCardSaid : Prop := Claim7.holds Tryd.pinned (.plain (OpenSpec.upto logKeepsSpec)) logKeepsUptoCard

/-- THE SECOND FORM's CARD OF 'stonecroplaw13.LogWrites'. -/
def logWritesUptoCard : Claim7 := { stood := { row := logWritesUptoRow, standIns := [], harness := (true, "f13d8ef00fd23f1dcff096f9ea7ebed04d0607193b15b9783fc1bcc51e065754"), looks := false }, kinds := [], alts := [], laidByText := true, laidKinds := [.data], laidTests := true, laidLooks := .later }
def LogWritesUptoCardSaid : Prop := Claim7.holds Tryd.pinned (.plain (OpenSpec.upto logWritesSpec)) logWritesUptoCard

/-- THE SECOND FORM's CARD OF 'stonecroplaw13.LogParts'. -/
def logPartsUptoCard : Claim7 := { stood := { row := logPartsUptoRow, standIns := [], harness := (true, "f13d8ef00fd23f1dcff096f9ea7ebed04d0607193b15b9783fc1bcc51e065754"), looks := false }, kinds := [], alts := [], laidByText := true, laidKinds := [.data], laidTests := true, laidLooks := .later }
def LogPartsUptoCardSaid : Prop := Claim7.holds Tryd.pinned (.plain (OpenSpec.upto logPartsSpec)) logPartsUptoCard
end Rows
end Go.Proofs.YthkbmmebfkaphaaDoor
