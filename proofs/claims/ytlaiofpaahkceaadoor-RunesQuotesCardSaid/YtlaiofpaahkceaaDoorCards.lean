/-
  DERIVED. GIVEN WITH THE SEED: THE CARDS: each row of YtlaiofpaahkceaaDoorRows.lean that lists a variable, with what it lists TIED to the program's text (the seventh form; the later family's looks); each row that meets fmt, with fmt's text TOLD by the authors' own Lean function (tested against real Go, not proved from fmt's source: count such statements apart). THE CARD IS WHAT COUNTS. Prove the row's statement (the work); the ties are given (YtlaiofpaahkceaaDoorTie.lean); close each card by the builder's one call (the guide's Derived/Test/ToyasCard.lean, 'card_holds'). Laid BY PROGRAM, IN A SANDBOX (cutbox-door.mjs). By AI agents, Wed Nov 11 2026. No macro, syntax, notation, axiom, sorry.
-/
import Derived.Test.YtlaiofpaahkceaaDoorRows
import GoSem.ClaimSeven
namespace Go.Proofs.YtlaiofpaahkceaaDoor
namespace Rows

/-- THE TIED CARD OF 'stonecroplaw04.RunesKeys'. -/
def runesKeysCard : Claim7 := { stood := { row := runesKeysRow, standIns := [], harness := (true, "474562886a05b7b76e4bc8240ce23a6f91628928bb8b81d9ece2e27fdc85d1f4"), looks := true }, kinds := [], alts := [], laidByText := true, laidKinds := [.data, .data, .data], laidTests := true, laidLooks := .later }
def RunesKeysCardSaid : Prop := Claim7.holds Tryd.pinned (.plain (OpenSpec.ofChange runesKeysSpec)) runesKeysCard

/-- THE TIED CARD OF 'stonecroplaw04.RunesQuotes'. -/
def runesQuotesCard : Claim7 := { stood := { row := runesQuotesRow, standIns := [], harness := (true, "474562886a05b7b76e4bc8240ce23a6f91628928bb8b81d9ece2e27fdc85d1f4"), looks := true }, kinds := [], alts := [], laidByText := true, laidKinds := [.data, .data, .data, .sentinel, .sentinel], laidTests := true, laidLooks := .later }
def RunesQuotesCardSaid : Prop := Claim7.holds Tryd.pinned (.plain (OpenSpec.ofChange runesQuotesSpec)) runesQuotesCard

/-- THE TIED CARD OF 'stonecroplaw04.RunesUnquotes'. -/
def runesUnquotesCard : Claim7 := { stood := { row := runesUnquotesRow, standIns := [], harness := (true, "474562886a05b7b76e4bc8240ce23a6f91628928bb8b81d9ece2e27fdc85d1f4"), looks := true }, kinds := [], alts := [], laidByText := true, laidKinds := [.data, .data, .data, .sentinel, .sentinel], laidTests := true, laidLooks := .later }
def RunesUnquotesCardSaid : Prop := Claim7.holds Tryd.pinned (.plain (OpenSpec.ofChange runesUnquotesSpec)) runesUnquotesCard

/-- THE TIED CARD OF 'stonecroplaw04.RunesBegin'. -/
def runesBeginCard : Claim7 := { stood := { row := runesBeginRow, standIns := [], harness := (true, "474562886a05b7b76e4bc8240ce23a6f91628928bb8b81d9ece2e27fdc85d1f4"), looks := true }, kinds := [], alts := [], laidByText := true, laidKinds := [.data, .data, .data], laidTests := true, laidLooks := .later }
def RunesBeginCardSaid : Prop := Claim7.holds Tryd.pinned (.plain (OpenSpec.ofChange runesBeginSpec)) runesBeginCard

/-- THE TIED CARD OF 'stonecroplaw04.RunesJoin'. -/
def runesJoinCard : Claim7 := { stood := { row := runesJoinRow, standIns := [], harness := (true, "474562886a05b7b76e4bc8240ce23a6f91628928bb8b81d9ece2e27fdc85d1f4"), looks := true }, kinds := [], alts := [], laidByText := true, laidKinds := [.data, .data, .data], laidTests := true, laidLooks := .later }
def RunesJoinCardSaid : Prop := Claim7.holds Tryd.pinned (.plain (OpenSpec.ofChange runesJoinSpec)) runesJoinCard

/-- THE SECOND FORM's CARD OF 'stonecroplaw04.RunesKeys'. -/
def runesKeysUptoCard : Claim7 := { stood := { row := runesKeysUptoRow, standIns := [], harness := (true, "474562886a05b7b76e4bc8240ce23a6f91628928bb8b81d9ece2e27fdc85d1f4"), looks := true }, kinds := [], alts := [], laidByText := true, laidKinds := [.data, .data, .data], laidTests := true, laidLooks := .later }
def RunesKeysUptoCardSaid : Prop := Claim7.holds Tryd.pinned (.plain (OpenSpec.upto runesKeysSpec)) runesKeysUptoCard

/-- THE SECOND FORM's CARD OF 'stonecroplaw04.RunesQuotes'. -/
def runesQuotesUptoCard : Claim7 := { stood := { row := runesQuotesUptoRow, standIns := [], harness := (true, "474562886a05b7b76e4bc8240ce23a6f91628928bb8b81d9ece2e27fdc85d1f4"), looks := true }, kinds := [], alts := [], laidByText := true, laidKinds := [.data, .data, .data, .sentinel, .sentinel], laidTests := true, laidLooks := .later }
def RunesQuotesUptoCardSaid : Prop := Claim7.holds Tryd.pinned (.plain (OpenSpec.upto runesQuotesSpec)) runesQuotesUptoCard

/-- THE SECOND FORM's CARD OF 'stonecroplaw04.RunesUnquotes'. -/
def runesUnquotesUptoCard : Claim7 := { stood := { row := runesUnquotesUptoRow, standIns := [], harness := (true, "474562886a05b7b76e4bc8240ce23a6f91628928bb8b81d9ece2e27fdc85d1f4"), looks := true }, kinds := [], alts := [], laidByText := true, laidKinds := [.data, .data, .data, .sentinel, .sentinel], laidTests := true, laidLooks := .later }
def RunesUnquotesUptoCardSaid : Prop := Claim7.holds Tryd.pinned (.plain (OpenSpec.upto runesUnquotesSpec)) runesUnquotesUptoCard

/-- THE SECOND FORM's CARD OF 'stonecroplaw04.RunesBegin'. -/
def runesBeginUptoCard : Claim7 := { stood := { row := runesBeginUptoRow, standIns := [], harness := (true, "474562886a05b7b76e4bc8240ce23a6f91628928bb8b81d9ece2e27fdc85d1f4"), looks := true }, kinds := [], alts := [], laidByText := true, laidKinds := [.data, .data, .data], laidTests := true, laidLooks := .later }
def RunesBeginUptoCardSaid : Prop := Claim7.holds Tryd.pinned (.plain (OpenSpec.upto runesBeginSpec)) runesBeginUptoCard

/-- THE SECOND FORM's CARD OF 'stonecroplaw04.RunesJoin'. -/
def runesJoinUptoCard : Claim7 := { stood := { row := runesJoinUptoRow, standIns := [], harness := (true, "474562886a05b7b76e4bc8240ce23a6f91628928bb8b81d9ece2e27fdc85d1f4"), looks := true }, kinds := [], alts := [], laidByText := true, laidKinds := [.data, .data, .data], laidTests := true, laidLooks := .later }
def RunesJoinUptoCardSaid : Prop := Claim7.holds Tryd.pinned (.plain (OpenSpec.upto runesJoinSpec)) runesJoinUptoCard
end Rows
end Go.Proofs.YtlaiofpaahkceaaDoor
