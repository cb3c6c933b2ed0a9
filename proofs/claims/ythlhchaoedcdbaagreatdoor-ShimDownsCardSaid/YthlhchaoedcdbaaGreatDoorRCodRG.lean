/-
  Texts of earlier layers, as one.
-/
import Derived.Test.YthlhchaoedcdbaaGreatDoorRCod
import Derived.Test.YthlhchaoedcdbaaGreatDoorRCodP
import Derived.Test.YthlhchaoedcdbaaGreatDoorRCodG
import Derived.Test.YthlhchaoedcdbaaGreatDoorRNum
/- The document's example holds: 'awake' answers true, whatever the world; what was there stays. -/
namespace Go.Proofs.YthlhchaoedcdbaaGreatDoor.Cp
open Go.RowKit Mem Cod
end Go.Proofs.YthlhchaoedcdbaaGreatDoor.Cp
/- The document's take: the item that begins at a place, or an error and its place. -/
namespace Go.Proofs.YthlhchaoedcdbaaGreatDoor.Cp
open Go.RowKit Mem Cod
end Go.Proofs.YthlhchaoedcdbaaGreatDoor.Cp
/- The document's Get: the item that bytes are, or an error and its place. -/
namespace Go.Proofs.YthlhchaoedcdbaaGreatDoor.Cp
open Go.RowKit Mem Cod
end Go.Proofs.YthlhchaoedcdbaaGreatDoor.Cp
