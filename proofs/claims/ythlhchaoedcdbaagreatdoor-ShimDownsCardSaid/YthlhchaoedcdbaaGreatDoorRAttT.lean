/-
  Texts of earlier layers, as one.
-/
import Derived.Test.YthlhchaoedcdbaaGreatDoorRAtt
import Derived.Test.YthlhchaoedcdbaaGreatDoorRIdsT
import Derived.Test.YthlhchaoedcdbaaGreatDoorRCodS
import Derived.Test.YthlhchaoedcdbaaGreatDoorRBase
/- The document's Take of any item. -/
namespace Go.Proofs.YthlhchaoedcdbaaGreatDoor
open Go.RowKit Mem Ids Att Cod
end Go.Proofs.YthlhchaoedcdbaaGreatDoor
/- The document's TakeOld of any item. -/
namespace Go.Proofs.YthlhchaoedcdbaaGreatDoor
open Go.RowKit Mem Ids Att Cod
end Go.Proofs.YthlhchaoedcdbaaGreatDoor
