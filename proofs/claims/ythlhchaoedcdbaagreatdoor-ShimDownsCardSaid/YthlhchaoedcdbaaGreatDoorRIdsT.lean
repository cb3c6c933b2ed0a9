/-
  Texts of earlier layers, as one.
-/
import Derived.Test.YthlhchaoedcdbaaGreatDoorRIdsI
import Derived.Test.YthlhchaoedcdbaaGreatDoorRBase
import Derived.BigRegion
import Derived.Deep.Cut
/- The document's Take of any item: the set whose item that is, or none. -/
namespace Go.Proofs.YthlhchaoedcdbaaGreatDoor
open Go.RowKit Mem Ids Cod Go.Sort
end Go.Proofs.YthlhchaoedcdbaaGreatDoor
