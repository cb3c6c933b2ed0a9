/-
  Texts of earlier layers, as one.
-/
import Derived.Test.YthlhchaoedcdbaaGreatDoorRBalI
import Derived.Test.YthlhchaoedcdbaaGreatDoorRBal
import Derived.Test.YthlhchaoedcdbaaGreatDoorRCmdT
import Derived.Test.YthlhchaoedcdbaaGreatDoorRBase
import Derived.Deep.Cut
import Derived.Deep.RegionHeld3
/- The document's Take of a ballot. -/
namespace Go.Proofs.YthlhchaoedcdbaaGreatDoor.Bal
open Go.RowKit Mem Cod Cmd
end Go.Proofs.YthlhchaoedcdbaaGreatDoor.Bal
