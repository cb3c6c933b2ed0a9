/-
  Texts of earlier layers, as one.
-/
import Derived.Test.YthlhchaoedcdbaaGreatDoorRCmdI
import Derived.Test.YthlhchaoedcdbaaGreatDoorRCmdR
import Derived.Test.YthlhchaoedcdbaaGreatDoorRCodS
import Derived.Test.YthlhchaoedcdbaaGreatDoorRBase
/- The document's Take of any item: the command whose item that is, or none. -/
namespace Go.Proofs.YthlhchaoedcdbaaGreatDoor.Cw
open Go.RowKit Mem Cmd Cod
end Go.Proofs.YthlhchaoedcdbaaGreatDoor.Cw
