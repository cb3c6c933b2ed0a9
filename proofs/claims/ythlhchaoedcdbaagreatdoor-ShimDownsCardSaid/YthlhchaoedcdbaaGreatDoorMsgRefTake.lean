/-
  Texts of earlier layers, as one.
-/
import Derived.Test.YthlhchaoedcdbaaGreatDoorMsgReads
import Derived.Test.YthlhchaoedcdbaaGreatDoorMsgRight
import Derived.Test.YthlhchaoedcdbaaGreatDoorMsgItem
import Derived.Test.YthlhchaoedcdbaaGreatDoorMsgFr
import Derived.Test.YthlhchaoedcdbaaGreatDoorMsgOwnTake
import Derived.Test.YthlhchaoedcdbaaGreatDoorRCodS
import Derived.Deep.RegionHeld
import Derived.Deep.Cut
/- The document's Take of bytes. -/
namespace Go.Proofs.YthlhchaoedcdbaaGreatDoor.Mg
open Go.RowKit Mem Ids Att Rk Cod
end Go.Proofs.YthlhchaoedcdbaaGreatDoor.Mg
