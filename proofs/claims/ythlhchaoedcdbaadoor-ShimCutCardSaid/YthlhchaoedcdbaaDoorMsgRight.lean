/-
  Texts of earlier layers, as one.
-/
import Derived.Test.YthlhchaoedcdbaaDoorMsgBase
import Derived.Test.YthlhchaoedcdbaaDoorRecRight
import Derived.Deep.Cut
/- The document's Right of a message. -/
namespace Go.Proofs.YthlhchaoedcdbaaDoor.Mg
open Go.RowKit Mem Ids Att Rk

end Go.Proofs.YthlhchaoedcdbaaDoor.Mg
