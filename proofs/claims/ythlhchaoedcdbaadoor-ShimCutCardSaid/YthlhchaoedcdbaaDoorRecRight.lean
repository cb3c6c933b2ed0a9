/-
  Texts of earlier layers, as one.
-/
import Derived.Test.YthlhchaoedcdbaaDoorRecSmall
/- The document's Right of a record. -/
namespace Go.Proofs.YthlhchaoedcdbaaDoor.Rk
open Go.RowKit Mem Ids Att

end Go.Proofs.YthlhchaoedcdbaaDoor.Rk
