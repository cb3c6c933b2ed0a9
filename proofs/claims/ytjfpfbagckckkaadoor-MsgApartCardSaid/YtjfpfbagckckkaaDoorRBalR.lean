/-
  Texts of earlier layers, as one.
-/
import Derived.Test.YtjfpfbagckckkaaDoorRBal
/- The document's Right and Less of ballots. -/
namespace Go.Proofs.YtjfpfbagckckkaaDoor.Bal
open Go.RowKit Mem

end Go.Proofs.YtjfpfbagckckkaaDoor.Bal
