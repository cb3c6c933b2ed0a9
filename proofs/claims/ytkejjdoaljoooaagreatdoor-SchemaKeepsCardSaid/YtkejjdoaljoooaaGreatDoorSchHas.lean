/-
  Texts of earlier layers, as one.
-/
import Derived.Test.YtkejjdoaljoooaaGreatDoorSchLoad
import Derived.Test.YtkejjdoaljoooaaGreatDoorSchRecs
import Derived.Test.YtkejjdoaljoooaaGreatDoorSchOpen
import Derived.Test.YtkejjdoaljoooaaGreatDoorSchPut
/- The program's schema is what the laws ask, over any disk that is one. -/
namespace Go.Proofs.YtkejjdoaljoooaaGreatDoor.Sc
open Dsk
theorem has_sch {I : Held} (hH : Has2 I) : HasSch I :=
 have hL := load_any hH;have hR := read_any hH hL;have hV := version_any hL
 ⟨hV, sopen_any hH hR (begin_any hH), open_arg, sput_any hH, forward_any hH hV hR (write_1 hH)⟩
end Go.Proofs.YtkejjdoaljoooaaGreatDoor.Sc
