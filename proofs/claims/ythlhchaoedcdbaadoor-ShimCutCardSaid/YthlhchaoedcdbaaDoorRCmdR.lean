/-
  Texts of earlier layers, as one.
-/
import Derived.Test.YthlhchaoedcdbaaDoorRCmd
import Derived.BigRegion
import Derived.Deep.Cut
/- The document's Meet. -/
namespace Go.Proofs.YthlhchaoedcdbaaDoor.Cw
open Go.RowKit Mem Run Cmd


end Go.Proofs.YthlhchaoedcdbaaDoor.Cw
/- The document's Check. -/
namespace Go.Proofs.YthlhchaoedcdbaaDoor.Cw
open Go.RowKit Mem Run Cmd


theorem chk_bools (kd cl sq : Int) (ky vl : ByteArray) (rv : Int) : chk ⟨kd, cl, sq, ky, vl, rv⟩ = if (decide (kd < 0) || decide (kd > 6) || (!(kd != 0 && kd != 6) && (!(cl == 0) || !(sq == 0) || !decide (bts ky = []))) || ((kd != 0 && kd != 6) && (cl == 0 || sq == 0)) || (kd != 2 && kd != 4 && !decide (bts vl = [])) || (kd != 4 && !(rv == 0))) = true then 4 else if (decide (cl < 0) || decide (cl > 1048576) || (decide (sq < 0) || decide (sq > 1099511627776)) || (decide (rv < 0) || decide (rv > 1099511627776))) = true then 6 else if decide ((vl.size : Int) > 1024) = true then 12 else if (kd == 5) = true then begRet (beg (bts ky)) else if (kd != 0 && kd != 6) = true then begRet (key (bts ky)) else 0 := rfl

theorem toList_bts (s : ByteArray) : s.toList = [] ↔ bts s = [] := by
  have h := toList_iff s ⟨#[]⟩
  rwa [show (⟨#[]⟩ : ByteArray).toList = [] from by rw [Lib.toList_data], show bts ⟨#[]⟩ = [] from rfl] at h

end Go.Proofs.YthlhchaoedcdbaaDoor.Cw
