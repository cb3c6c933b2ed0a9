/-
  Texts of earlier layers, as one.
-/
import Derived.Test.YtkejjdoaljoooaaGreatDoorDskMeth
import Derived.Test.YtkejjdoaljoooaaGreatDoorLogHave
/- The program's disk is what the laws of log ask of it. -/
namespace Go.Proofs.YtkejjdoaljoooaaGreatDoor.Dsk
open Go.RowKit Mem Go.Maps
theorem has_disk2 : Has2 DI where
 keep := fun h hk hd => di_keep h hk hd
 low := fun h => di_lt h
 new := dnew_any
 append := fun p S d s BA bn bc bs w h hf hr ho hs hb => dappend_any p S d s BA bn bc bs w h hf hr ho hs hb
 sync := dsync_any
 cut := dcut_any
 move := dmove_any
 remove := dremove_any
 read := dread_any
 fuse := fun p S d n w h _ => dfuse_any p S d n w h
 boot := dboot_any
end Go.Proofs.YtkejjdoaljoooaaGreatDoor.Dsk
