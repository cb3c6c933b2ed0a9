/-
  Texts of earlier layers, as one.
-/
import Derived.Test.YthkbmmebfkaphaaDoorLogFrame
import Derived.StillTailTactics
import Derived.Deep.Cut
/- The program's Add and Flush, over whatever is a disk. -/
namespace Go.Proofs.YthkbmmebfkaphaaDoor.Lg
open Go.RowKit Mem Dsk

set_option maxRecDepth 20000 in
set_option maxHeartbeats 2000000 in
theorem add_any {I : Held} (hH : Has2 I) (g p : Nat) (S : Nat → Prop) (d : Dk) (s : ByteArray) (A : Option Addr) (n c : Nat) (bs : List Nat) (w : World) (hI : I w S p d) (hf : Fine d) (ht : FTab w S) (hg : FLog g p s w S) (hr : FRd A n c (cs bs) w S) (hb : ∀ b ∈ bs, b < 256) (hn : n ≤ 1048576) (hs : s.size ≤ 9223372036854775807) :
    Calls Tryd.prog 10 #[.pointer (some ⟨g, 0, none⟩), .slice A n c] w (Does I p S (whole (doAppend s (form bs)) d) w) := by
  have hfm := lform_any A n c bs w ht.1 hr.1 hb hn
  have hfl : (form bs).length ≤ 1099511627776 := by
    have h1 := hr.1.len
    rw [length_cs] at h1
    have h2 := Num.size_le bs.length (by omega)
    rw [length_form]
    omega
  have HF := Lib.hid hfm
  have HFL := Lib.hid hfl
  have HG := Lib.hid hg
  have HI := Lib.hid hI
  have HS := Lib.hid hs
  clear hfm hfl ht hr hg hb hI
  go_enter Tryd.func10, Tryd.ntmps10
  go_wp2_with fail
  refine HF.out.mono ?_
  rintro e w1 ⟨V, vc, rfl, hown, hb1⟩
  have hblk : Blk w1 g 54 #[Dsk.ptr p, .string s] := HG.out.1.bel hb1
  have hI1 := have_bel hH HI.out hb1
  have hlow := hH.low HI.out
  have hou : Outs S (form bs).length V := fun h0 ad e hs' => by
    have h1 := (hown.lt ad.block (by rw [e]; rfl)).1
    have h2 := hlow _ hs'
    omega
  have hI2 : I w1.drew S p d := have_bel hH hI1 (Below.refl _ _).drew
  have hap := hH.append p S d s V (form bs).length vc (form bs) w1.drew hI2 hf (Rd.own hown).drew hou HS.out HFL.out
  have c0 := hblk.cell 0
  have c1 := hblk.cell 1
  simp only [List.getElem?_toArray, List.getElem?_cons_zero, List.getElem?_cons_succ] at c0 c1
  unfold Dsk.ptr at c0
  have HA := Lib.hid hap
  have HB := Lib.hid hb1
  clear hap hb1 hI1 hI2 hou hown hblk hlow
  go_wp2_with fail
  go_still_tail 9, (by kernel_rfl)
  change wpList _ _ _ _ _ w1.drew
  go_wp2_with fail
  refine HA.out.mono ?_
  rintro e w2 hd
  have hd2 := Does.on hd (Keeps.ofBelow (S := S) ((HB.out.drew))) (Grew.refl S w)
  obtain ⟨rfl, hst⟩ := hd2
  have HST := Lib.hid hst
  clear hst hd
  go_wp2_with fail
  go_ret
  exact ⟨rfl, HST.out⟩
set_option maxRecDepth 20000 in
set_option maxHeartbeats 2000000 in
theorem flush_any {I : Held} (hH : Has2 I) (g p : Nat) (S : Nat → Prop) (d : Dk) (s : ByteArray) (w : World) (hI : I w S p d) (hf : Fine d) (hg : FLog g p s w S) (hs : s.size ≤ 9223372036854775807) :
    Calls Tryd.prog 11 #[.pointer (some ⟨g, 0, none⟩)] w (fun e w' => e = .returned (.int .i64 (fg (whole (doSync s) d).1 : Int)) ∧ Stays I p S (whole (doSync s) d).2 w w') := by
  have hI2 : I w.drew S p d := have_bel hH hI (Below.refl _ _).drew
  have hsy := hH.sync p S d s w.drew hI2 hf hs
  have c0 := hg.1.cell 0
  have c1 := hg.1.cell 1
  simp only [List.getElem?_toArray, List.getElem?_cons_zero, List.getElem?_cons_succ] at c0 c1
  unfold Dsk.ptr at c0
  have HA := Lib.hid hsy
  clear hI hI2 hsy hg hf
  go_enter Tryd.func11, Tryd.ntmps11
  go_wp2_with fail
  go_still_tail 8, (by kernel_rfl)
  change wpList _ _ _ _ _ w.drew
  go_wp2_with fail
  refine HA.out.mono ?_
  rintro e w2 hd
  obtain ⟨rfl, hst⟩ := Does.on hd (Keeps.ofBelow (S := S) (Below.refl w.heap.size w).drew) (Grew.refl S w)
  have HST := Lib.hid hst
  have hfo := forgiven_any (whole (doSync s) d).1 w2
  have HFO := Lib.hid hfo
  clear hst hd hfo
  go_wp2_with fail
  refine HFO.out.mono ?_
  rintro e w3 ⟨rfl, rfl⟩
  go_wp2_with fail
  go_ret
  exact ⟨rfl, HST.out⟩
end Go.Proofs.YthkbmmebfkaphaaDoor.Lg
