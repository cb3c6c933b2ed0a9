/-
  The document's Join of ids.
-/
import Derived.Test.YtccbkpdkmdnmfaaIdsRefSet
namespace Go.Proofs.Ytccbkpdkmdnmfaa
open Go.RowKit Mem Ids

set_option maxHeartbeats 4000000 in
theorem refjoin_any (l r : List (Int × Int)) (A B : Option Addr) (n c m d : Nat) (w : World) (ha : Rs w A n c l) (hb : Rs w B m d r) (hn : n ≤ 536870912) (hm : m ≤ 536870912) :
    Calls Try.prog 27 #[.slice A n c, .slice B m d] w (Makes w (joinl l r)) := by
  obtain ⟨i0, hi, hz0, hz1, hz2⟩ := info_parts infoId
  have HA := Lib.hid ha
  have HB := Lib.hid hb
  clear ha hb
  go_enter Try.func27, Try.ntmps27
  have HE := Lib.hid (World.ownsRow_made (base := w.heap.size) (e := 48) (size := 2) w #[] 0 (Nat.le_refl _) (Nat.zero_le _) (by simp))
  go_wp2_with (first
    | (at_builtin
       refine wpList_append_rs rfl _ _ 22 rfl w.heap.size 48 i0 _ Try.underlying22 hi hz0 hz1 hz2 rfl _ 0 0 [] rfl HE.out A n c l rfl (HA.out.alloc _) (by omega) (by simp) ?_
       intro V3 c3 w3 hown3 _ hb3
       rw [Nat.zero_add] at hown3
       have hbw3 : Below w.heap.size w w3 := (bel_alloc (Below.refl _ _) _).trans hb3
       have HB3 := Lib.hid hbw3
       have hsz3 := hbw3.size
       have HO3 := Lib.hid hown3
       clear hbw3 hown3 hb3 HE)
    | (at_builtin
       refine wpList_append_rs rfl _ _ 22 rfl w.heap.size 48 i0 _ Try.underlying22 hi hz0 hz1 hz2 rfl V3 n c3 _ rfl HO3.out B m d r rfl (HB.out.below HB3.out) (by omega) (by omega) ?_
       intro V4 c4 w4 hown4 _ hb4
       clear HO3
       have HO4 := Lib.hid hown4
       have HB4 := Lib.hid hb4
       clear hown4 hb4))
  have HR := Lib.hid (refset_any (l ++ r) V4 (n + m) c4 w4 (Rs.own HO4.out) (by omega))
  refine HR.out.mono ?_
  rintro e w5 ⟨V5, c5, rfl, hown5, hb5⟩
  have hs4 := HB4.out.size
  have HO5 := Lib.hid hown5
  have HB5 := Lib.hid hb5
  clear hown5 hb5
  go_wp2_with fail
  go_ret
  exact ⟨V5, c5, rfl, own_base HO5.out (by omega), bel_trans (HB3.out.trans HB4.out) HB5.out⟩
end Go.Proofs.Ytccbkpdkmdnmfaa
