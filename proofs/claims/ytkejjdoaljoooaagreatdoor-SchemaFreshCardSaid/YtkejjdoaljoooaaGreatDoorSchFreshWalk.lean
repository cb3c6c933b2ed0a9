/-
  Texts of earlier layers, as one.
-/
import Derived.Test.YtkejjdoaljoooaaGreatDoorSchEx
/- SchemaFresh's walk: a new disk, opened at a version. -/
namespace Go.Proofs.YtkejjdoaljoooaaGreatDoor.Sc
open Lib (hid)
open Go.RowKit Mem Dsk Lg Rk
def HUsed (I : Held) : Prop := ∀ (p : Nat) (S : Nat → Prop) (d : Dk) (w : World), I w S p d → Dsk.Fine d → Calls Tryz.prog 15 #[Dsk.ptr p] w (fun e w' => e = .returned (.int .i64 (if d.dn = true then 0 else ((Dsk.used d.fs : Nat) : Int))) ∧ Stays I p S d w w')
set_option maxRecDepth 20000 in
set_option maxHeartbeats 4000000 in
theorem fresh_arg {I : Held} (hH : Has2 I) (hS : HasSch I) (hU : HUsed I) (a0 a1 : Int) (w : World) (ht : Cr.Tab w) (h1 : a0 ≠ 1) (h2 : a0 ≠ 2) (hb : 0 ≤ a1 ∧ a1 ≤ 65535) :
 Calls Tryz.prog 4 #[.int .i64 a0, .int .u16 a1] w (Tells true w) := by
 have hnw := hH.new a1 w;have HNW := hid hnw;have HH := hid (And.intro hH (And.intro hS hU));have HT := hid ht;have H12 := hid (And.intro h1 (And.intro h2 hb));have hw : IntKind.i64.wrap a1 = a1 := IntWalk.i64_in _ (by omega);have b1 : (a0 != 1) = true := by rw [bne_iff_ne]; exact h1
 have b2 : (a0 != 2) = true := by rw [bne_iff_ne]; exact h2
 clear hnw hH hS hU ht h1 h2 hb;go_enter Tryz.func4, Tryz.ntmps4
 go_wp2_with fail
 refine HNW.out.mono ?_;rintro e w1 ⟨p, S1, rfl, hI1, hn1, hb1⟩;have hfa1 : FA w w1 S1 := ⟨⟨hn1, hb1⟩, ftab_new HT.out hb1 hn1⟩
 have hop := HH.out.2.1.arg a0 p w1 H12.out.1 H12.out.2.1;have HOP := hid hop;have H1 := hid (And.intro hI1 hfa1);clear hop hfa1 hI1 hn1 hb1;unfold Dsk.ptr at *;go_wp2_with fail
 refine HOP.out.mono ?_;rintro e w2 ⟨rfl, hb2⟩;have hI2 := have_bel HH.out.1 H1.out.1 hb2;have hfa2 := (frame_a w).go H1.out.2 (Keeps.ofBelow hb2) (Dsk.Grew.refl S1 w1);have hus : Calls Tryz.prog 15 #[.pointer (some ⟨p, 0, none⟩)] w2 (fun e w' => e = .returned (.int .i64 0) ∧ Stays I p S1 (newDk a1) w2 w') := HH.out.2.2 p S1 (newDk a1) w2 hI2 (fine_new (by have := H12.out.2.2.2; omega));have HUS := hid hus;have H2 := hid hfa2;clear hb2 hI2 hfa2 hus HOP;go_wp2_with fail
 refine HUS.out.mono ?_;rintro e w3 ⟨rfl, S3, hI3, hg3, hk3⟩;have hfa3 := (frame_a w).go H2.out hk3 hg3;have haw := sawake_any HH.out.1 HH.out.2.1 w3 hfa3.2.1;have HAW := hid haw;have H3 := hid hfa3.1.2;clear hI3 hg3 hk3 hfa3 haw HUS;go_wp2_with fail
 refine HAW.out.mono ?_;rintro e w4 ⟨rfl, hb4⟩;have HB := hid (H3.out.trans (hb4.mono H3.out.size));clear hb4;go_wp2_with fail
 go_ret;exact ⟨rfl, HB.out⟩
set_option maxRecDepth 20000 in
set_option maxHeartbeats 4000000 in
theorem fresh_1 {I : Held} (hH : Has2 I) (hS : HasSch I) (a1 : Int) (w : World) (ht : Cr.Tab w) (hb : 0 ≤ a1 ∧ a1 ≤ 65535) :
 Calls Tryz.prog 4 #[.int .i64 1, .int .u16 a1] w (Tells true w) := by
 have hnw := hH.new a1 w;have hnd : newDk a1 = sd a1 false [] [] (-1) false := by unfold newDk sd; rw [Int.max_eq_left hb.1]; rfl
 rw [hnd] at hnw;have HNW := hid hnw;have HH := hid (And.intro hH hS);have HT := hid ht;have H12 := hid hb;have hw : IntKind.i64.wrap a1 = a1 := IntWalk.i64_in _ (by omega);clear hnw hH hS ht hb hnd;go_enter Tryz.func4, Tryz.ntmps4
 go_wp2_with fail
 refine HNW.out.mono ?_;rintro e w1 ⟨p, S1, rfl, hI1, hn1, hb1⟩;have hfa1 : FA w w1 S1 := ⟨⟨hn1, hb1⟩, ftab_new HT.out hb1 hn1⟩
 have hop : Calls Tryz.prog 8 #[Dsk.ptr p, .int .i64 1] w1 (OpenS I p S1 1 [] (if a1 < ((form (hdr 1)).length : Int) then (7, sd a1 false [] [] (-1) false) else (0, sd a1 true (forms (stored 1 [])) [] (-1) false)) w1) := by
  have h := HH.out.2.open_ 1 (by omega) p S1 _ _ [] [] [] w1 hI1 hfa1.2 (rdb_none (r := a1) H12.out.1 (by have := H12.out.2; omega));rw [read_none, open_new] at h;exact h
 have HOP := hid hop;have H1 := hid hfa1;clear hop hfa1 hI1 hn1 hb1;unfold Dsk.ptr at *;go_wp2_with fail
 refine HOP.out.mono ?_;rintro e w2 hos;by_cases hrm : a1 < ((form (hdr 1)).length : Int)
 · rw [if_pos hrm] at hos
   rcases hos with ⟨h0, _⟩ | ⟨_, rfl, S2, hI2, hg2, hk2⟩
   · exact absurd h0 (by simp)
   have hfa2 := (frame_a w).go H1.out hk2 hg2;have haw := sawake_any HH.out.1 HH.out.2 w2 hfa2.2.1;have HAW := hid haw;have H3 := hid hfa2.1.2;clear hI2 hg2 hk2 hfa2 haw HOP;go_wp2_with fail
   refine HAW.out.mono ?_;rintro e w4 ⟨rfl, hb4⟩;have HB := hid (H3.out.trans (hb4.mono H3.out.size));clear hb4;go_wp2_with fail
   go_ret;exact ⟨rfl, HB.out⟩
 · rw [if_neg hrm] at hos
   rcases hos with ⟨_, s, g, V, n, c, qs, rfl, hqs, S2, hI2, hg2, hk2, hst2, hfr2⟩ | ⟨h0, _⟩
   case inr => exact absurd rfl h0
   have hn0 : n = 0 := by
    have h1 := hfr2.row.len;have h2 := congrArg List.length hqs;rw [List.length_map] at h2;simp only [List.length_nil] at h2;omega
   subst hn0;have hfa2 := (frame_a w).go H1.out hk2 hg2;have hgo : ∀ x ∈ ([] : List Rc), Good 1 x := fun x h => (by cases h);have hfl : ((forms (stored 1 [])).length : Int) ≤ a1 := (by simp only [stored, List.map_nil, forms_one]; omega);have hrb := rdb_stored (v := 1) (rs := []) (by omega) hgo (r := a1) H12.out.1 (by have := H12.out.2; omega) hfl
   have hve : Calls Tryz.prog 16 #[.pointer (some ⟨p, 0, none⟩)] w2 (fun e w' => e = .returned (.tuple #[.int .i64 1, .int .i64 0]) ∧ Stays I p S2 (sd a1 true (forms (stored 1 [])) [] (-1) false) w2 w') := by
    have h := HH.out.2.version p S2 _ _ _ _ _ w2 hI2 (ftab_sub hfa2.2) hrb;rw [load_stored (by omega)] at h;exact h
   have HVE := hid hve;have hl2 := hfr2.row.cap;have H2 := hid (And.intro hfa2 hrb);clear hqs hI2 hg2 hk2 hst2 hfr2 hfa2 hgo hfl hrb hve HOP hrm;go_wp2_with fail
   refine HVE.out.mono ?_;rintro e w3 ⟨rfl, S3, hI3, hg3, hk3⟩;have hfa3 := fa_sub ((frame_a w).go H2.out.1 (plus_keeps hk3) (plus_grew hg3))
   have hop2 : Calls Tryz.prog 8 #[.pointer (some ⟨p, 0, none⟩), .int .i64 2] w3 (OpenS I p S3 2 [] (14, sd a1 true (forms (stored 1 [])) [] (-1) false) w3) := by
    have h := HH.out.2.open_ 2 (by omega) p S3 _ _ _ _ _ w3 hI3 hfa3.2 H2.out.2;have e1 : readOf 2 (stored 1 []) = ([], 14) := read_old []
    have e2 : openR 2 (stored 1 []) (sd a1 true (forms (stored 1 [])) [] (-1) false) (sd a1 true (forms (stored 1 [])) [] (-1) false) = (14, sd a1 true (forms (stored 1 [])) [] (-1) false) := by
     unfold openR;rw [e1, if_pos (by simp)]
    rw [e1, e2] at h;exact h
   have HOP2 := hid hop2;have H3 := hid hfa3;clear hI3 hg3 hk3 hfa3 hop2 HVE;go_wp2_with fail
   refine HOP2.out.mono ?_;rintro e w4 hos;rcases hos with ⟨h0, _⟩ | ⟨_, rfl, S4, hI4, hg4, hk4⟩
   · exact absurd h0 (by simp)
   have hfa4 := (frame_a w).go H3.out hk4 hg4;have haw := sawake_any HH.out.1 HH.out.2 w4 hfa4.2.1;have HAW := hid haw;have H4 := hid hfa4.1.2;clear hI4 hg4 hk4 hfa4 haw HOP2;go_wp2_with fail
   refine HAW.out.mono ?_;rintro e w5 ⟨rfl, hb5⟩;have HB := hid (H4.out.trans (hb5.mono H4.out.size));clear hb5;go_wp2_with fail
   go_ret;exact ⟨rfl, HB.out⟩
set_option maxRecDepth 20000 in
set_option maxHeartbeats 4000000 in
theorem fresh_2 {I : Held} (hH : Has2 I) (hS : HasSch I) (a1 : Int) (w : World) (ht : Cr.Tab w) (hb : 0 ≤ a1 ∧ a1 ≤ 65535) :
 Calls Tryz.prog 4 #[.int .i64 2, .int .u16 a1] w (Tells true w) := by
 have hnw := hH.new a1 w;have hnd : newDk a1 = sd a1 false [] [] (-1) false := by unfold newDk sd; rw [Int.max_eq_left hb.1]; rfl
 rw [hnd] at hnw;have HNW := hid hnw;have HH := hid (And.intro hH hS);have HT := hid ht;have H12 := hid hb;have hw : IntKind.i64.wrap a1 = a1 := IntWalk.i64_in _ (by omega);clear hnw hH hS ht hb hnd;go_enter Tryz.func4, Tryz.ntmps4
 go_wp2_with fail
 refine HNW.out.mono ?_;rintro e w1 ⟨p, S1, rfl, hI1, hn1, hb1⟩;have hfa1 : FA w w1 S1 := ⟨⟨hn1, hb1⟩, ftab_new HT.out hb1 hn1⟩
 have hop : Calls Tryz.prog 8 #[Dsk.ptr p, .int .i64 2] w1 (OpenS I p S1 2 [] (if a1 < ((form (hdr 2)).length : Int) then (7, sd a1 false [] [] (-1) false) else (0, sd a1 true (forms (stored 2 [])) [] (-1) false)) w1) := by
  have h := HH.out.2.open_ 2 (by omega) p S1 _ _ [] [] [] w1 hI1 hfa1.2 (rdb_none (r := a1) H12.out.1 (by have := H12.out.2; omega));rw [read_none, open_new] at h;exact h
 have HOP := hid hop;have H1 := hid hfa1;clear hop hfa1 hI1 hn1 hb1;unfold Dsk.ptr at *;go_wp2_with fail
 refine HOP.out.mono ?_;rintro e w2 hos;by_cases hrm : a1 < ((form (hdr 2)).length : Int)
 · rw [if_pos hrm] at hos
   rcases hos with ⟨h0, _⟩ | ⟨_, rfl, S2, hI2, hg2, hk2⟩
   · exact absurd h0 (by simp)
   have hfa2 := (frame_a w).go H1.out hk2 hg2;have haw := sawake_any HH.out.1 HH.out.2 w2 hfa2.2.1;have HAW := hid haw;have H3 := hid hfa2.1.2;clear hI2 hg2 hk2 hfa2 haw HOP;go_wp2_with fail
   refine HAW.out.mono ?_;rintro e w4 ⟨rfl, hb4⟩;have HB := hid (H3.out.trans (hb4.mono H3.out.size));clear hb4;go_wp2_with fail
   go_ret;exact ⟨rfl, HB.out⟩
 · rw [if_neg hrm] at hos
   rcases hos with ⟨_, s, g, V, n, c, qs, rfl, hqs, S2, hI2, hg2, hk2, hst2, hfr2⟩ | ⟨h0, _⟩
   case inr => exact absurd rfl h0
   have hn0 : n = 0 := by
    have h1 := hfr2.row.len;have h2 := congrArg List.length hqs;rw [List.length_map] at h2;simp only [List.length_nil] at h2;omega
   subst hn0;have hfa2 := (frame_a w).go H1.out hk2 hg2;have hgo : ∀ x ∈ ([] : List Rc), Good 2 x := fun x h => (by cases h);have hfl : ((forms (stored 2 [])).length : Int) ≤ a1 := (by simp only [stored, List.map_nil, forms_one]; omega);have hrb := rdb_stored (v := 2) (rs := []) (by omega) hgo (r := a1) H12.out.1 (by have := H12.out.2; omega) hfl
   have hve : Calls Tryz.prog 16 #[.pointer (some ⟨p, 0, none⟩)] w2 (fun e w' => e = .returned (.tuple #[.int .i64 2, .int .i64 0]) ∧ Stays I p S2 (sd a1 true (forms (stored 2 [])) [] (-1) false) w2 w') := by
    have h := HH.out.2.version p S2 _ _ _ _ _ w2 hI2 (ftab_sub hfa2.2) hrb;rw [load_stored (by omega)] at h;exact h
   have HVE := hid hve;have hl2 := hfr2.row.cap;have H2 := hid (And.intro hfa2 hrb);clear hqs hI2 hg2 hk2 hst2 hfr2 hfa2 hgo hfl hrb hve HOP hrm;go_wp2_with fail
   refine HVE.out.mono ?_;rintro e w3 ⟨rfl, S3, hI3, hg3, hk3⟩;have hfa3 := fa_sub ((frame_a w).go H2.out.1 (plus_keeps hk3) (plus_grew hg3))
   have hop2 : Calls Tryz.prog 8 #[.pointer (some ⟨p, 0, none⟩), .int .i64 1] w3 (OpenS I p S3 1 [] (13, sd a1 true (forms (stored 2 [])) [] (-1) false) w3) := by
    have h := HH.out.2.open_ 1 (by omega) p S3 _ _ _ _ _ w3 hI3 hfa3.2 H2.out.2;have e1 : readOf 1 (stored 2 []) = ([], 13) := read_new []
    have e2 : openR 1 (stored 2 []) (sd a1 true (forms (stored 2 [])) [] (-1) false) (sd a1 true (forms (stored 2 [])) [] (-1) false) = (13, sd a1 true (forms (stored 2 [])) [] (-1) false) := by
     unfold openR;rw [e1, if_pos (by simp)]
    rw [e1, e2] at h;exact h
   have HOP2 := hid hop2;have H3 := hid hfa3;clear hI3 hg3 hk3 hfa3 hop2 HVE;go_wp2_with fail
   refine HOP2.out.mono ?_;rintro e w4 hos;rcases hos with ⟨h0, _⟩ | ⟨_, rfl, S4, hI4, hg4, hk4⟩
   · exact absurd h0 (by simp)
   have hfa4 := (frame_a w).go H3.out hk4 hg4;have haw := sawake_any HH.out.1 HH.out.2 w4 hfa4.2.1;have HAW := hid haw;have H4 := hid hfa4.1.2;clear hI4 hg4 hk4 hfa4 haw HOP2;go_wp2_with fail
   refine HAW.out.mono ?_;rintro e w5 ⟨rfl, hb5⟩;have HB := hid (H4.out.trans (hb5.mono H4.out.size));clear hb5;go_wp2_with fail
   go_ret;exact ⟨rfl, HB.out⟩
theorem schemafresh_true {I : Held} (hH : Has2 I) (hS : HasSch I) (hU : HUsed I) (a0 a1 : Int) (w : World) (ht : Cr.Tab w) (hb : 0 ≤ a1 ∧ a1 ≤ 65535) :
 Calls Tryz.prog 4 #[.int .i64 a0, .int .u16 a1] w (Tells true w) := by
 by_cases h1 : a0 = 1
 · subst h1
   exact fresh_1 hH hS a1 w ht hb
 · by_cases h2 : a0 = 2
   · subst h2
     exact fresh_2 hH hS a1 w ht hb
   · exact fresh_arg hH hS hU a0 a1 w ht h1 h2 hb
end Go.Proofs.YtkejjdoaljoooaaGreatDoor.Sc
