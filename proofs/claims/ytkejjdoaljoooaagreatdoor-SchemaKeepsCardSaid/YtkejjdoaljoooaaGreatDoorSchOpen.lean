/-
  Texts of earlier layers, as one.
-/
import Derived.Test.YtkejjdoaljoooaaGreatDoorSchA
import Derived.Test.YtkejjdoaljoooaaGreatDoorLogWrite
/- The program's begin: a store's log, opened; and its header, where it has none. -/
namespace Go.Proofs.YtkejjdoaljoooaaGreatDoor.Sc
open Lib (hid)
open Go.RowKit Mem Dsk Lg Rk
theorem begin_bad {I : Held} (hH : Has2 I) {p : Nat} {S S1 S2 : Nat → Prop} {x : Nat × Dk} {w W w1 w2 w3 w4 : World} (hb0 : Below w.heap.size w W) (hg : Dsk.Grew S S1 W) (hk : Keeps S W w1) (hb : Below w1.heap.size w1 w2) (hI : I w3 S2 p x.2) (hg2 : Dsk.Grew S1 S2 w2) (hk2 : Keeps S1 w2 w3) (hb3 : Below w3.heap.size w3 w4) : I w4 S2 p x.2 ∧ Dsk.Grew S S2 w ∧ Keeps S w w4 := by
 have g1 : Dsk.Grew S S1 w := (Dsk.Grew.refl S w).trans hg hb0.size;have k1 : Keeps S w w2 := ((Keeps.ofBelow (S := S) hb0).trans hk (Dsk.Grew.refl S w)).trans (Keeps.ofBelow (S := S1) hb) g1;have g2 : Dsk.Grew S S2 w := g1.trans hg2 k1.size;exact ⟨have_bel hH hI hb3, g2, (k1.trans hk2 g1).trans (Keeps.ofBelow (S := S2) hb3) g2⟩
set_option maxRecDepth 20000 in
set_option maxHeartbeats 4000000 in
theorem begin_1 {I : Held} (hH : Has2 I) (p : Nat) (S : Nat → Prop) (d d2 : Dk) (c : List Nat) (l : List (List Nat)) (r : List Nat) (w : World) (hI : I w S p d) (ht : FTab w S) (hR : Rdb d d2 c l r) :
 Calls Tryz.prog 20 #[formV 1, Dsk.ptr p] w (BeginIs I p S (beginR 1 l d2) w) := by
 obtain ⟨W, hW⟩ : ∃ W, w.alloc (.cells #[.int .i64 1, .func (.func 32) #[] #[], .func (.func 33) #[] #[]] 61) = W := ⟨_, rfl⟩
 have hb0 : Below w.heap.size w W := by rw [← hW]; exact bel_alloc (Below.refl _ _) _
 have hblk : Blk W w.heap.size 61 #[.int .i64 1, .func (.func 32) #[] #[], .func (.func 33) #[] #[]] := by rw [← hW]; exact Blk.new w _ _
 have hns : ¬ S w.heap.size := fun hs => Nat.lt_irrefl _ (hH.low hI _ hs);have htW : FTab W S := frame_tab.go ht (Keeps.ofBelow hb0) (Dsk.Grew.refl S w);have hop := open_any hH p S d d2 nlog c l r W (have_bel hH hI hb0) hR.fine htW (by decide) hR.rd hR.lt hR.len hR.R hR.cut0 hR.cut1;have HOP := hid hop;have H0 := hid (And.intro hb0 (And.intro hblk hns));have HT := hid htW;have HW := hid hW;have HR := hid hR.fine2;have HH := hid hH;clear hop hb0 hblk hns hW hI ht hR hH htW;unfold nlog at HOP;unfold formV formC Dsk.ptr at *;go_enter Tryz.func20, Tryz.ntmps20
 go_upto_region 1 with fail
 rw [HW.out];go_wp2_with fail
 refine HOP.out.mono ?_;rintro e w1 ⟨g, V, k, ps, rfl, S1, hI1, hg1, hk1, hlog, hmat, hbs⟩;have hblk1 : Blk w1 w.heap.size 61 #[.int .i64 1, .func (.func 32) #[] #[], .func (.func 33) #[] #[]] := (hk1.block w.heap.size H0.out.2.1.lt H0.out.2.2).trans H0.out.2.1;have c0 := hblk1.cell 0;simp only [List.getElem?_toArray, List.getElem?_cons_zero] at c0;have ht1 := frame_tab.go HT.out hk1 hg1;have HX := hid (And.intro hI1 (And.intro hg1 (And.intro hk1 (And.intro hlog ht1))));have hle := hmat.1.1.le;have hcap := hmat.1.1.cap;clear hI1 hg1 hk1 hmat hbs hlog HOP ht1 hblk1;by_cases hl : l = []
 · subst hl
   have hd := header_any 1 (by omega) w1;have HD := hid hd;clear hd;have z0 : ((([] : List (List Nat)).length : Int) > 0) = False := (by simp);simp only [List.length_nil] at hle;go_wp2_with fail
   refine HD.out.mono ?_;rintro e w2 ⟨HA, hn, hc, rfl, hhl, hnew, hhr, hb2⟩;have hr2 : FRd HA hn hc (cs (hdr 1)) w2 S1 := ⟨hhr, fun h0 ad e hs => by have h1 := hnew ad e; have h2 := HH.out.low HX.out.1 _ hs; omega⟩
   have hI2 := have_bel HH.out HX.out.1 hb2;have had := add_any HH.out g p S1 d2 nlog HA hn hc (hdr 1) w2 hI2 HR.out (frame_tab.go HX.out.2.2.2.2 (Keeps.ofBelow hb2) (Dsk.Grew.refl S1 w1)) ((frame_log g p nlog).go HX.out.2.2.2.1 (Keeps.ofBelow hb2) (Dsk.Grew.refl S1 w1)) hr2 (hdr_lt (by omega)) (by rw [hhl]; show (15 : Nat) ≤ _; omega) (by decide);have hlog2 := (frame_log g p nlog).go HX.out.2.2.2.1 (Keeps.ofBelow hb2) (Dsk.Grew.refl S1 w1);have HAD := hid had;have HB2 := hid (And.intro hb2 hlog2);obtain ⟨x, d3, hx⟩ : ∃ x d3, whole (doAppend nlog (form (hdr 1))) d2 = (x, d3) := ⟨_, _, rfl⟩
   have hf3 : Dsk.Fine d3 := by have h := (fine_putD (hdr 1) HR.out).1; rw [hx] at h; exact h
   have hbr : beginR 1 [] d2 = if x ≠ 0 then (x, d3) else (fg (whole (doSync nlog) d3).1, (whole (doSync nlog) d3).2) := by
    unfold beginR putD;rw [if_pos rfl, hx]
   have HBR := hid (And.intro hbr hf3);rw [hx] at HAD;clear hb2 hr2 hI2 had hhr hnew hlog2 hx hbr hf3 hhl;go_wp2_with fail
   refine HAD.out.mono ?_;rintro e w3 ⟨rfl, S2, hI3, hg3, hk3⟩;simp only at hI3;by_cases hx0 : x = 0
   · subst hx0
     have hlog3 := (frame_log g p nlog).go HB2.out.2 hk3 hg3;have hfl := flush_any HH.out g p S2 d3 nlog w3 hI3 HBR.out.2 hlog3 (by decide);obtain ⟨y, hy⟩ : ∃ y, fg (whole (doSync nlog) d3).1 = y := ⟨_, rfl⟩
     obtain ⟨d4, hd4⟩ : ∃ d4, (whole (doSync nlog) d3).2 = d4 := ⟨_, rfl⟩
     have hbr := HBR.out.1;rw [if_neg (by simp), hy, hd4] at hbr;rw [hy, hd4] at hfl;have HFL := hid hfl;have HY := hid (And.intro hg3 (And.intro hk3 (And.intro hlog3 hbr)));have b0 : (((0 : Nat) : Int) != 0) = false := rfl;clear hI3 hg3 hk3 hlog3 hfl hy hd4 hbr;go_wp2_with fail
     refine HFL.out.mono ?_;rintro e w4 ⟨rfl, S3, hI4, hg4, hk4⟩;have HZ := hid (And.intro hI4 (And.intro hg4 (And.intro hk4 ((frame_log g p nlog).go HY.out.2.2.1 hk4 hg4))));clear hI4 hg4 hk4
     have fin : I w4 S3 p d4 ∧ Dsk.Grew S S3 w ∧ Keeps S w w4 := by
      have h1 := begin_bad (x := (0, d4)) HH.out H0.out.1 HX.out.2.1 HX.out.2.2.1 HB2.out.1 HZ.out.1 (HY.out.1.trans HZ.out.2.1 HY.out.2.1.size) (HY.out.2.1.trans HZ.out.2.2.1 HY.out.1) (Below.refl _ _);exact h1
     have FIN := hid fin;clear fin;by_cases hy0 : y = 0
     · subst hy0
       go_wp2_with fail
       go_ret2
       rw [HY.out.2.2.2];exact .inl ⟨rfl, g, rfl, S3, FIN.out.1, FIN.out.2.1, FIN.out.2.2, HZ.out.2.2.2⟩
     · have b1 : ((y : Int) != 0) = true := by rw [bne_iff_ne]; omega
       have HY0 := hid hy0;clear hy0;go_wp2_with fail
       go_ret2
       rw [HY.out.2.2.2];exact .inr ⟨HY0.out, rfl, S3, FIN.out.1, FIN.out.2.1, FIN.out.2.2⟩
   · have b1 : ((x : Int) != 0) = true := by rw [bne_iff_ne]; omega
     have hbr := HBR.out.1;rw [if_pos hx0] at hbr;have HY := hid (And.intro hI3 (And.intro hg3 (And.intro hk3 (And.intro hx0 hbr))));clear hx0 hI3 hg3 hk3 hbr;go_wp2_with fail
     go_ret2
     rw [HY.out.2.2.2.2];exact .inr ⟨HY.out.2.2.2.1, rfl, S2, begin_bad (x := (x, d3)) HH.out H0.out.1 HX.out.2.1 HX.out.2.2.1 HB2.out.1 HY.out.1 HY.out.2.1 HY.out.2.2.1 (Below.refl _ _)⟩
 · obtain ⟨L, hL⟩ : ∃ L, l.length = L := ⟨_, rfl⟩
   have hL0 : 0 < L := (by rw [← hL]; exact List.length_pos_iff.2 hl);have z1 : decide ((L : Int) > 0) = true := decide_eq_true (by omega);have hbr : beginR 1 l d2 = (0, d2) := (by unfold beginR; rw [if_neg hl]);have HBR := hid hbr;rw [hL] at hle ⊢;clear hl hL hbr;go_wp2_with fail
   go_ret2
   rw [HBR.out];have h1 := begin_bad (x := (0, d2)) HH.out H0.out.1 HX.out.2.1 HX.out.2.2.1 (Below.refl _ _) HX.out.1 (Dsk.Grew.refl S1 w1) (Keeps.refl S1 w1) (Below.refl _ _);exact .inl ⟨rfl, g, rfl, S1, h1.1, h1.2.1, h1.2.2, HX.out.2.2.2.1⟩
set_option maxRecDepth 20000 in
set_option maxHeartbeats 4000000 in
theorem begin_2 {I : Held} (hH : Has2 I) (p : Nat) (S : Nat → Prop) (d d2 : Dk) (c : List Nat) (l : List (List Nat)) (r : List Nat) (w : World) (hI : I w S p d) (ht : FTab w S) (hR : Rdb d d2 c l r) :
 Calls Tryz.prog 20 #[formV 2, Dsk.ptr p] w (BeginIs I p S (beginR 2 l d2) w) := by
 obtain ⟨W, hW⟩ : ∃ W, w.alloc (.cells #[.int .i64 2, .func (.func 34) #[] #[], .func (.func 35) #[] #[]] 61) = W := ⟨_, rfl⟩
 have hb0 : Below w.heap.size w W := by rw [← hW]; exact bel_alloc (Below.refl _ _) _
 have hblk : Blk W w.heap.size 61 #[.int .i64 2, .func (.func 34) #[] #[], .func (.func 35) #[] #[]] := by rw [← hW]; exact Blk.new w _ _
 have hns : ¬ S w.heap.size := fun hs => Nat.lt_irrefl _ (hH.low hI _ hs);have htW : FTab W S := frame_tab.go ht (Keeps.ofBelow hb0) (Dsk.Grew.refl S w);have hop := open_any hH p S d d2 nlog c l r W (have_bel hH hI hb0) hR.fine htW (by decide) hR.rd hR.lt hR.len hR.R hR.cut0 hR.cut1;have HOP := hid hop;have H0 := hid (And.intro hb0 (And.intro hblk hns));have HT := hid htW;have HW := hid hW;have HR := hid hR.fine2;have HH := hid hH;clear hop hb0 hblk hns hW hI ht hR hH htW;unfold nlog at HOP;unfold formV formC Dsk.ptr at *;go_enter Tryz.func20, Tryz.ntmps20
 go_upto_region 1 with fail
 rw [HW.out];go_wp2_with fail
 refine HOP.out.mono ?_;rintro e w1 ⟨g, V, k, ps, rfl, S1, hI1, hg1, hk1, hlog, hmat, hbs⟩;have hblk1 : Blk w1 w.heap.size 61 #[.int .i64 2, .func (.func 34) #[] #[], .func (.func 35) #[] #[]] := (hk1.block w.heap.size H0.out.2.1.lt H0.out.2.2).trans H0.out.2.1;have c0 := hblk1.cell 0;simp only [List.getElem?_toArray, List.getElem?_cons_zero] at c0;have ht1 := frame_tab.go HT.out hk1 hg1;have HX := hid (And.intro hI1 (And.intro hg1 (And.intro hk1 (And.intro hlog ht1))));have hle := hmat.1.1.le;have hcap := hmat.1.1.cap;clear hI1 hg1 hk1 hmat hbs hlog HOP ht1 hblk1;by_cases hl : l = []
 · subst hl
   have hd := header_any 2 (by omega) w1;have HD := hid hd;clear hd;have z0 : ((([] : List (List Nat)).length : Int) > 0) = False := (by simp);simp only [List.length_nil] at hle;go_wp2_with fail
   refine HD.out.mono ?_;rintro e w2 ⟨HA, hn, hc, rfl, hhl, hnew, hhr, hb2⟩;have hr2 : FRd HA hn hc (cs (hdr 2)) w2 S1 := ⟨hhr, fun h0 ad e hs => by have h1 := hnew ad e; have h2 := HH.out.low HX.out.1 _ hs; omega⟩
   have hI2 := have_bel HH.out HX.out.1 hb2;have had := add_any HH.out g p S1 d2 nlog HA hn hc (hdr 2) w2 hI2 HR.out (frame_tab.go HX.out.2.2.2.2 (Keeps.ofBelow hb2) (Dsk.Grew.refl S1 w1)) ((frame_log g p nlog).go HX.out.2.2.2.1 (Keeps.ofBelow hb2) (Dsk.Grew.refl S1 w1)) hr2 (hdr_lt (by omega)) (by rw [hhl]; show (15 : Nat) ≤ _; omega) (by decide);have hlog2 := (frame_log g p nlog).go HX.out.2.2.2.1 (Keeps.ofBelow hb2) (Dsk.Grew.refl S1 w1);have HAD := hid had;have HB2 := hid (And.intro hb2 hlog2);obtain ⟨x, d3, hx⟩ : ∃ x d3, whole (doAppend nlog (form (hdr 2))) d2 = (x, d3) := ⟨_, _, rfl⟩
   have hf3 : Dsk.Fine d3 := by have h := (fine_putD (hdr 2) HR.out).1; rw [hx] at h; exact h
   have hbr : beginR 2 [] d2 = if x ≠ 0 then (x, d3) else (fg (whole (doSync nlog) d3).1, (whole (doSync nlog) d3).2) := by
    unfold beginR putD;rw [if_pos rfl, hx]
   have HBR := hid (And.intro hbr hf3);rw [hx] at HAD;clear hb2 hr2 hI2 had hhr hnew hlog2 hx hbr hf3 hhl;go_wp2_with fail
   refine HAD.out.mono ?_;rintro e w3 ⟨rfl, S2, hI3, hg3, hk3⟩;simp only at hI3;by_cases hx0 : x = 0
   · subst hx0
     have hlog3 := (frame_log g p nlog).go HB2.out.2 hk3 hg3;have hfl := flush_any HH.out g p S2 d3 nlog w3 hI3 HBR.out.2 hlog3 (by decide);obtain ⟨y, hy⟩ : ∃ y, fg (whole (doSync nlog) d3).1 = y := ⟨_, rfl⟩
     obtain ⟨d4, hd4⟩ : ∃ d4, (whole (doSync nlog) d3).2 = d4 := ⟨_, rfl⟩
     have hbr := HBR.out.1;rw [if_neg (by simp), hy, hd4] at hbr;rw [hy, hd4] at hfl;have HFL := hid hfl;have HY := hid (And.intro hg3 (And.intro hk3 (And.intro hlog3 hbr)));have b0 : (((0 : Nat) : Int) != 0) = false := rfl;clear hI3 hg3 hk3 hlog3 hfl hy hd4 hbr;go_wp2_with fail
     refine HFL.out.mono ?_;rintro e w4 ⟨rfl, S3, hI4, hg4, hk4⟩;have HZ := hid (And.intro hI4 (And.intro hg4 (And.intro hk4 ((frame_log g p nlog).go HY.out.2.2.1 hk4 hg4))));clear hI4 hg4 hk4
     have fin : I w4 S3 p d4 ∧ Dsk.Grew S S3 w ∧ Keeps S w w4 := by
      have h1 := begin_bad (x := (0, d4)) HH.out H0.out.1 HX.out.2.1 HX.out.2.2.1 HB2.out.1 HZ.out.1 (HY.out.1.trans HZ.out.2.1 HY.out.2.1.size) (HY.out.2.1.trans HZ.out.2.2.1 HY.out.1) (Below.refl _ _);exact h1
     have FIN := hid fin;clear fin;by_cases hy0 : y = 0
     · subst hy0
       go_wp2_with fail
       go_ret2
       rw [HY.out.2.2.2];exact .inl ⟨rfl, g, rfl, S3, FIN.out.1, FIN.out.2.1, FIN.out.2.2, HZ.out.2.2.2⟩
     · have b1 : ((y : Int) != 0) = true := by rw [bne_iff_ne]; omega
       have HY0 := hid hy0;clear hy0;go_wp2_with fail
       go_ret2
       rw [HY.out.2.2.2];exact .inr ⟨HY0.out, rfl, S3, FIN.out.1, FIN.out.2.1, FIN.out.2.2⟩
   · have b1 : ((x : Int) != 0) = true := by rw [bne_iff_ne]; omega
     have hbr := HBR.out.1;rw [if_pos hx0] at hbr;have HY := hid (And.intro hI3 (And.intro hg3 (And.intro hk3 (And.intro hx0 hbr))));clear hx0 hI3 hg3 hk3 hbr;go_wp2_with fail
     go_ret2
     rw [HY.out.2.2.2.2];exact .inr ⟨HY.out.2.2.2.1, rfl, S2, begin_bad (x := (x, d3)) HH.out H0.out.1 HX.out.2.1 HX.out.2.2.1 HB2.out.1 HY.out.1 HY.out.2.1 HY.out.2.2.1 (Below.refl _ _)⟩
 · obtain ⟨L, hL⟩ : ∃ L, l.length = L := ⟨_, rfl⟩
   have hL0 : 0 < L := (by rw [← hL]; exact List.length_pos_iff.2 hl);have z1 : decide ((L : Int) > 0) = true := decide_eq_true (by omega);have hbr : beginR 2 l d2 = (0, d2) := (by unfold beginR; rw [if_neg hl]);have HBR := hid hbr;rw [hL] at hle ⊢;clear hl hL hbr;go_wp2_with fail
   go_ret2
   rw [HBR.out];have h1 := begin_bad (x := (0, d2)) HH.out H0.out.1 HX.out.2.1 HX.out.2.2.1 (Below.refl _ _) HX.out.1 (Dsk.Grew.refl S1 w1) (Keeps.refl S1 w1) (Below.refl _ _);exact .inl ⟨rfl, g, rfl, S1, h1.1, h1.2.1, h1.2.2, HX.out.2.2.2.1⟩
theorem begin_any {I : Held} (hH : Has2 I) : HBegin I := by
 intro v hv p S d d2 c l r w hI ht hR;rcases hv with rfl | rfl
 · exact begin_1 hH p S d d2 c l r w hI ht hR
 · exact begin_2 hH p S d d2 c l r w hI ht hR
end Go.Proofs.YtkejjdoaljoooaaGreatDoor.Sc
/- The program's Open, of what its reading and its beginning come to. -/
namespace Go.Proofs.YtkejjdoaljoooaaGreatDoor.Sc
open Lib (hid)
open Go.RowKit Mem Dsk Lg Rk
theorem keeps_two {S S1 : Nat → Prop} {w W w1 : World} (hb0 : Below w.heap.size w W) (hg : Dsk.Grew S S1 W) (hk : Keeps S W w1) : Dsk.Grew S S1 w ∧ Keeps S w w1 :=
 ⟨(Dsk.Grew.refl S w).trans hg hb0.size, (Keeps.ofBelow (S := S) hb0).trans hk (Dsk.Grew.refl S w)⟩
set_option maxRecDepth 20000 in
set_option maxHeartbeats 4000000 in
theorem open_1 {I : Held} (hH : Has2 I) (hRd : HRead I) (hBg : HBegin I) (p : Nat) (S : Nat → Prop) (d d2 : Dk) (c : List Nat) (l : List (List Nat)) (r : List Nat) (w : World) (hI : I w S p d) (ht : FTab w S) (hR : Rdb d d2 c l r) :
 Calls Tryz.prog 8 #[Dsk.ptr p, .int .i64 1] w (OpenS I p S 1 (readOf 1 l).1 (openR 1 l d d2) w) := by
 have hf := form_any (v := 1) (by omega) w;have HF := hid hf;have H0 := hid (And.intro hI (And.intro ht hR));have HH := hid (And.intro hH (And.intro hRd hBg));clear hf hI ht hR hH hRd hBg;unfold Dsk.ptr;unfold formV formC at HF;go_enter Tryz.func8, Tryz.ntmps8
 go_wp2_with fail
 refine HF.out.mono ?_;rintro e w1 ⟨rfl, hb1⟩;have hz := Blk.new w1 61 #[.int .i64 0, .nilFunc, .nilFunc];have hb2 := bel_alloc hb1 (.cells #[.int .i64 0, .nilFunc, .nilFunc] 61);have HZ := hid (And.intro hz (And.intro hb1 hb2));clear hz hb1 hb2;go_upto_region 4 with (with_reducible refine wpList_store_blk rfl 61 (.tmp 7) (.tmp 13) rfl w1.heap.size 61 #[.int .i64 0, .nilFunc, .nilFunc] #[.int .i64 1, .func (.func 32) #[] #[], .func (.func 33) #[] #[]] rfl rfl HZ.out.1 (by kernel_rfl) rfl (by kernel_rfl) ?_; intro w2 hblk hg2)
 have hbw : Below w.heap.size w w2 := HZ.out.2.2.grown hg2 HZ.out.2.2.size fun k e => by injection e with e; have := HZ.out.2.1.size; omega
 have hns : ¬ S w1.heap.size := fun hs => by have h1 := HH.out.1.low H0.out.1 _ hs; have h2 := HZ.out.2.1.size; omega
 have hI2 := have_bel HH.out.1 H0.out.1 hbw;have ht2 := frame_tab.go H0.out.2.1 (Keeps.ofBelow hbw) (Dsk.Grew.refl S w);have hrd : Calls Tryz.prog 19 #[.agg #[.int .i64 1, .func (.func 32) #[] #[], .func (.func 33) #[] #[]], .pointer (some ⟨p, 0, none⟩)] w2 (ReadIs I p S 1 l d w2) := HH.out.2.1 1 (by omega) p S d d2 c l r w2 hI2 ht2 H0.out.2.2;have HRD := hid hrd;have c0 := hblk.cell 0;have c1 := hblk.cell 1;have c2 := hblk.cell 2;simp only [List.getElem?_toArray, List.getElem?_cons_succ, List.getElem?_cons_zero] at c0 c1 c2;have H2 := hid (And.intro hbw (And.intro hns (And.intro hblk ht2)));clear hbw hns hI2 hrd hg2 hblk ht2;go_wp2_with fail
 refine HRD.out.mono ?_;rintro e w3 ⟨V, n, k, qs, rfl, hq, hz3, S1, hI3, hg3, hk3, hfr3⟩;have hblk3 : Blk w3 w1.heap.size 61 #[.int .i64 1, .func (.func 32) #[] #[], .func (.func 33) #[] #[]] := (hk3.block w1.heap.size H2.out.2.2.1.lt H2.out.2.1).trans H2.out.2.2.1
 have hns3 : ¬ S1 w1.heap.size := fun hs => by
  rcases hg3 _ hs with h' | h'
  · exact H2.out.2.1 h'
  · have := H2.out.2.2.1.lt; omega
 obtain ⟨x, hx⟩ : ∃ x, (readOf 1 l).2 = x := ⟨_, rfl⟩
 have hor : openR 1 l d d2 = if x ≠ 0 then (x, d) else beginR 1 l d2 := by unfold openR; rw [hx]
 rw [hx] at hz3 ⊢;have h23 := keeps_two H2.out.1 hg3 hk3;have ht3 := frame_tab.go H2.out.2.2.2 hk3 hg3;have H3 := hid (And.intro hI3 (And.intro h23 (And.intro hblk3 (And.intro hns3 (And.intro hq (And.intro hfr3 hor))))));have HT3 := hid ht3;clear c0 c1 c2 hI3 hg3 hk3 hfr3 hq hblk3 hns3 h23 hor ht3;by_cases h0 : x = 0
 · subst h0
   have hbg : Calls Tryz.prog 20 #[.agg #[.int .i64 1, .func (.func 32) #[] #[], .func (.func 33) #[] #[]], .pointer (some ⟨p, 0, none⟩)] w3 (BeginIs I p S1 (beginR 1 l d2) w3) := HH.out.2.2 1 (by omega) p S1 d d2 c l r w3 H3.out.1 HT3.out H0.out.2.2;have HBG := hid hbg;have b0 : (((0 : Nat) : Int) != 0) = false := rfl;have hor := H3.out.2.2.2.2.2.2;rw [if_neg (by simp)] at hor;have c0 := H3.out.2.2.1.cell 0;have c1 := H3.out.2.2.1.cell 1;have c2 := H3.out.2.2.1.cell 2;simp only [List.getElem?_toArray, List.getElem?_cons_succ, List.getElem?_cons_zero] at c0 c1 c2;have HOR := hid hor;clear hbg hor hz3 hx;go_wp2_with fail
   refine HBG.out.mono ?_;rintro e w4 hbe;obtain ⟨y, d3, hy⟩ : ∃ y d3, beginR 1 l d2 = (y, d3) := ⟨_, _, rfl⟩
   unfold BeginIs at hbe;rw [hy] at HOR hbe;rcases hbe with ⟨hy0, g, rfl, S2, hI4, hg4, hk4, hlog4⟩ | ⟨hy0, rfl, S2, hI4, hg4, hk4⟩
   · have hy0 : y = 0 := hy0
     subst hy0;have hblk4 : Blk w4 w1.heap.size 61 #[.int .i64 1, .func (.func 32) #[] #[], .func (.func 33) #[] #[]] := (hk4.block w1.heap.size H3.out.2.2.1.lt H3.out.2.2.2.1).trans H3.out.2.2.1;have k0 := hblk4.cell 0;have k1 := hblk4.cell 1;have k2 := hblk4.cell 2;simp only [List.getElem?_toArray, List.getElem?_cons_succ, List.getElem?_cons_zero] at k0 k1 k2;have hq4 := (frame_recs V n k qs).go H3.out.2.2.2.2.2.1 hk4 hg4;have H4 := hid (And.intro hI4 (And.intro hg4 (And.intro hk4 (And.intro hlog4 hq4))));clear c0 c1 c2 hI4 hg4 hk4 hlog4 hblk4 hq4;go_wp2_with fail
     go_ret3
     rw [HOR.out];have hg5 : Dsk.Grew S S2 w := H3.out.2.1.1.trans H4.out.2.1 H3.out.2.1.2.size;have hk5 : Keeps S w w4 := H3.out.2.1.2.trans H4.out.2.2.1 H3.out.2.1.1;have hb5 := bel_alloc (Below.refl w4.heap.size w4) (.cells #[.pointer (some ⟨p, 0, none⟩), .int .i64 1, .func (.func 32) #[] #[], .func (.func 33) #[] #[], .pointer (some ⟨g, 0, none⟩)] 70);have hlow := HH.out.1.low H4.out.1;have hnew : ¬ S2 w4.heap.size := fun hs => Nat.lt_irrefl _ (hlow _ hs);refine .inl ⟨rfl, w4.heap.size, g, V, n, k, qs, rfl, H3.out.2.2.2.2.1, S2, have_bel HH.out.1 H4.out.1 hb5, fun b hb => ?_, hk5.trans (Keeps.ofBelow (S := S2) hb5) hg5, ⟨Blk.new w4 70 _, hnew, fun g' e => ?_⟩, ?_⟩
     · rcases hb with hb | hb
       · exact hg5 b hb
       · exact .inr (by rw [hb]; exact hk5.size)
     · injection e with e
       subst e;exact ⟨(frame_log g p nlog).go H4.out.2.2.2.1 (Keeps.ofBelow hb5) (Dsk.Grew.refl S2 w4), fun e => by have := H4.out.2.2.2.1.1.lt; omega⟩
     · refine (frame_recs V n k qs).go H4.out.2.2.2.2 (Keeps.ofBelow (S := S2) hb5) fun b hb => ?_
       rcases hb with hb | hb
       · exact .inl hb
       · exact .inr (by rw [hb]; exact Nat.le_refl _)
   · have hy0 : y ≠ 0 := hy0
     have b1 : ((y : Int) != 0) = true := (by rw [bne_iff_ne]; omega);have H4 := hid (And.intro hI4 (And.intro hg4 (And.intro hk4 hy0)));clear c0 c1 c2 hI4 hg4 hk4 hy0;go_wp2_with fail
     go_ret3
     rw [HOR.out];exact .inr ⟨H4.out.2.2.2, rfl, S2, H4.out.1, H3.out.2.1.1.trans H4.out.2.1 H3.out.2.1.2.size, H3.out.2.1.2.trans H4.out.2.2.1 H3.out.2.1.1⟩
 · have b1 : ((x : Int) != 0) = true := by rw [bne_iff_ne]; omega
   have hor := H3.out.2.2.2.2.2.2;rw [if_pos h0] at hor;have HOR := hid (And.intro hor h0);clear hor h0 hz3 hx;go_wp2_with fail
   go_ret3
   rw [HOR.out.1];exact .inr ⟨HOR.out.2, rfl, S1, H3.out.1, H3.out.2.1.1, H3.out.2.1.2⟩
set_option maxRecDepth 20000 in
set_option maxHeartbeats 4000000 in
theorem open_2 {I : Held} (hH : Has2 I) (hRd : HRead I) (hBg : HBegin I) (p : Nat) (S : Nat → Prop) (d d2 : Dk) (c : List Nat) (l : List (List Nat)) (r : List Nat) (w : World) (hI : I w S p d) (ht : FTab w S) (hR : Rdb d d2 c l r) :
 Calls Tryz.prog 8 #[Dsk.ptr p, .int .i64 2] w (OpenS I p S 2 (readOf 2 l).1 (openR 2 l d d2) w) := by
 have hf := form_any (v := 2) (by omega) w;have HF := hid hf;have H0 := hid (And.intro hI (And.intro ht hR));have HH := hid (And.intro hH (And.intro hRd hBg));clear hf hI ht hR hH hRd hBg;unfold Dsk.ptr;unfold formV formC at HF;go_enter Tryz.func8, Tryz.ntmps8
 go_wp2_with fail
 refine HF.out.mono ?_;rintro e w1 ⟨rfl, hb1⟩;have hz := Blk.new w1 61 #[.int .i64 0, .nilFunc, .nilFunc];have hb2 := bel_alloc hb1 (.cells #[.int .i64 0, .nilFunc, .nilFunc] 61);have HZ := hid (And.intro hz (And.intro hb1 hb2));clear hz hb1 hb2;go_upto_region 4 with (with_reducible refine wpList_store_blk rfl 61 (.tmp 7) (.tmp 13) rfl w1.heap.size 61 #[.int .i64 0, .nilFunc, .nilFunc] #[.int .i64 2, .func (.func 34) #[] #[], .func (.func 35) #[] #[]] rfl rfl HZ.out.1 (by kernel_rfl) rfl (by kernel_rfl) ?_; intro w2 hblk hg2)
 have hbw : Below w.heap.size w w2 := HZ.out.2.2.grown hg2 HZ.out.2.2.size fun k e => by injection e with e; have := HZ.out.2.1.size; omega
 have hns : ¬ S w1.heap.size := fun hs => by have h1 := HH.out.1.low H0.out.1 _ hs; have h2 := HZ.out.2.1.size; omega
 have hI2 := have_bel HH.out.1 H0.out.1 hbw;have ht2 := frame_tab.go H0.out.2.1 (Keeps.ofBelow hbw) (Dsk.Grew.refl S w);have hrd : Calls Tryz.prog 19 #[.agg #[.int .i64 2, .func (.func 34) #[] #[], .func (.func 35) #[] #[]], .pointer (some ⟨p, 0, none⟩)] w2 (ReadIs I p S 2 l d w2) := HH.out.2.1 2 (by omega) p S d d2 c l r w2 hI2 ht2 H0.out.2.2;have HRD := hid hrd;have c0 := hblk.cell 0;have c1 := hblk.cell 1;have c2 := hblk.cell 2;simp only [List.getElem?_toArray, List.getElem?_cons_succ, List.getElem?_cons_zero] at c0 c1 c2;have H2 := hid (And.intro hbw (And.intro hns (And.intro hblk ht2)));clear hbw hns hI2 hrd hg2 hblk ht2;go_wp2_with fail
 refine HRD.out.mono ?_;rintro e w3 ⟨V, n, k, qs, rfl, hq, hz3, S1, hI3, hg3, hk3, hfr3⟩;have hblk3 : Blk w3 w1.heap.size 61 #[.int .i64 2, .func (.func 34) #[] #[], .func (.func 35) #[] #[]] := (hk3.block w1.heap.size H2.out.2.2.1.lt H2.out.2.1).trans H2.out.2.2.1
 have hns3 : ¬ S1 w1.heap.size := fun hs => by
  rcases hg3 _ hs with h' | h'
  · exact H2.out.2.1 h'
  · have := H2.out.2.2.1.lt; omega
 obtain ⟨x, hx⟩ : ∃ x, (readOf 2 l).2 = x := ⟨_, rfl⟩
 have hor : openR 2 l d d2 = if x ≠ 0 then (x, d) else beginR 2 l d2 := by unfold openR; rw [hx]
 rw [hx] at hz3 ⊢;have h23 := keeps_two H2.out.1 hg3 hk3;have ht3 := frame_tab.go H2.out.2.2.2 hk3 hg3;have H3 := hid (And.intro hI3 (And.intro h23 (And.intro hblk3 (And.intro hns3 (And.intro hq (And.intro hfr3 hor))))));have HT3 := hid ht3;clear c0 c1 c2 hI3 hg3 hk3 hfr3 hq hblk3 hns3 h23 hor ht3;by_cases h0 : x = 0
 · subst h0
   have hbg : Calls Tryz.prog 20 #[.agg #[.int .i64 2, .func (.func 34) #[] #[], .func (.func 35) #[] #[]], .pointer (some ⟨p, 0, none⟩)] w3 (BeginIs I p S1 (beginR 2 l d2) w3) := HH.out.2.2 2 (by omega) p S1 d d2 c l r w3 H3.out.1 HT3.out H0.out.2.2;have HBG := hid hbg;have b0 : (((0 : Nat) : Int) != 0) = false := rfl;have hor := H3.out.2.2.2.2.2.2;rw [if_neg (by simp)] at hor;have c0 := H3.out.2.2.1.cell 0;have c1 := H3.out.2.2.1.cell 1;have c2 := H3.out.2.2.1.cell 2;simp only [List.getElem?_toArray, List.getElem?_cons_succ, List.getElem?_cons_zero] at c0 c1 c2;have HOR := hid hor;clear hbg hor hz3 hx;go_wp2_with fail
   refine HBG.out.mono ?_;rintro e w4 hbe;obtain ⟨y, d3, hy⟩ : ∃ y d3, beginR 2 l d2 = (y, d3) := ⟨_, _, rfl⟩
   unfold BeginIs at hbe;rw [hy] at HOR hbe;rcases hbe with ⟨hy0, g, rfl, S2, hI4, hg4, hk4, hlog4⟩ | ⟨hy0, rfl, S2, hI4, hg4, hk4⟩
   · have hy0 : y = 0 := hy0
     subst hy0;have hblk4 : Blk w4 w1.heap.size 61 #[.int .i64 2, .func (.func 34) #[] #[], .func (.func 35) #[] #[]] := (hk4.block w1.heap.size H3.out.2.2.1.lt H3.out.2.2.2.1).trans H3.out.2.2.1;have k0 := hblk4.cell 0;have k1 := hblk4.cell 1;have k2 := hblk4.cell 2;simp only [List.getElem?_toArray, List.getElem?_cons_succ, List.getElem?_cons_zero] at k0 k1 k2;have hq4 := (frame_recs V n k qs).go H3.out.2.2.2.2.2.1 hk4 hg4;have H4 := hid (And.intro hI4 (And.intro hg4 (And.intro hk4 (And.intro hlog4 hq4))));clear c0 c1 c2 hI4 hg4 hk4 hlog4 hblk4 hq4;go_wp2_with fail
     go_ret3
     rw [HOR.out];have hg5 : Dsk.Grew S S2 w := H3.out.2.1.1.trans H4.out.2.1 H3.out.2.1.2.size;have hk5 : Keeps S w w4 := H3.out.2.1.2.trans H4.out.2.2.1 H3.out.2.1.1;have hb5 := bel_alloc (Below.refl w4.heap.size w4) (.cells #[.pointer (some ⟨p, 0, none⟩), .int .i64 2, .func (.func 34) #[] #[], .func (.func 35) #[] #[], .pointer (some ⟨g, 0, none⟩)] 70);have hlow := HH.out.1.low H4.out.1;have hnew : ¬ S2 w4.heap.size := fun hs => Nat.lt_irrefl _ (hlow _ hs);refine .inl ⟨rfl, w4.heap.size, g, V, n, k, qs, rfl, H3.out.2.2.2.2.1, S2, have_bel HH.out.1 H4.out.1 hb5, fun b hb => ?_, hk5.trans (Keeps.ofBelow (S := S2) hb5) hg5, ⟨Blk.new w4 70 _, hnew, fun g' e => ?_⟩, ?_⟩
     · rcases hb with hb | hb
       · exact hg5 b hb
       · exact .inr (by rw [hb]; exact hk5.size)
     · injection e with e
       subst e;exact ⟨(frame_log g p nlog).go H4.out.2.2.2.1 (Keeps.ofBelow hb5) (Dsk.Grew.refl S2 w4), fun e => by have := H4.out.2.2.2.1.1.lt; omega⟩
     · refine (frame_recs V n k qs).go H4.out.2.2.2.2 (Keeps.ofBelow (S := S2) hb5) fun b hb => ?_
       rcases hb with hb | hb
       · exact .inl hb
       · exact .inr (by rw [hb]; exact Nat.le_refl _)
   · have hy0 : y ≠ 0 := hy0
     have b1 : ((y : Int) != 0) = true := (by rw [bne_iff_ne]; omega);have H4 := hid (And.intro hI4 (And.intro hg4 (And.intro hk4 hy0)));clear c0 c1 c2 hI4 hg4 hk4 hy0;go_wp2_with fail
     go_ret3
     rw [HOR.out];exact .inr ⟨H4.out.2.2.2, rfl, S2, H4.out.1, H3.out.2.1.1.trans H4.out.2.1 H3.out.2.1.2.size, H3.out.2.1.2.trans H4.out.2.2.1 H3.out.2.1.1⟩
 · have b1 : ((x : Int) != 0) = true := by rw [bne_iff_ne]; omega
   have hor := H3.out.2.2.2.2.2.2;rw [if_pos h0] at hor;have HOR := hid (And.intro hor h0);clear hor h0 hz3 hx;go_wp2_with fail
   go_ret3
   rw [HOR.out.1];exact .inr ⟨HOR.out.2, rfl, S1, H3.out.1, H3.out.2.1.1, H3.out.2.1.2⟩
theorem sopen_any {I : Held} (hH : Has2 I) (hRd : HRead I) (hBg : HBegin I) : HOpen I := by
 intro v hv p S d d2 c l r w hI ht hR;rcases hv with rfl | rfl
 · exact open_1 hH hRd hBg p S d d2 c l r w hI ht hR
 · exact open_2 hH hRd hBg p S d d2 c l r w hI ht hR
set_option maxRecDepth 20000 in
set_option maxHeartbeats 4000000 in
theorem open_arg : HArg := by
 intro v p w h1 h2;have hf := form_none v h1 h2 w;have HF := hid hf;clear hf;unfold Dsk.ptr;go_enter Tryz.func8, Tryz.ntmps8
 go_wp2_with fail
 refine HF.out.mono ?_;rintro e w1 ⟨rfl, hb1⟩;have hz := Blk.new w1 61 #[.int .i64 0, .nilFunc, .nilFunc];have hb2 := bel_alloc hb1 (.cells #[.int .i64 0, .nilFunc, .nilFunc] 61);have HZ := hid (And.intro hz (And.intro hb1 hb2));clear hz hb1 hb2;go_wp2_with (with_reducible refine wpList_store_blk rfl 61 (.tmp 7) (.tmp 13) rfl w1.heap.size 61 #[.int .i64 0, .nilFunc, .nilFunc] #[.int .i64 0, .nilFunc, .nilFunc] rfl rfl HZ.out.1 (by kernel_rfl) rfl (by kernel_rfl) ?_; intro w2 hblk hg2)
 go_ret3
 exact ⟨rfl, HZ.out.2.2.grown hg2 HZ.out.2.2.size fun k e => by injection e with e; have := HZ.out.2.1.size; omega⟩
end Go.Proofs.YtkejjdoaljoooaaGreatDoor.Sc
/- The program's write of a store of one record, and Forward of such a store. -/
namespace Go.Proofs.YtkejjdoaljoooaaGreatDoor.Sc
open Lib (hid)
open Go.RowKit Mem Dsk Lg Rk Go.Shelf
theorem infoB : (Tryz.prog.info? 71).map (fun i => (i.zero, i.size, i.bytes)) = some (some (.slice none 0 0), 1, 24) := by kernel_rfl
theorem rd_grown {w w' : World} {A : Option Addr} {n c B : Nat} {xs : List Value} (h : Rd w A n c xs) (hg : w.grownBy w' (some B)) (hn : ∀ ad, A = some ad → ad.block < w.heap.size → ad.block ≠ B) : Rd w' A n c xs :=
 ⟨h.len, h.le, h.cap, h.nil, fun h0 => by
  obtain ⟨ad, e, hb, hc⟩ := h.spot h0;refine ⟨ad, e, Nat.lt_of_lt_of_le hb hg.size, fun j u hu => (World.cell?_of_block ?_).trans (hc j u hu)⟩;rw [add_block];exact hg.block ad.block hb fun e' => hn ad e hb (by injection e')⟩
theorem append_part {w : World} {B b : Nat} {x y : Value} (hx : w.ownsRow B 71 1 (.slice (some ⟨B, 0, none⟩) 1 1) 1 [x]) (hy : Rd w (some ⟨b, 0, none⟩) 1 1 [y]) (h1 : y.oneCell' = true) (hB : B ≤ w.heap.size) :
 ∃ V c w', (Builtin.append_ #[74, 74] 74 #[.slice (some ⟨B, 0, none⟩) 1 1, .slice (some ⟨b, 0, none⟩) 1 1]).run Tryz.prog w = .ok (.slice V 2 c) w' ∧ Rd w' V 2 c [x, y] ∧ (∀ ad, V = some ad → B ≤ ad.block) ∧ w.grownBy w' (some B) := by
 obtain ⟨i0, hi, hz0, hz1, hz2⟩ := info_parts infoB;obtain ⟨v', w', hrun, ho, hg, _, _⟩ := run_append_own_at (P := Tryz.prog) w B 74 74 71 i0 _ 1 24 Tryz.underlying74 hi hz0 hz1 hz2 rfl (by omega) _ 1 _ hx ⟨b, 0, none⟩ 1 1 [y] rfl (hy.cells _ rfl) (by intro u hu; rw [List.mem_singleton.1 hu]; exact h1) (by unfold maxLen; omega) (by omega) hB;obtain ⟨V, c, rfl⟩ := own_form ho;exact ⟨V, c, w', hrun, Rd.own ho, fun ad e => (ho.lt ad.block (by rw [e]; rfl)).1, hg⟩
def WrRel (HA : Option Addr) (hn hc : Nat) (q : Pt) (w w3 : World) (B : Nat) (i a : Value) (wr : World) : Prop :=
 (i = .int .i64 0 ∧ a = .slice (some ⟨B, 0, none⟩) 1 1 ∧ wr = w3) ∨
 (i = .int .i64 1 ∧ ∃ V c pr, a = .slice V 2 c ∧ Cr.Mat wr V 2 c [⟨HA, hn, hc, hdr 2⟩, pr] ∧ pr.bs = lay 2 q.r ∧ (∀ ad, V = some ad → w.heap.size ≤ ad.block) ∧ (∀ ad, pr.A = some ad → w.heap.size ≤ ad.block) ∧ Below w.heap.size w wr)
set_option maxRecDepth 20000 in
set_option maxHeartbeats 4000000 in
theorem write_1 {I : Held} (hH : Has2 I) : HWrite I := by
 intro p S A c q d w hI ht hfr hf hgood;obtain ⟨W, hW⟩ : ∃ W, w.alloc (.cells #[.int .i64 2, .func (.func 34) #[] #[], .func (.func 35) #[] #[]] 61) = W := ⟨_, rfl⟩
 have hb0 : Below w.heap.size w W := by rw [← hW]; exact bel_alloc (Below.refl _ _) _
 have hblk : Blk W w.heap.size 61 #[.int .i64 2, .func (.func 34) #[] #[], .func (.func 35) #[] #[]] := by rw [← hW]; exact Blk.new w _ _
 have hws : W.heap.size = w.heap.size + 1 := by rw [← hW]; simp
 have hhd := header_any 2 (by omega) W;have c0 := hblk.cell 0;simp only [List.getElem?_toArray, List.getElem?_cons_zero] at c0;have HHD := hid hhd;have H0 := hid (And.intro hb0 (And.intro hblk hws));have HI := hid (And.intro hI (And.intro ht (And.intro hfr (And.intro hf hgood))));have HH := hid hH;have HW := hid hW;have hcl := hfr.row.le;have hcm := hfr.row.cap;clear hhd hb0 hblk hws hI ht hfr hf hgood hH hW;unfold formV formC Dsk.ptr;go_enter Tryz.func52, Tryz.ntmps52
 go_upto_region 1 with fail
 rw [HW.out];go_wp2_with fail
 refine HHD.out.mono ?_;rintro e w2 ⟨HA, hn, hc, rfl, hhl, hnew, hhr, hb2⟩;have hbl : Blk w2 w.heap.size 61 #[.int .i64 2, .func (.func 34) #[] #[], .func (.func 35) #[] #[]] := H0.out.2.1.bel hb2;have H2 := hid (And.intro hhl (And.intro hnew (And.intro hhr (And.intro hb2 hbl))));clear hhl hnew hhr hb2 hbl c0;obtain ⟨w3, hw3⟩ : ∃ w3, w2.alloc (.cells #[.slice HA hn hc] 71) = w3 := ⟨_, rfl⟩
 have HW3 := hid hw3;have hown3 : w3.ownsRow w2.heap.size 71 1 (.slice (some ⟨w2.heap.size, 0, none⟩) 1 1) 1 [.slice HA hn hc] := by rw [← hw3]; exact World.ownsRow_lit w2 #[.slice HA hn hc] 1 (Nat.le_refl _) (by simp [maxLen]) rfl
 have hb3 : Below w2.heap.size w2 w3 := by rw [← hw3]; exact bel_alloc (Below.refl _ _) _
 have hs3 : w3.heap.size = w2.heap.size + 1 := by rw [← hw3]; simp
 have H3 := hid (And.intro hown3 (And.intro hb3 hs3));clear hw3 hown3 hb3 hs3;go_upto_region 2 with fail
 rw [HW3.out];go_wp2_with fail
 go_loopw [18, 7] (WrRel HA hn hc q w w3 w2.heap.size) (fun i _ _ => 1 - (intOf i).toNat)
 case atStart => exact .inl ⟨rfl, rfl, rfl⟩
 case round =>
  rcases hrel with ⟨rfl, rfl, rfl⟩ | ⟨rfl, V2, c2, pr, rfl, hmat, hpb, hV2, hpn, hbr⟩
  · have hbw3 : Below w.heap.size w wr := (H0.out.1.trans (H2.out.2.2.2.1.mono H0.out.1.size)).trans (H3.out.2.1.mono (by have := H0.out.1.size; have := H2.out.2.2.2.1.size; omega))
    obtain ⟨g, o, q', hA, hgl, hq', hra, hdep⟩ := (HI.out.2.2.1.row.below hbw3).at_ (k := 0) (by omega);simp only [List.getElem?_cons_zero, Option.some.injEq] at hq';subst hq';subst hA;rw [Nat.zero_mul, Nat.add_zero] at hra;have hra2 : wr.rangeAt g o [.int .i64 q.r.id.1, .int .i64 q.r.id.2, .int .i64 q.r.st, .int .i64 q.r.bl.1, .int .i64 q.r.bl.2, .int .i64 q.r.tk.1, .int .i64 q.r.tk.2, .int .i64 q.r.cm.kd, .int .i64 q.r.cm.cl, .int .i64 q.r.cm.sq, .string q.r.cm.ky, .string q.r.cm.vl, .int .i64 q.r.cm.rv, .slice q.V q.n q.c, .int .i64 q.r.at_.sq, .int .i64 q.r.at_.tg] := hra;have hbl3 : Blk wr w.heap.size 61 #[.int .i64 2, .func (.func 34) #[] #[], .func (.func 35) #[] #[]] := H2.out.2.2.2.2.bel H3.out.2.1;have hz := Blk.new wr 43 #[.int .i64 0, .int .i64 0, .int .i64 0, .int .i64 0, .int .i64 0, .int .i64 0, .int .i64 0, .int .i64 0, .int .i64 0, .int .i64 0, .string ⟨#[]⟩, .string ⟨#[]⟩, .int .i64 0, .slice none 0 0, .int .i64 0, .int .i64 0];have HRA := hid (And.intro hra2 (And.intro hdep (And.intro hbl3 (And.intro hz hbw3))));clear hra hra2 hdep hbl3 hz hbw3;go_upto_region 5 with (first | (with_reducible refine wpList_load_mid rfl 43 (.tmp 20) rfl g o rfl [.int .i64 q.r.id.1, .int .i64 q.r.id.2, .int .i64 q.r.st, .int .i64 q.r.bl.1, .int .i64 q.r.bl.2, .int .i64 q.r.tk.1, .int .i64 q.r.tk.2, .int .i64 q.r.cm.kd, .int .i64 q.r.cm.cl, .int .i64 q.r.cm.sq, .string q.r.cm.ky, .string q.r.cm.vl, .int .i64 q.r.cm.rv, .slice q.V q.n q.c, .int .i64 q.r.at_.sq, .int .i64 q.r.at_.tg] _ HRA.out.1 Tryz.underlying43 rfl (by kernel_rfl) ?_) | (with_reducible refine wpList_store_blk rfl 43 (.tmp 9) (.tmp 21) rfl wr.heap.size 43 #[.int .i64 0, .int .i64 0, .int .i64 0, .int .i64 0, .int .i64 0, .int .i64 0, .int .i64 0, .int .i64 0, .int .i64 0, .int .i64 0, .string ⟨#[]⟩, .string ⟨#[]⟩, .int .i64 0, .slice none 0 0, .int .i64 0, .int .i64 0] #[.int .i64 q.r.id.1, .int .i64 q.r.id.2, .int .i64 q.r.st, .int .i64 q.r.bl.1, .int .i64 q.r.bl.2, .int .i64 q.r.tk.1, .int .i64 q.r.tk.2, .int .i64 q.r.cm.kd, .int .i64 q.r.cm.cl, .int .i64 q.r.cm.sq, .string q.r.cm.ky, .string q.r.cm.vl, .int .i64 q.r.cm.rv, .slice q.V q.n q.c, .int .i64 q.r.at_.sq, .int .i64 q.r.at_.tg] rfl rfl HRA.out.2.2.2.1 (by kernel_rfl) rfl (by kernel_rfl) ?_; intro w5 hblk5 hg5))
    have hb35 : Below wr.heap.size wr w5 := (bel_alloc (Below.refl _ _) _).grown hg5 (by simp) fun k e => (by injection e with e; omega);have hbl5 : Blk w5 w.heap.size 61 #[.int .i64 2, .func (.func 34) #[] #[], .func (.func 35) #[] #[]] := HRA.out.2.2.1.bel hb35;have k0 := hbl5.cell 0;have k1 := hbl5.cell 1;have k2 := hbl5.cell 2;simp only [List.getElem?_toArray, List.getElem?_cons_succ, List.getElem?_cons_zero] at k0 k1 k2;have hby : Calls Tryz.prog 21 #[.agg #[.int .i64 2, .func (.func 34) #[] #[], .func (.func 35) #[] #[]], .agg #[.int .i64 q.r.id.1, .int .i64 q.r.id.2, .int .i64 q.r.st, .int .i64 q.r.bl.1, .int .i64 q.r.bl.2, .int .i64 q.r.tk.1, .int .i64 q.r.tk.2, .int .i64 q.r.cm.kd, .int .i64 q.r.cm.cl, .int .i64 q.r.cm.sq, .string q.r.cm.ky, .string q.r.cm.vl, .int .i64 q.r.cm.rv, .slice q.V q.n q.c, .int .i64 q.r.at_.sq, .int .i64 q.r.at_.tg]] w5 (BytesIs 2 q.r w5) := bytes_any (v := 2) (by omega) q w5 (Ids.Rs.below HRA.out.2.1 hb35);have HBY := hid hby;have H5 := hid (And.intro hb35 hblk5);clear hb35 hblk5 hg5 hbl5 hby;go_wp2_with (with_reducible refine wpList_load_blk rfl 43 (.tmp 9) rfl wr.heap.size 43 #[.int .i64 q.r.id.1, .int .i64 q.r.id.2, .int .i64 q.r.st, .int .i64 q.r.bl.1, .int .i64 q.r.bl.2, .int .i64 q.r.tk.1, .int .i64 q.r.tk.2, .int .i64 q.r.cm.kd, .int .i64 q.r.cm.cl, .int .i64 q.r.cm.sq, .string q.r.cm.ky, .string q.r.cm.vl, .int .i64 q.r.cm.rv, .slice q.V q.n q.c, .int .i64 q.r.at_.sq, .int .i64 q.r.at_.tg] _ rfl H5.out.2 Tryz.underlying43 rfl (by kernel_rfl) ?_)
    refine HBY.out.mono ?_;rintro e w6 ⟨BA, bn, bc, rfl, hby6, hb6⟩;obtain ⟨_, hbn, hbnew, hbrd⟩ := hby6 HI.out.2.2.2.2.ok;rw [HI.out.2.2.2.2.ok];obtain ⟨w7, hw7⟩ : ∃ w7, w6.alloc (.cells #[.slice BA bn bc] 71) = w7 := ⟨_, rfl⟩
    have hy7 : Rd w7 (some ⟨w6.heap.size, 0, none⟩) 1 1 [.slice BA bn bc] := (by rw [← hw7]; exact Rd.one w6 _ _);have hb67 : Below w6.heap.size w6 w7 := (by rw [← hw7]; exact bel_alloc (Below.refl _ _) _);have hb37 : Below wr.heap.size wr w7 := (H5.out.1.trans (hb6.mono H5.out.1.size)).trans (hb67.mono (by have := H5.out.1.size; have := hb6.size; omega));have hrow7 : w7.ownsRow w2.heap.size 71 1 (.slice (some ⟨w2.heap.size, 0, none⟩) 1 1) 1 [.slice HA hn hc] := ownsRow_below H3.out.1 hb37;obtain ⟨V8, c8, w8, hrun, hrd8, hV8, hg8⟩ := append_part hrow7 hy7 rfl (by have := hb37.size; have := H3.out.2.2; omega);have HW7 := hid hw7;have HRUN := hid hrun;have h28 : w2.heap.size ≤ wr.heap.size := (by have := H3.out.2.2; omega);have h02 : w.heap.size ≤ w2.heap.size := by have := H0.out.1.size; have := H2.out.2.2.2.1.size; omega
    have hhd8 : Rd w8 HA hn hc (cs (hdr 2)) := by
     have h1 := H2.out.2.2.1.below (H3.out.2.1);refine rd_grown (h1.below hb37) hg8 fun ad e hlt e' => ?_;have hl : 0 < hn := (by rw [H2.out.1]; show (0 : Nat) < 15; omega);obtain ⟨ad', e2, hb', _⟩ := H2.out.2.2.1.spot hl;cases e.symm.trans e2;omega
    have hpr8 : Rd w8 BA bn bc (cs (lay 2 q.r)) := by
     refine rd_grown (hbrd.below hb67) hg8 fun ad e hlt e' => ?_;have h1 := hbnew ad e;have h2 := H5.out.1.size;have h3 := H3.out.2.2;omega
    have hbf : Below w.heap.size w w8 := (HRA.out.2.2.2.2.trans (hb37.mono (by omega))).grown hg8 (by have := hb37.size; omega) fun k e => (by injection e with e; omega);have H8 := hid (And.intro hrd8 (And.intro hV8 (And.intro hhd8 (And.intro hpr8 (And.intro hbf (And.intro hbnew h02))))));have H58 := hid (And.intro H5.out.1.size h28);clear hw7 hy7 hb67 hb37 hrow7 hrun hrd8 hV8 hg8 hhd8 hpr8 hbf hbnew hbrd hbn hby6 h28 h02 k0 k1 k2;go_upto_region 8 with fail
    go_wp2_with (at_builtin; rw [HW7.out]; refine wpList_append_w (.tmp 31) (.tmp 33) rfl rfl HRUN.out ?_)
    refine ⟨.inr ⟨rfl, V8, c8, ⟨BA, bn, bc, lay 2 q.r⟩, rfl, ⟨H8.out.1, fun p hp => ?_⟩, rfl, fun ad e => Nat.le_trans H8.out.2.2.2.2.2.2 (H8.out.2.1 ad e), fun ad e => ?_, H8.out.2.2.2.2.1⟩, by simp [intOf]⟩
    · simp only [List.mem_cons, List.not_mem_nil, or_false] at hp
      rcases hp with rfl | rfl
      · exact ⟨H8.out.2.2.1, hdr_lt (by omega)⟩
      · exact ⟨H8.out.2.2.2.1, lay_lt HI.out.2.2.2.2⟩
    · have h1 := H8.out.2.2.2.2.2.1 ad e
      have h2 := H58.out.1;have h3 := H58.out.2;have h4 := H8.out.2.2.2.2.2.2;omega
  · have hm : FMat V2 2 c2 [⟨HA, hn, hc, hdr 2⟩, pr] wr S := by
     have hlow := HH.out.low HI.out.1;refine ⟨⟨hmat.row, fun _ ad e hs => ?_⟩, fun p hp => ⟨⟨(hmat.part p hp).1, fun _ ad e hs => ?_⟩, (hmat.part p hp).2⟩⟩
     · have h1 := hV2 ad e
       have h2 := hlow _ hs;omega
     · simp only [List.mem_cons, List.not_mem_nil, or_false] at hp
       have h2 := hlow _ hs;rcases hp with rfl | rfl
       · have h1 := H2.out.2.1 ad e
         have h3 := H0.out.2.2;omega
       · have h1 := hpn ad e
         omega
    have hll := lay_len HI.out.2.2.2.2
    have hpl : pr.n ≤ 1048576 := by
     have h := (hmat.part pr (by simp)).1.len;rw [length_cs, hpb] at h;omega
    have hhl : hn ≤ 1048576 := by rw [H2.out.1]; show (15 : Nat) ≤ _; omega
    have hfl : (forms [hdr 2, lay 2 q.r]).length ≤ 1099511627776 := by
     have h0 : forms [hdr 2, lay 2 q.r] = form (hdr 2) ++ form (lay 2 q.r) := (by simp [forms]);have h1 := Num.size_le (hdr 2).length (by decide);have h2 := Num.size_le (lay 2 q.r).length (by omega);have h3 : (hdr 2).length = 15 := rfl;rw [h0, List.length_append, length_form, length_form];omega
    have hwr : Calls Tryz.prog 90 #[.pointer (some ⟨p, 0, none⟩), .string nlog, .slice V2 2 c2] wr (Does I p S (writes (forms (stored 2 [q.r])) d) wr) := by
     have h := write_any HH.out p S d V2 2 c2 [⟨HA, hn, hc, hdr 2⟩, pr] wr (have_bel HH.out HI.out.1 hbr) HI.out.2.2.2.1 (frame_tab.go HI.out.2.1 (Keeps.ofBelow hbr) (Dsk.Grew.refl S w)) hm (fun p hp => by simp only [List.mem_cons, List.not_mem_nil, or_false] at hp; rcases hp with rfl | rfl; exact hhl; exact hpl) (by simp only [List.map_cons, List.map_nil, hpb]; exact hfl);simp only [List.map_cons, List.map_nil, hpb] at h;exact h
    unfold nlog at hwr;have HWR := hid hwr;have HB := hid hbr;clear hmat hpb hV2 hpn hbr hm hll hpl hhl hfl hwr;go_wp2_with fail
    refine HWR.out.mono ?_;rintro e w9 hd;obtain ⟨rfl, hst⟩ := Does.on hd (Keeps.ofBelow (S := S) HB.out) (Dsk.Grew.refl S w);have HST := hid hst;clear hd hst;go_wp2_with fail
    go_ret;exact ⟨rfl, HST.out⟩
end Go.Proofs.YtkejjdoaljoooaaGreatDoor.Sc
/- Forward of a store of one record. -/
namespace Go.Proofs.YtkejjdoaljoooaaGreatDoor.Sc
open Lib (hid)
open Go.RowKit Mem Dsk Lg Rk
theorem held_one (x : Rc) : heldK Rc.id [x] = [x] := rfl
theorem sread_one {I : Held} {p : Nat} {S : Nat → Prop} {x : Rc} {d : Dk} {w w' : World} {e : Ending} (hg : Good 1 x) (h : ReadIs I p S 1 (stored 1 [x]) d w e w') :
 ∃ q V c, e = .returned (.tuple #[.slice V 1 c, .int .i64 0]) ∧ q.r = x ∧ ∃ S', I w' S' p d ∧ Dsk.Grew S S' w ∧ Keeps S w w' ∧ FRecs V 1 c [q] w' S' := by
 obtain ⟨V, n, c, qs, he, hqs, _, S6, hI, hgr, hk, hfr⟩ := h;have hrs := read_stored (v := 1) (rs := [x]) (.inl rfl) (fun y hy => by rw [List.mem_singleton.1 hy]; exact hg);rw [held_one] at hrs;have h1 : (readOf 1 (stored 1 [x])).1 = [x] := by rw [hrs]
 have h2 : (readOf 1 (stored 1 [x])).2 = 0 := by rw [hrs]
 rw [h1] at hqs;rw [h2] at he;have hl := hfr.row.len;cases qs with
 | nil => cases hqs
 | cons q t =>
   cases t with
   | cons q2 t2 => simp at hqs
   | nil =>
     have hn1 : n = 1 := hl.symm;subst hn1;have hq : q.r = x := (by simpa using hqs);exact ⟨q, V, c, he, hq, S6, hI, hgr, hk, hfr⟩
set_option maxRecDepth 20000 in
set_option maxHeartbeats 600000 in
theorem turn_1 {I : Held} (hH : Has2 I) (hV : HVersion I) (hR : HRead I) (hWr : HWrite I) (p : Nat) (S : Nat → Prop) (d d2 : Dk) (c r : List Nat) (x : Rc) (w : World) (hI : I w S p d) (ht : FTab w S) (hRb : Rdb d d2 c (stored 1 [x]) r) (hg1 : Good 1 x) (hg2 : Good 2 x) :
 Calls Tryz.prog 31 #[Dsk.ptr p, .int .i64 2] w (Does I p S (writes (forms (stored 2 [x])) d) w) := by
 have hve : Calls Tryz.prog 16 #[Dsk.ptr p] w (fun e w' => e = .returned (.tuple #[.int .i64 1, .int .i64 0]) ∧ Stays I p S d w w') := by
  have h := hV p S d d2 c (stored 1 [x]) r w hI ht hRb;rw [load_stored (.inl rfl)] at h;exact h
 have HVE := hid hve;have HI := hid (And.intro ht (And.intro hRb (And.intro hg1 hg2)));have HH := hid (And.intro hH (And.intro hR hWr));clear hve hI ht hRb hg1 hg2 hH hV hR hWr;unfold Dsk.ptr at *;go_enter Tryz.func31, Tryz.ntmps31
 go_wp2_with fail
 refine HVE.out.mono ?_;rintro e w1 ⟨rfl, S1, hI1, hgr1, hk1⟩;have hf1 := form_one w1;unfold formV formC at hf1;have HF1 := hid hf1;have H1 := hid (And.intro hI1 (And.intro hgr1 hk1));clear hI1 hgr1 hk1 hf1;go_wp2_with fail
 refine HF1.out.mono ?_;rintro e w2 ⟨rfl, hb2⟩;have hz := Blk.new w2 61 #[.int .i64 0, .nilFunc, .nilFunc];have HZ := hid (And.intro hz hb2);clear hz hb2;go_upto_region 5 with (with_reducible refine wpList_store_blk rfl 61 (.tmp 7) (.tmp 32) rfl w2.heap.size 61 #[.int .i64 0, .nilFunc, .nilFunc] #[.int .i64 1, .func (.func 32) #[] #[], .func (.func 33) #[] #[]] rfl rfl HZ.out.1 (by kernel_rfl) rfl (by kernel_rfl) ?_; intro w3 hblk3 hg3)
 have hb23 : Below w2.heap.size w2 w3 := (bel_alloc (Below.refl _ _) _).grown hg3 (by simp) fun k e => by injection e with e; omega
 have hb13 : Below w1.heap.size w1 w3 := HZ.out.2.trans (hb23.mono HZ.out.2.size);have hf2 := form_two w3;unfold formV formC at hf2;have HF2 := hid hf2;have H3 := hid (And.intro hblk3 (And.intro hb13 HZ.out.2.size));clear hblk3 hg3 hb23 hb13 hf2 HF1;go_wp2_with fail
 refine HF2.out.mono ?_;rintro e w4 ⟨rfl, hb4⟩;have hz := Blk.new w4 61 #[.int .i64 0, .nilFunc, .nilFunc];have HZ4 := hid (And.intro hz hb4);clear hz hb4;go_upto_region 6 with (with_reducible refine wpList_store_blk rfl 61 (.tmp 9) (.tmp 37) rfl w4.heap.size 61 #[.int .i64 0, .nilFunc, .nilFunc] #[.int .i64 2, .func (.func 34) #[] #[], .func (.func 35) #[] #[]] rfl rfl HZ4.out.1 (by kernel_rfl) rfl (by kernel_rfl) ?_; intro w5 hblk5 hg5)
 have hb45 : Below w4.heap.size w4 w5 := (bel_alloc (Below.refl _ _) _).grown hg5 (by simp) fun k e => by injection e with e; omega
 have hb35 : Below w3.heap.size w3 w5 := HZ4.out.2.trans (hb45.mono HZ4.out.2.size);have hb15 : Below w1.heap.size w1 w5 := H3.out.2.1.trans (hb35.mono H3.out.2.1.size);have hblk35 : Blk w5 w2.heap.size 61 #[.int .i64 1, .func (.func 32) #[] #[], .func (.func 33) #[] #[]] := H3.out.1.bel hb35;have hI5 := have_bel HH.out.1 H1.out.1 hb15;have hlow := HH.out.1.low H1.out.1;have hn2 : ¬ S1 w2.heap.size := fun hs => by have h1 := hlow _ hs; have h2 := H3.out.2.2; omega
 have hn4 : ¬ S1 w4.heap.size := fun hs => by have h1 := hlow _ hs; have h2 := H3.out.2.1.size; have h3 := HZ4.out.2.size; omega
 have ht5 := frame_tab.go (frame_tab.go HI.out.1 H1.out.2.2 H1.out.2.1) (Keeps.ofBelow hb15) (Dsk.Grew.refl S1 w1);have hrd : Calls Tryz.prog 19 #[.agg #[.int .i64 1, .func (.func 32) #[] #[], .func (.func 33) #[] #[]], .pointer (some ⟨p, 0, none⟩)] w5 (fun e w' => ∃ q V c, e = .returned (.tuple #[.slice V 1 c, .int .i64 0]) ∧ q.r = x ∧ ∃ S', I w' S' p d ∧ Dsk.Grew S1 S' w5 ∧ Keeps S1 w5 w' ∧ FRecs V 1 c [q] w' S') := (HH.out.2.1 1 (.inl rfl) p S1 d d2 c (stored 1 [x]) r w5 hI5 ht5 HI.out.2.1).mono fun e w' h => sread_one HI.out.2.2.1 h;have HRD := hid hrd;have k0 := hblk35.cell 0;have k1 := hblk35.cell 1;have k2 := hblk35.cell 2;simp only [List.getElem?_toArray, List.getElem?_cons_succ, List.getElem?_cons_zero] at k0 k1 k2;have H5 := hid (And.intro hblk5 (And.intro hb15 (And.intro hn4 ht5)));clear hblk5 hg5 hb45 hb35 hb15 hblk35 hI5 hlow hn2 hn4 ht5 hrd;go_wp2_with fail
 refine HRD.out.mono ?_;rintro e w6 ⟨q, V, vc, rfl, hqs, S6, hI6, hg6, hk6, hfr6⟩;have hblk6 : Blk w6 w4.heap.size 61 #[.int .i64 2, .func (.func 34) #[] #[], .func (.func 35) #[] #[]] := (hk6.block w4.heap.size H5.out.1.lt H5.out.2.2.1).trans H5.out.1;have m0 := hblk6.cell 0;have m1 := hblk6.cell 1;have m2 := hblk6.cell 2;simp only [List.getElem?_toArray, List.getElem?_cons_succ, List.getElem?_cons_zero] at m0 m1 m2;have hwr : Calls Tryz.prog 52 #[.agg #[.int .i64 2, .func (.func 34) #[] #[], .func (.func 35) #[] #[]], .pointer (some ⟨p, 0, none⟩), .slice V 1 vc] w6 (Does I p S6 (writes (forms (stored 2 [q.r])) d) w6) := HH.out.2.2 p S6 V vc q d w6 hI6 (frame_tab.go H5.out.2.2.2 hk6 hg6) hfr6 HI.out.2.1.fine (by rw [hqs]; exact HI.out.2.2.2);rw [hqs] at hwr;have HWR := hid hwr;have hgS : Dsk.Grew S S6 w := (H1.out.2.1.trans ((Dsk.Grew.refl S1 w1).trans hg6 H5.out.2.1.size) H1.out.2.2.size)
 have hkS : Keeps S w w6 := H1.out.2.2.trans ((Keeps.ofBelow (S := S1) H5.out.2.1).trans hk6 (Dsk.Grew.refl S1 w1)) H1.out.2.1;have H6 := hid (And.intro hgS hkS);have hvl := hfr6.row.le;have hvm := hfr6.row.cap;clear hqs hI6 hg6 hk6 hfr6 hblk6 hwr hgS hkS k0 k1 k2;go_wp2_with fail
 refine HWR.out.mono ?_;rintro e w7 hd;obtain ⟨rfl, hst⟩ := Does.on hd H6.out.2 H6.out.1;have HST := hid hst;clear hd hst;go_wp2_with fail
 go_ret;exact ⟨rfl, HST.out⟩
set_option maxHeartbeats 1000000 in
theorem forward_any {I : Held} (hH : Has2 I) (hV : HVersion I) (hR : HRead I) (hWr : HWrite I) : HForward I := by
 intro p S d d2 c r x w hI ht hRb hg1 hg2;have htu := turn_1 hH hV hR hWr p S d d2 c r x w hI ht hRb hg1 hg2;have HTU := hid htu;clear htu hI ht hRb hg1 hg2 hH hV hR hWr;unfold Dsk.ptr at *;go_enter Tryz.func17, Tryz.ntmps17
 go_wp2_with fail
 refine HTU.out.mono ?_;rintro e w1 ⟨rfl, hst⟩;have HST := hid hst;clear hst;go_wp2_with fail
 go_ret;exact ⟨rfl, HST.out⟩
end Go.Proofs.YtkejjdoaljoooaaGreatDoor.Sc
