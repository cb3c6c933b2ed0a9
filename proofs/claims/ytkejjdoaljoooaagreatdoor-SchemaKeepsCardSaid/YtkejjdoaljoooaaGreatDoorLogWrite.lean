/-
  Texts of earlier layers, as one.
-/
import Derived.Test.YtkejjdoaljoooaaGreatDoorLogScan
import Derived.Test.YtkejjdoaljoooaaGreatDoorLogDk
/- The program's Write, over whatever is a disk. -/
namespace Go.Proofs.YtkejjdoaljoooaaGreatDoor.Lg
open Lib (hid)
open Go.RowKit Mem Dsk
theorem add_fix : nlog ++ (⟨#[46, 102, 105, 120]⟩ : ByteArray) = nfix := by kernel_rfl
theorem bne0 {x : Nat} : (((x : Int) != 0) = true ↔ x ≠ 0) ∧ (((x : Int) != 0) = false ↔ x = 0) := by
 refine ⟨by rw [bne_iff_ne]; omega, ?_⟩;rw [bne_eq_false_iff_eq];omega
theorem Stays.and {I : Held} {S : Nat → Prop} {p : Nat} {d2 : Dk} {w w1 w2 : World} {S1 : Nat → Prop} (hk : Keeps S w w1) (hg : Grew S S1 w) (h : Stays I p S1 d2 w1 w2) : Stays I p S d2 w w2 := by
 obtain ⟨S', h2, h3, h4⟩ := h;exact ⟨S', h2, hg.trans h3 hk.size, hk.trans h4 hg⟩
set_option maxRecDepth 20000 in
set_option maxHeartbeats 4000000 in
theorem replace_any {I : Held} (hH : Has2 I) (p : Nat) (S : Nat → Prop) (d : Dk) (BA : Option Addr) (bn bc : Nat) (bs : List Nat) (w : World) (hI : I w S p d) (hf : Fine d) (hr : FRd BA bn bc (cs bs) w S) (hn : bn ≤ 1099511627776) :
 Calls Tryz.prog 136 #[Dsk.ptr p, .string nlog, .slice BA bn bc] w (Does I p S (writes bs d) w) := by
 obtain ⟨x1, d1, hr1⟩ : ∃ x1 d1, whole (doRemove nfix) d = (x1, d1) := ⟨_, _, rfl⟩
 obtain ⟨x2, d2, hr2⟩ : ∃ x2 d2, whole (doAppend nfix bs) d1 = (x2, d2) := ⟨_, _, rfl⟩
 obtain ⟨x3, d3, hr3⟩ : ∃ x3 d3, whole (doSync nfix) d2 = (x3, d3) := ⟨_, _, rfl⟩
 obtain ⟨x4, d4, hr4⟩ : ∃ x4 d4, whole (doMove nfix nlog) d3 = (x4, d4) := ⟨_, _, rfl⟩
 have hw : writes bs d = if fg x1 ≠ 0 then (fg x1, d1) else if x2 ≠ 0 then (x2, d2) else if x3 ≠ 0 then (x3, d3) else (x4, d4) := by
  unfold writes;simp only [hr1, hr2, hr3, hr4]
 have f1 : Fine d1 := by have h := fine_whole hf (fun d h => fine_remove nfix h); rwa [hr1] at h
 have f2 : Fine d2 := by have h := fine_whole f1 (fun d h => fine_append nfix bs h); rwa [hr2] at h
 have f3 : Fine d3 := by have h := fine_whole f2 (fun d h => fine_sync nfix h); rwa [hr3] at h
 have h1 := hH.remove p S d nfix w hI hf (by decide);have g2 := fun w S hI hr ho => hH.append p S d1 nfix BA bn bc bs w hI f1 hr ho (by decide) hn;have g3 := fun w S hI => hH.sync p S d2 nfix w hI f2 (by decide);have g4 := fun w S hI => hH.move p S d3 nfix nlog w hI f3 (by decide) (by decide);rw [hr1] at h1;simp only [hr2] at g2;simp only [hr3] at g3;simp only [hr4] at g4;have hadd := add_fix;obtain ⟨R, hRR⟩ : ∃ R, writes bs d = R := ⟨_, rfl⟩
 rw [hRR] at hw;have r1 : fg x1 ≠ 0 → R = (fg x1, d1) := fun h => by rw [hw, if_pos h]
 have r2 : fg x1 = 0 → x2 ≠ 0 → R = (x2, d2) := fun h h2 => by rw [hw, if_neg (by simp [h]), if_pos h2]
 have r3 : fg x1 = 0 → x2 = 0 → x3 ≠ 0 → R = (x3, d3) := fun h h2 h3 => by rw [hw, if_neg (by simp [h]), if_neg (by simp [h2]), if_pos h3]
 have r4 : fg x1 = 0 → x2 = 0 → x3 = 0 → R = (x4, d4) := fun h h2 h3 => by rw [hw, if_neg (by simp [h]), if_neg (by simp [h2]), if_neg (by simp [h3])]
 have HR := hid hr;have H1 := hid h1;have G2 := hid g2;have G3 := hid g3;have G4 := hid g4;rw [hRR];clear hw hRR hr h1 g2 g3 g4 hr1 hr2 hr3 hr4 f1 f2 f3 hf hI;unfold Dsk.ptr at *;go_enter Tryz.func136, Tryz.ntmps136
 go_wp2_with fail
 refine H1.out.mono ?_;rintro e w1 ⟨rfl, S1, hI1, hg1, hk1⟩;have hfo := forgiven_any x1 w1;have HFO := hid hfo;have HR1 := hid ((frame_rd _ _ _ _).go HR.out hk1 hg1);have HK1 := hid (And.intro hI1 (And.intro hg1 hk1));clear hI1 hg1 hk1 hfo;go_wp2_with fail
 refine HFO.out.mono ?_;rintro e w2 ⟨rfl, rfl⟩;obtain ⟨y1, hy1⟩ : ∃ y1, fg x1 = y1 := ⟨_, rfl⟩
 rw [hy1] at r1 r2 r3 r4 ⊢;have R1 := hid r1;have R2 := hid r2;have R3 := hid r3;have R4 := hid r4;clear hy1 r1 r2 r3 r4;by_cases c1 : y1 = 0
 · have b1 := (bne0 (x := y1)).2.2 c1
   have C1 := hid c1;clear c1;go_wp2_with fail
   refine (G2.out w2 S1 HK1.out.1 HR1.out.1 HR1.out.2).mono ?_;rintro e w3 ⟨rfl, S2, hI2, hg2, hk2⟩;have HK2 := hid (And.intro hI2 (And.intro (HK1.out.2.1.trans hg2 HK1.out.2.2.size) (HK1.out.2.2.trans hk2 HK1.out.2.1)));clear hI2 hg2 hk2;by_cases c2 : x2 = 0
   · have b2 := (bne0 (x := x2)).2.2 c2
     have C2 := hid c2;clear c2;go_wp2_with fail
     refine (G3.out w3 S2 HK2.out.1).mono ?_;rintro e w4 ⟨rfl, S3, hI3, hg3, hk3⟩;have HK3 := hid (And.intro hI3 (And.intro (HK2.out.2.1.trans hg3 HK2.out.2.2.size) (HK2.out.2.2.trans hk3 HK2.out.2.1)));clear hI3 hg3 hk3;by_cases c3 : x3 = 0
     · have b3 := (bne0 (x := x3)).2.2 c3
       have C3 := hid c3;clear c3;go_wp2_with fail
       refine (G4.out w4 S3 HK3.out.1).mono ?_;rintro e w5 ⟨rfl, hst⟩;have HST := hid (Stays.and HK3.out.2.2 HK3.out.2.1 hst);clear hst;go_wp2_with fail
       go_ret;rw [R4.out C1.out C2.out C3.out];exact ⟨rfl, HST.out⟩
     · have b3 := (bne0 (x := x3)).1.2 c3
       have C3 := hid c3;clear c3;go_wp2_with fail
       go_ret;rw [R3.out C1.out C2.out C3.out];exact ⟨rfl, S3, HK3.out⟩
   · have b2 := (bne0 (x := x2)).1.2 c2
     have C2 := hid c2;clear c2;go_wp2_with fail
     go_ret;rw [R2.out C1.out C2.out];exact ⟨rfl, S2, HK2.out⟩
 · have b1 := (bne0 (x := y1)).1.2 c1
   have C1 := hid c1;clear c1;go_wp2_with fail
   go_ret;rw [R1.out C1.out];exact ⟨rfl, S1, HK1.out⟩
def WriteRel (w : World) (n : Nat) (l : List (List Nat)) (i s : Value) (wr : World) : Prop :=
 ∃ k : Nat, k ≤ n ∧ i = .int .i64 (k : Int) ∧ ∃ V vc, s = .slice V (forms (l.take k)).length vc ∧ wr.ownsRow w.heap.size 5 1 (.slice V (forms (l.take k)).length vc) (forms (l.take k)).length (cs (forms (l.take k))) ∧ Below w.heap.size w wr
theorem forms_take_le (l : List (List Nat)) (k : Nat) : (forms (l.take k)).length ≤ (forms l).length := by
 have h := congrArg List.length (show forms (l.take k) ++ forms (l.drop k) = forms l by rw [← forms_append, List.take_append_drop]);rw [List.length_append] at h;omega
set_option maxRecDepth 20000 in
set_option maxHeartbeats 4000000 in
theorem write_any {I : Held} (hH : Has2 I) (p : Nat) (S : Nat → Prop) (d : Dk) (A : Option Addr) (n c : Nat) (ps : List Cr.Part) (w : World) (hI : I w S p d) (hf : Fine d) (ht : FTab w S) (hm : FMat A n c ps w S) (hp : ∀ p ∈ ps, p.n ≤ 1048576) (hl : (forms (ps.map (·.bs))).length ≤ 1099511627776) :
 Calls Tryz.prog 90 #[Dsk.ptr p, .string nlog, .slice A n c] w (Does I p S (writes (forms (ps.map (·.bs))) d) w) := by
 obtain ⟨i0, hi, hz0, hz1, hz2⟩ := info_parts Cp.info5;have hmm := hm.mat;have lx := hmm.row.len;rw [List.length_map] at lx;have bx := hmm.row.le;have cx := hmm.row.cap;unfold maxLen at cx;have LX := hid lx;have HM := hid hmm;have HL := hid hl;have HP := hid hp;have HT := hid ht;have HI := hid (And.intro hI hf);have HH := hid hH;clear lx hmm hm hl hp ht hI hf;unfold Dsk.ptr;go_enter Tryz.func90, Tryz.ntmps90
 go_wp2_with fail
 go_loopw [16, 7] (WriteRel w n (ps.map (·.bs))) (fun i _ _ => n - (intOf i).toNat)
 case atStart => exact ⟨0, Nat.zero_le _, rfl, none, 0, rfl, World.ownsRow_nil _ _ _ _, Below.refl _ _⟩
 case round =>
  obtain ⟨k, hk, rfl, V, vc, rfl, hown, hbel⟩ := hrel;by_cases hlt : k < n
  · obtain ⟨ad, u, rfl, had, hx, hc⟩ := HM.out.row.at_ hlt
    rw [List.getElem?_map, Option.map_eq_some_iff] at hx;obtain ⟨q, hq, rfl⟩ := hx;have hqp := HM.out.part q (List.mem_of_getElem? hq);have hc2 := (hbel.cell (p := ad.add k) (by rw [add_block]; exact had)).trans hc;have hfm := lform_any q.A q.n q.c q.bs wr (HT.out.1.below hbel) (hqp.1.below hbel) hqp.2 (HP.out q (List.mem_of_getElem? hq))
    have hn : forms ((ps.map (·.bs)).take (k + 1)) = forms ((ps.map (·.bs)).take k) ++ form q.bs := by
     rw [List.take_add_one, List.getElem?_map, hq, forms_append];simp [forms]
    have hle := forms_take_le (ps.map (·.bs)) (k + 1);rw [hn, List.length_append] at hle;have hb1 : (forms ((ps.map (·.bs)).take k)).length + (form q.bs).length ≤ 1099511627776 := Nat.le_trans hle HL.out;unfold Cr.pv at hc2;have HN := hid hn;have HF := hid hfm;clear hn hle hc hqp hfm hq;generalize forms ((ps.map (·.bs)).take k) = B at hb1 HN hown ⊢;obtain ⟨b, hB⟩ : ∃ b, B.length = b := ⟨_, rfl⟩
    rw [hB] at hown hb1 ⊢;have HBL := hid hB;have HO := hid hown;have HB := hid hbel;clear hown hbel hB;go_wp2_with fail
    refine HF.out.mono ?_;rintro e w2 ⟨F, fc, rfl, hof, hb2⟩;have HO2 := hid (ownsRow_below HO.out hb2);have HB2 := hid (HB.out.trans (hb2.mono HB.out.size));have HRF := hid (Rd.own hof);clear hof hb2;obtain ⟨fl, hfl⟩ : ∃ fl, (form q.bs).length = fl := ⟨_, rfl⟩
    rw [hfl] at hb1 HRF ⊢;have HFL := hid hfl;clear hfl;go_wp2_with (at_builtin; refine wpList_append_rd rfl (.tmp 28) (.tmp 29) 71 rfl w.heap.size 5 i0 _ 1 Tryz.underlying71 hi hz0 hz1 hz2 rfl V b vc (cs B) rfl HO2.out F fl fc (cs (form q.bs)) rfl HRF.out (cs_one _) (by unfold maxLen; omega) (by omega) HB2.out.size ?_; intro V4 c4 w4 hown4 hb4)
    refine ⟨⟨k + 1, by omega, by simp, V4, c4, ?_, ?_, HB2.out.trans hb4⟩, by simp [intOf]; omega⟩
    · rw [HN.out, List.length_append, HBL.out, HFL.out]
    · rw [HN.out, List.length_append, HBL.out, HFL.out, cs_append]
      exact hown4
  · obtain rfl : k = n := by omega
    have et : (ps.map (·.bs)).take k = ps.map (·.bs) := List.take_of_length_le (by rw [List.length_map]; have := LX.out; omega);rw [et] at hown ⊢
    have hou : FRd V (forms (ps.map (·.bs))).length vc (cs (forms (ps.map (·.bs)))) wr S := ⟨Rd.own hown, fun h0 ad e hs => by
     have h1 := (hown.lt ad.block (by rw [e]; rfl)).1;have h2 := HH.out.low HI.out.1 _ hs;omega⟩
    have hrp := replace_any HH.out p S d V (forms (ps.map (·.bs))).length vc (forms (ps.map (·.bs))) wr (have_bel HH.out HI.out.1 hbel) HI.out.2 hou HL.out;unfold Dsk.ptr at hrp;have HRP := hid hrp;have HB := hid hbel;clear hrp hou hown hbel et;go_wp2_with fail
    refine HRP.out.mono ?_;rintro e w2 hd;obtain ⟨rfl, hst⟩ := Does.on hd (Keeps.ofBelow (S := S) HB.out) (Grew.refl S w);have HST := hid hst;clear hst hd;go_wp2_with fail
    go_ret;exact ⟨rfl, HST.out⟩
end Go.Proofs.YtkejjdoaljoooaaGreatDoor.Lg
