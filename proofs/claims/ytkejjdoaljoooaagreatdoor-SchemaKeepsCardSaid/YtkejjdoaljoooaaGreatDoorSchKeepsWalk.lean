/-
  Texts of earlier layers, as one.
-/
import Derived.Test.YtkejjdoaljoooaaGreatDoorSchWith
/- SchemaKeeps's walk: what was put is there again, whatever the power does. -/
namespace Go.Proofs.YtkejjdoaljoooaaGreatDoor.Sc
open Lib (hid)
open Go.RowKit Mem Dsk Lg Rk
def KpRel (I : Held) (w0 : World) (p s v g n : Nat) (i r m : Value) (wr : World) : Prop :=
 ∃ k puts oq T kk dn og V1 n1 c1 rs V2 n2 c2 ms, k ≤ n ∧ i = .int .i64 (k : Int) ∧ r = .slice V1 n1 c1 ∧ m = .slice V2 n2 c2 ∧ Kst I w0 p s v og (sd 1048576 true (forms (stored v puts)) T kk dn) V1 n1 c1 rs V2 n2 c2 ms wr ∧ Kpl v puts oq T kk dn og g rs ms k
set_option maxRecDepth 20000 in
set_option maxHeartbeats 8000000 in
theorem keeps_1 {I : Held} (hH : Has2 I) (hS : HasSch I) (hDn : HDown I) (A : Option Addr) (n c : Nat) (qs : List Pt) (z : Nat) (kp : Int) (w : World) (ht : Cr.Tab w) (hr : Recs w A n c qs) (hz : z ≤ 255) :
 Calls Tryz.prog 3 #[.bool true, .slice A n c, .int .u8 (z : Int), .int .i64 kp] w (Tells true w) := by
 have hgr := great_any A n c qs w hr;have HGR := hid hgr;have HH := hid (And.intro hH (And.intro hS hDn));have HT := hid ht;have HR := hid hr;have l1 := hr.le;have l2 := hr.cap;unfold maxLen at l2;clear hgr hH hS hDn ht hr;go_enter Tryz.func3, Tryz.ntmps3
 go_wp2_with fail
 refine HGR.out.mono ?_;rintro e w1 ⟨tt, rfl, hn, rfl⟩;cases tt with
 | true =>
   have haw := sawake_any HH.out.1 HH.out.2.1 w1 HT.out;have HAW := hid haw;clear haw hn;go_wp2_with fail
   refine HAW.out.mono ?_;rintro e w2 ⟨rfl, hb2⟩;have HB := hid hb2;clear hb2;go_wp2_with fail
   go_ret;exact ⟨rfl, HB.out⟩
 | false =>
   have hn12 := hn rfl;have hnw := HH.out.1.new 1048576 w1;have HNW := hid hnw;clear hn hnw HGR;go_wp2_with fail
   refine HNW.out.mono ?_;rintro e w2 ⟨p, S1, rfl, hI1, hn1, hb1⟩;have hfa1 : FA w1 w2 S1 := ⟨⟨hn1, hb1⟩, ftab_new HT.out hb1 hn1⟩
   have hop : Calls Tryz.prog 8 #[Dsk.ptr p, .int .i64 1] w2 (OpenS I p S1 1 [] (0, sd 1048576 true (forms (stored 1 [])) [] (-1) false) w2) := by
    have h := HH.out.2.1.open_ 1 (.inl rfl) p S1 (newDk 1048576) (newDk 1048576) [] [] [] w2 hI1 hfa1.2 (rdb_none (r := 1048576) (by omega) (by omega));rw [read_none, show newDk 1048576 = sd 1048576 false [] [] (-1) false from rfl, open_new, if_neg (by have := hdr_form 1; omega)] at h;exact h
   have HOP := hid hop;have H1 := hid hfa1;clear hop hfa1 hI1 hn1 hb1 HNW;unfold Dsk.ptr at *;go_wp2_with fail
   refine HOP.out.mono ?_;rintro e w3 hos;rcases hos with ⟨_, s, g, V, n0, c0, q0, rfl, hq0, S2, hI2, hg2, hk2, hst2, hfr2⟩ | ⟨h0, _⟩
   case inr => exact absurd rfl h0
   have hfa2 := (frame_a w1).go H1.out hk2 hg2;have hfl0 : (((forms (stored 1 [])).length + ([] : List Nat).length : Nat) : Int) ≤ 1048576 := (by have := hdr_form 1; simp only [stored, List.map_nil, forms_one, List.length_nil]; omega);obtain ⟨R, hR⟩ : ∃ R : Nat, ((z : Int) % 30) = (R : Int) := ⟨z % 30, by omega⟩
   have hR30 : (R : Int) ≤ 30 := (by omega);have hwz : IntKind.i64.wrap (z : Int) = (z : Int) := IntWalk.i64_in _ (by omega)
   have hfu : Calls Tryz.prog 9 #[.pointer (some ⟨p, 0, none⟩), .int .i64 (R : Int)] w3 (fun e w' => e = .returned (.tuple #[]) ∧ Stays I p S2 (sd 1048576 true (forms (stored 1 [])) [] (R : Int) false) w3 w') := by
    have h := HH.out.1.fuse p S2 (sd 1048576 true (forms (stored 1 [])) [] (-1) false) (R : Int) w3 hI2 (fine_sd (fun h => by cases h) (by omega) (by omega) hfl0 (by decide));rw [show ({ sd 1048576 true (forms (stored 1 [])) [] (-1) false with fuse := max (R : Int) (-1) } : Dk) = sd 1048576 true (forms (stored 1 [])) [] (R : Int) false from by unfold sd; simp only; rw [show max (R : Int) (-1) = (R : Int) by omega]] at h;exact h
   have HFU := hid hfu;have H2 := hid (And.intro hst2 (And.intro hfa2 hfl0));have cl2 := hfr2.row.cap;clear hq0 hI2 hg2 hk2 hst2 hfr2 hfa2 hfl0 hfu HOP;go_wp2_with (rw [hR])
   refine HFU.out.mono ?_;rintro e w4 ⟨rfl, S3, hI3, hg3, hk3⟩;have hkst : Kst I w1 p s 1 (some g) (sd 1048576 true (forms (stored 1 [])) [] (R : Int) false) none 0 0 [] none 0 0 [] w4 := Kst.go hI3 H2.out.1 H2.out.2.1 (Recs.nil_frame w3 _) (Recs.nil_frame w3 _) hg3 hk3;have hkpl : Kpl 1 [] none [] (R : Int) false (some g) g [] [] 0 := ⟨fun _ h => (by cases h), rfl, Nat.le_refl _, .inl rfl, fun _ h => (by cases h), fun _ => ⟨rfl, rfl⟩, ⟨by omega, hR30⟩, H2.out.2.2⟩
   have HK0 := hid (And.intro hkst hkpl);clear hI3 hg3 hk3 hkst hkpl HFU hR hwz;go_wp2_with fail
   go_loopw [16, 14, 15] (KpRel I w1 p s 1 g n) (fun i _ _ _ => n - (intOf i).toNat)
   case atStart => exact ⟨0, [], none, [], _, _, _, none, 0, 0, [], none, 0, 0, [], Nat.zero_le _, rfl, rfl, rfl, HK0.out⟩
   case round =>
    obtain ⟨k, puts, oq, T, kk, dn, og, V1, n1, c1, rs, V2, n2, c2, ms, hk, rfl, rfl, rfl, hkst, hkpl⟩ := hrel;have HKE := hid (And.intro hkst hkpl);clear hkst hkpl HK0;by_cases hlt : k < n
    · obtain ⟨S4, hI4, hst4, hfa4, hr4, hm4⟩ := HKE.out.1
      have hdn : Calls Tryz.prog 10 #[.pointer (some ⟨p, 0, none⟩)] wr (fun e w' => e = .returned (.bool dn) ∧ Stays I p S4 (sd 1048576 true (forms (stored 1 puts)) T kk dn) wr w') := HH.out.2.2 p S4 _ wr hI4;have HDN := hid hdn;have H4 := hid (And.intro hst4 (And.intro hfa4 (And.intro hr4 hm4)));clear hdn hI4 hst4 hfa4 hr4 hm4;cases dn with
      | true =>
        go_wp2_with fail
        refine HDN.out.mono ?_;rintro e w5 ⟨rfl, S5, hI5, hg5, hk5⟩;have hks5 := Kst.go hI5 H4.out.1 H4.out.2.1 H4.out.2.2.1 H4.out.2.2.2 hg5 hk5;replace HKE := hid (And.intro hks5 HKE.out.2);clear hI5 hg5 hk5 hks5 HDN H4
        as_aux_lemma =>
        have hkst := HKE.out.1;have hkpl := HKE.out.2;obtain ⟨S8, hI8, hst8, hfa8, hr8, hm8⟩ := hkst;obtain ⟨d1, d2, c8, l8, rr8, ps8, hbt, hrb, hre, hor, hwh⟩ := kpl_boot (.inl rfl) hkpl kp;have hnS8 : ¬ S8 w5.heap.size := fun hs => Nat.lt_irrefl _ (HH.out.1.low hI8 _ hs);have hba := bel_alloc (Below.refl w5.heap.size w5) (.cells #[.int .i64 kp] 3)
        have hbo : Calls Tryz.prog 13 #[Dsk.ptr p, .slice (some ⟨w5.heap.size, 0, none⟩) 1 1] (w5.alloc (.cells #[.int .i64 kp] 3)) (fun e w' => e = .returned (.tuple #[]) ∧ Stays I p S8 d1 (w5.alloc (.cells #[.int .i64 kp] 3)) w') := by
         have h := HH.out.1.boot p S8 _ (some ⟨w5.heap.size, 0, none⟩) 1 1 [kp] _ (have_bel HH.out.1 hI8 hba) hkpl.fine (Rd.lit w5 (vs [kp]) 3 1 rfl (by unfold maxLen; decide)) (outs_lit hnS8);rw [hbt] at h;exact h
        have hfa8 := (frame_a w1).go hfa8 (Keeps.ofBelow hba) (Dsk.Grew.refl _ w5);have hr8 := (frame_recs _ _ _ _).go hr8 (Keeps.ofBelow hba) (Dsk.Grew.refl _ w5);have hm8 := (frame_recs _ _ _ _).go hm8 (Keeps.ofBelow hba) (Dsk.Grew.refl _ w5);have HBO := hid hbo;have H8 := hid (And.intro hfa8 (And.intro hr8 hm8));have HRB := hid (And.intro hrb (And.intro hre (And.intro hor hwh)));clear hI8 hst8 hnS8 hba hbo hfa8 hr8 hm8 hbt hrb hre hor hwh hkpl;unfold Dsk.ptr at HBO;go_wp2_with fail
        refine HBO.out.mono ?_;rintro e w9 ⟨rfl, S9, hI9, hg9, hk9⟩;have hfa9 := (frame_a w1).go H8.out.1 (plus_keeps hk9) (plus_grew hg9);have hr9 := (frame_recs _ _ _ _).go H8.out.2.1 (plus_keeps hk9) (plus_grew hg9);have hm9 := (frame_recs _ _ _ _).go H8.out.2.2 (plus_keeps hk9) (plus_grew hg9)
        have hop : Calls Tryz.prog 8 #[.pointer (some ⟨p, 0, none⟩), .int .i64 1] w9 (OpenS I p S9 1 (heldK Rc.id ps8) (0, d2) w9) := by
         have h := HH.out.2.1.open_ 1 (.inl rfl) p S9 _ _ _ _ _ w9 hI9 (ftab_sub hfa9.2) HRB.out.1;rw [HRB.out.2.1, HRB.out.2.2.1] at h;exact h
        have HOP := hid hop;have H9 := hid (And.intro (fa_sub hfa9) (And.intro hr9 hm9));clear hI9 hg9 hk9 hfa9 hop HBO H8 hr9 hm9;go_wp2_with fail
        refine HOP.out.mono ?_;rintro e wa hos;rcases hos with ⟨_, sa, ga, Va, na, ca, qa, rfl, hqa, Sa, hIa, hga, hka, hsta, hfra⟩ | ⟨h0, _⟩
        case inr => exact absurd rfl h0
        have hfaa := (frame_a w1).go H9.out.1 hka hga;have subl : ∀ {A : Option Addr} {n c : Nat} {qs : List Pt}, FRecs A n c qs w9 (Plus S9 s) → Recs wa A n c qs := fun h => ((frame_recs _ _ _ _).go ⟨h.row, fun h0 g o e hs => h.out h0 g o e (.inl hs), fun q hq => ⟨(h.dep q hq).1, fun h0 g o e hs => (h.dep q hq).2 h0 g o e (.inl hs)⟩⟩ hka hga).row;have hra := subl H9.out.2.1;have hma := subl H9.out.2.2;have hs1 := samerecs_any _ _ _ qa _ _ _ _ wa hfra.row hra;have HSA := hid hs1;have la := hfra.row.le;have lb := hfra.row.cap;have lc := hra.le;have ld := hra.cap;have le' := hma.le;have lf := hma.cap;have HA := hid (And.intro hfaa.1.2 (And.intro hfaa.2.1 (And.intro hqa (And.intro hfra.row hma))));clear hqa hIa hga hka hsta hfra hfaa subl hra hma hs1 HOP H9;go_upto_region 24 with fail
        go_wp2_with fail
        refine HSA.out.mono ?_;rintro e wb ⟨t1, rfl, ht1, hbb⟩;have HT1 := hid (And.intro ht1 hbb);clear ht1 hbb;cases t1 with
        | true =>
          have haw := sawake_any HH.out.1 HH.out.2.1 wb (HA.out.2.1.below HT1.out.2);have HAW := hid haw;clear haw;go_wp2_with fail
          refine HAW.out.mono ?_;rintro e wc ⟨rfl, hbc⟩;have HB := hid ((HA.out.1.trans (HT1.out.2.mono HA.out.1.size)).trans (hbc.mono (Nat.le_trans HA.out.1.size HT1.out.2.size)));clear hbc;go_wp2_with fail
          go_ret;exact ⟨rfl, HB.out⟩
        | false =>
          have hs2 := samerecs_any _ _ _ qa _ _ _ _ wb (HA.out.2.2.2.1.below HT1.out.2) (HA.out.2.2.2.2.below HT1.out.2);have HSB := hid hs2;clear hs2;go_wp2_with fail
          refine HSB.out.mono ?_;rintro e wc ⟨t2, rfl, ht2, hbc⟩
          have h2 : t2 = true := by
           rcases HRB.out.2.2.2 with h | h
           · have := HT1.out.1 (HA.out.2.2.1.trans h)
             cases this
           · exact ht2 (HA.out.2.2.1.trans h)
          subst h2;have haw := sawake_any HH.out.1 HH.out.2.1 wc ((HA.out.2.1.below HT1.out.2).below hbc);have HAW := hid haw;have HTC := hid hbc;clear haw ht2 hbc;go_wp2_with fail
          refine HAW.out.mono ?_;rintro e wd ⟨rfl, hbd⟩;have HB := hid (((HA.out.1.trans (HT1.out.2.mono HA.out.1.size)).trans (HTC.out.mono (Nat.le_trans HA.out.1.size HT1.out.2.size))).trans (hbd.mono (Nat.le_trans (Nat.le_trans HA.out.1.size HT1.out.2.size) HTC.out.size)));clear hbd;go_wp2_with fail
          go_ret;exact ⟨rfl, HB.out⟩
      | false =>
        have hup := HKE.out.2.up rfl;obtain ⟨rfl, rfl⟩ := hup;go_wp2_with (first | fail)
        refine HDN.out.mono ?_;rintro e w5 ⟨rfl, S5, hI5, hg5, hk5⟩;obtain ⟨ga, oa, q, rfl, hgl, hq, hra, hdep⟩ := HR.out.at_ hlt;have hfa5 := (frame_a w1).go H4.out.2.1 (plus_keeps hk5) (plus_grew hg5);have hst5 := (frame_st s 1 p (some g)).go H4.out.1 hk5 hg5;have hr5 := (frame_recs V1 n1 c1 rs).go H4.out.2.2.1 (plus_keeps hk5) (plus_grew hg5);have hb5 := hfa5.1.2;have hra5 : w5.rangeAt ga (oa + k * 16) [.int .i64 q.r.id.1, .int .i64 q.r.id.2, .int .i64 q.r.st, .int .i64 q.r.bl.1, .int .i64 q.r.bl.2, .int .i64 q.r.tk.1, .int .i64 q.r.tk.2, .int .i64 q.r.cm.kd, .int .i64 q.r.cm.cl, .int .i64 q.r.cm.sq, .string q.r.cm.ky, .string q.r.cm.vl, .int .i64 q.r.cm.rv, .slice q.V q.n q.c, .int .i64 q.r.at_.sq, .int .i64 q.r.at_.tg] := fun j v hv => (hb5.cell (p := ⟨ga, oa + k * 16 + j, none⟩) hgl).trans (hra j v hv);have hpu : Calls Tryz.prog 11 #[.pointer (some ⟨s, 0, none⟩), val q] w5 (PutIs I p s g S5 1 q.r (sd 1048576 true (forms (stored 1 puts)) [] kk false) w5) := HH.out.2.1.put 1 (.inl rfl) p s g S5 q _ w5 hI5 hfa5.2 hst5 HKE.out.2.fine (Ids.Rs.below hdep hb5);have HPU := hid hpu;have H5 := hid (And.intro hfa5 (And.intro hr5 (And.intro hra5 (And.intro hra (And.intro hgl hdep)))));have HKP := hid HKE.out.2;have hr5l := hr5.row.le;have hr5c := hr5.row.cap;clear hI5 hg5 hk5 hfa5 hst5 hr5 hb5 hra5 hra hgl hdep hpu HDN H4 HKE hq;go_wp2_with (with_reducible refine wpList_load_mid rfl 43 (.tmp 54) rfl ga (oa + k * 16) rfl _ _ H5.out.2.2.1 Tryz.underlying43 rfl (by kernel_rfl) ?_)
        refine HPU.out.mono ?_;rintro e w6 hpi;rcases hpi with ⟨he0, rfl, S6, hI6, hst6, hg6, hk6⟩ | ⟨_, hgood, rfl, og6, S6, hI6, hst6, hog6, hg6, hk6⟩
        · have hks6 := Kst.put hI6 hst6 H5.out.1 H5.out.2.1 hg6 hk6
          have hc := put_codes 1 q.r;obtain ⟨er, her⟩ : ∃ er, (put 1 q.r).2 = er := ⟨_, rfl⟩
          rw [her] at hc he0 ⊢;have HK6 := hid hks6;have hkp6 : Kpl 1 puts none [] kk false (some g) g rs rs (k + 1) := ⟨HKP.out.good, HKP.out.rs_, by have := HKP.out.cnt; omega, .inl rfl, fun _ h => (by cases h), fun _ => ⟨rfl, rfl⟩, HKP.out.fuse, HKP.out.room⟩
          have HP6 := hid hkp6;clear hI6 hst6 hg6 hk6 hks6 hkp6 her HPU;rcases hc with rfl | rfl | rfl
          · exact absurd rfl he0
          · go_wp2_with fail
            exact ⟨⟨k + 1, puts, none, [], kk, false, some g, V1, n1, c1, rs, V1, n1, c1, rs, by omega, by simp, rfl, rfl, HK6.out, HP6.out⟩, by simp [intOf]; omega⟩
          · go_wp2_with fail
            exact ⟨⟨k + 1, puts, none, [], kk, false, some g, V1, n1, c1, rs, V1, n1, c1, rs, by omega, by simp, rfl, rfl, HK6.out, HP6.out⟩, by simp [intOf]; omega⟩
        · have hpf := put_fuse (r := 1048576) (A := forms (stored 1 puts)) (p := lay 1 q.r) (k := kk) HKP.out.fuse.1
          have h7 := put_seven (r := 1048576) (A := forms (stored 1 puts)) (p := lay 1 q.r) (k := kk)
          have hlen1 : rs.length ≤ 12 := by
           have h1 := congrArg List.length HKP.out.rs_;have h2 := length_heldK Rc.id puts;have h3 := HKP.out.cnt;rw [List.length_map] at h1;omega
          have hks6 := Kst.put (og' := og6) hI6 hst6 H5.out.1 H5.out.2.1 hg6 hk6;have hb6 : Below w1.heap.size w1 w6 := ((frame_a w1).go H5.out.1 hk6 (plus_grew hg6)).1.2;have hx6 : w6.rangeAt ga (oa + k * 16) [.int .i64 q.r.id.1, .int .i64 q.r.id.2, .int .i64 q.r.st, .int .i64 q.r.bl.1, .int .i64 q.r.bl.2, .int .i64 q.r.tk.1, .int .i64 q.r.tk.2, .int .i64 q.r.cm.kd, .int .i64 q.r.cm.cl, .int .i64 q.r.cm.sq, .string q.r.cm.ky, .string q.r.cm.vl, .int .i64 q.r.cm.rv, .slice q.V q.n q.c, .int .i64 q.r.at_.sq, .int .i64 q.r.at_.tg] := fun j v hv => (hb6.cell (p := ⟨ga, oa + k * 16 + j, none⟩) H5.out.2.2.2.2.1).trans (H5.out.2.2.2.1 j v hv)
          have hrs6 : Recs w6 V1 n1 c1 rs := by
           obtain ⟨_, _, _, _, h1, _⟩ := hks6;exact h1.row
          have hwi : Calls Tryz.prog 12 #[.slice V1 n1 c1, val q] w6 (fun e w' => ∃ V k c', e = .returned (.slice V k c') ∧ Recs w' V k c' (withK ptId q rs) ∧ (∀ g o, V = some ⟨g, o, none⟩ → w6.heap.size ≤ g) ∧ Below w6.heap.size w6 w') := with_any V1 n1 c1 rs q w6 hrs6 (Ids.Rs.below H5.out.2.2.2.2.2 hb6) (by have := hrs6.len; omega);have HWI := hid hwi;have HX6 := hid hx6;have HG6 := hid hgood;clear hI6 hst6 hg6 hk6 hb6 hx6 hrs6 hwi HPU hgood;rcases hpf with ⟨k', hk0, hk1, hroom, hpd⟩ | ⟨k', hk0, hk1, hpd⟩ | ⟨T', k', hT', hk0, hk1, hpd⟩
          · rw [hpd] at hks6 hog6 ⊢
            have hog := hog6 (.inl rfl);subst hog;simp only at hks6;have HK6 := hid hks6;have HRM := hid hroom;clear hpd hks6 hog6 h7 hroom;go_wp2_with (with_reducible refine wpList_load_mid rfl 43 (.tmp 62) rfl ga (oa + k * 16) rfl _ _ HX6.out Tryz.underlying43 rfl (by kernel_rfl) ?_)
            refine HWI.out.mono ?_;rintro e w7 ⟨V7, k7, c7, rfl, hR7, hn7, hb7⟩;have hks7 := (Kst.with_ HH.out.1 HK6.out hb7 hR7 hn7 H5.out.2.2.2.2.2).1;rw [← stored_snoc] at hks7
            have hkp7 : Kpl 1 (puts ++ [q.r]) none [] k' false (some g) g (withK ptId q rs) (withK ptId q rs) (k + 1) := ⟨fun x hx => by
             rcases List.mem_append.1 hx with hx | hx
             · exact HKP.out.good x hx
             · rw [List.mem_singleton.1 hx]; exact HG6.out, with_held HKP.out.rs_, by rw [List.length_append]; have := HKP.out.cnt; simp; omega, .inl rfl, fun _ h => (by cases h), fun _ => ⟨rfl, rfl⟩, ⟨hk0, by have := HKP.out.fuse.2; omega⟩, put_room (by have h := HRM.out; omega)⟩
            have HK7 := hid (And.intro hks7 hkp7);clear hR7 hn7 hb7 hks7 hkp7 HWI;go_wp2_with fail
            exact ⟨⟨k + 1, puts ++ [q.r], none, [], k', false, some g, V7, k7, c7, _, V7, k7, c7, _, by omega, by simp, rfl, rfl, HK7.out⟩, by simp [intOf]; omega⟩
          · rw [hpd] at hks6 hog6 h7 ⊢
            have hog := hog6 (.inr (h7 rfl));subst hog;simp only at hks6;have hkp6 : Kpl 1 puts none [] k' false (some g) g rs rs (k + 1) := ⟨HKP.out.good, HKP.out.rs_, by have := HKP.out.cnt; omega, .inl rfl, fun _ h => (by cases h), fun _ => ⟨rfl, rfl⟩, ⟨hk0, by have := HKP.out.fuse.2; omega⟩, HKP.out.room⟩
            have HK6 := hid (And.intro hks6 hkp6);clear hpd hks6 hog6 h7 hkp6;go_wp2_with fail
            exact ⟨⟨k + 1, puts, none, [], k', false, some g, V1, n1, c1, rs, V1, n1, c1, rs, by omega, by simp, rfl, rfl, HK6.out⟩, by simp [intOf]; omega⟩
          · rw [hpd] at hks6 ⊢
            simp only at hks6;have HK6 := hid hks6;have HTT := hid hT';clear hpd hks6 hog6 h7 hT';go_wp2_with (with_reducible refine wpList_load_mid rfl 43 (.tmp 71) rfl ga (oa + k * 16) rfl _ _ HX6.out Tryz.underlying43 rfl (by kernel_rfl) ?_)
            refine HWI.out.mono ?_;rintro e w7 ⟨V7, k7, c7, rfl, hR7, hn7, hb7⟩;have hks7 := (Kst.with_ HH.out.1 HK6.out hb7 hR7 hn7 H5.out.2.2.2.2.2).2
            have hkp7 : Kpl 1 puts (some q.r) T' k' true og6 g rs (withK ptId q rs) (k + 1) := ⟨HKP.out.good, HKP.out.rs_, by have := HKP.out.cnt; omega, by
             rcases HTT.out with h | h
             · exact .inl h
             · exact .inr ⟨q.r, rfl, h.1⟩, fun x hx => by
             injection hx with hx;subst hx;exact ⟨HG6.out, with_held HKP.out.rs_⟩, fun h => (by cases h), ⟨hk0, by have := HKP.out.fuse.2; omega⟩, by
             have hrm := HKP.out.room;rw [List.length_nil] at hrm;rcases HTT.out with h | ⟨h, h2⟩
             · rw [h, List.length_nil]; exact hrm
             · rw [h]; omega⟩
            have HK7 := hid (And.intro hks7 hkp7);clear hR7 hn7 hb7 hks7 hkp7 HWI;go_wp2_with fail
            exact ⟨⟨k + 1, puts, some q.r, T', k', true, og6, V1, n1, c1, rs, V7, k7, c7, _, by omega, by simp, rfl, rfl, HK7.out⟩, by simp [intOf]; omega⟩
    · obtain rfl : k = n := by omega
      as_aux_lemma =>
      have hkst := HKE.out.1;have hkpl := HKE.out.2;obtain ⟨S8, hI8, hst8, hfa8, hr8, hm8⟩ := hkst;obtain ⟨d1, d2, c8, l8, rr8, ps8, hbt, hrb, hre, hor, hwh⟩ := kpl_boot (.inl rfl) hkpl kp;have hnS8 : ¬ S8 wr.heap.size := fun hs => Nat.lt_irrefl _ (HH.out.1.low hI8 _ hs);have hba := bel_alloc (Below.refl wr.heap.size wr) (.cells #[.int .i64 kp] 3)
      have hbo : Calls Tryz.prog 13 #[Dsk.ptr p, .slice (some ⟨wr.heap.size, 0, none⟩) 1 1] (wr.alloc (.cells #[.int .i64 kp] 3)) (fun e w' => e = .returned (.tuple #[]) ∧ Stays I p S8 d1 (wr.alloc (.cells #[.int .i64 kp] 3)) w') := by
       have h := HH.out.1.boot p S8 _ (some ⟨wr.heap.size, 0, none⟩) 1 1 [kp] _ (have_bel HH.out.1 hI8 hba) hkpl.fine (Rd.lit wr (vs [kp]) 3 1 rfl (by unfold maxLen; decide)) (outs_lit hnS8);rw [hbt] at h;exact h
      have hfa8 := (frame_a w1).go hfa8 (Keeps.ofBelow hba) (Dsk.Grew.refl _ wr);have hr8 := (frame_recs _ _ _ _).go hr8 (Keeps.ofBelow hba) (Dsk.Grew.refl _ wr);have hm8 := (frame_recs _ _ _ _).go hm8 (Keeps.ofBelow hba) (Dsk.Grew.refl _ wr);have HBO := hid hbo;have H8 := hid (And.intro hfa8 (And.intro hr8 hm8));have HRB := hid (And.intro hrb (And.intro hre (And.intro hor hwh)));clear hI8 hst8 hnS8 hba hbo hfa8 hr8 hm8 hbt hrb hre hor hwh hkpl;unfold Dsk.ptr at HBO;go_wp2_with fail
      refine HBO.out.mono ?_;rintro e w9 ⟨rfl, S9, hI9, hg9, hk9⟩;have hfa9 := (frame_a w1).go H8.out.1 (plus_keeps hk9) (plus_grew hg9);have hr9 := (frame_recs _ _ _ _).go H8.out.2.1 (plus_keeps hk9) (plus_grew hg9);have hm9 := (frame_recs _ _ _ _).go H8.out.2.2 (plus_keeps hk9) (plus_grew hg9)
      have hop : Calls Tryz.prog 8 #[.pointer (some ⟨p, 0, none⟩), .int .i64 1] w9 (OpenS I p S9 1 (heldK Rc.id ps8) (0, d2) w9) := by
       have h := HH.out.2.1.open_ 1 (.inl rfl) p S9 _ _ _ _ _ w9 hI9 (ftab_sub hfa9.2) HRB.out.1;rw [HRB.out.2.1, HRB.out.2.2.1] at h;exact h
      have HOP := hid hop;have H9 := hid (And.intro (fa_sub hfa9) (And.intro hr9 hm9));clear hI9 hg9 hk9 hfa9 hop HBO H8 hr9 hm9;go_wp2_with fail
      refine HOP.out.mono ?_;rintro e wa hos;rcases hos with ⟨_, sa, ga, Va, na, ca, qa, rfl, hqa, Sa, hIa, hga, hka, hsta, hfra⟩ | ⟨h0, _⟩
      case inr => exact absurd rfl h0
      have hfaa := (frame_a w1).go H9.out.1 hka hga;have subl : ∀ {A : Option Addr} {n c : Nat} {qs : List Pt}, FRecs A n c qs w9 (Plus S9 s) → Recs wa A n c qs := fun h => ((frame_recs _ _ _ _).go ⟨h.row, fun h0 g o e hs => h.out h0 g o e (.inl hs), fun q hq => ⟨(h.dep q hq).1, fun h0 g o e hs => (h.dep q hq).2 h0 g o e (.inl hs)⟩⟩ hka hga).row;have hra := subl H9.out.2.1;have hma := subl H9.out.2.2;have hs1 := samerecs_any _ _ _ qa _ _ _ _ wa hfra.row hra;have HSA := hid hs1;have la := hfra.row.le;have lb := hfra.row.cap;have lc := hra.le;have ld := hra.cap;have le' := hma.le;have lf := hma.cap;have HA := hid (And.intro hfaa.1.2 (And.intro hfaa.2.1 (And.intro hqa (And.intro hfra.row hma))));clear hqa hIa hga hka hsta hfra hfaa subl hra hma hs1 HOP H9;go_upto_region 24 with fail
      go_wp2_with fail
      refine HSA.out.mono ?_;rintro e wb ⟨t1, rfl, ht1, hbb⟩;have HT1 := hid (And.intro ht1 hbb);clear ht1 hbb;cases t1 with
      | true =>
        have haw := sawake_any HH.out.1 HH.out.2.1 wb (HA.out.2.1.below HT1.out.2);have HAW := hid haw;clear haw;go_wp2_with fail
        refine HAW.out.mono ?_;rintro e wc ⟨rfl, hbc⟩;have HB := hid ((HA.out.1.trans (HT1.out.2.mono HA.out.1.size)).trans (hbc.mono (Nat.le_trans HA.out.1.size HT1.out.2.size)));clear hbc;go_wp2_with fail
        go_ret;exact ⟨rfl, HB.out⟩
      | false =>
        have hs2 := samerecs_any _ _ _ qa _ _ _ _ wb (HA.out.2.2.2.1.below HT1.out.2) (HA.out.2.2.2.2.below HT1.out.2);have HSB := hid hs2;clear hs2;go_wp2_with fail
        refine HSB.out.mono ?_;rintro e wc ⟨t2, rfl, ht2, hbc⟩
        have h2 : t2 = true := by
         rcases HRB.out.2.2.2 with h | h
         · have := HT1.out.1 (HA.out.2.2.1.trans h)
           cases this
         · exact ht2 (HA.out.2.2.1.trans h)
        subst h2;have haw := sawake_any HH.out.1 HH.out.2.1 wc ((HA.out.2.1.below HT1.out.2).below hbc);have HAW := hid haw;have HTC := hid hbc;clear haw ht2 hbc;go_wp2_with fail
        refine HAW.out.mono ?_;rintro e wd ⟨rfl, hbd⟩;have HB := hid (((HA.out.1.trans (HT1.out.2.mono HA.out.1.size)).trans (HTC.out.mono (Nat.le_trans HA.out.1.size HT1.out.2.size))).trans (hbd.mono (Nat.le_trans (Nat.le_trans HA.out.1.size HT1.out.2.size) HTC.out.size)));clear hbd;go_wp2_with fail
        go_ret;exact ⟨rfl, HB.out⟩
set_option maxRecDepth 20000 in
set_option maxHeartbeats 8000000 in
theorem keeps_2 {I : Held} (hH : Has2 I) (hS : HasSch I) (hDn : HDown I) (A : Option Addr) (n c : Nat) (qs : List Pt) (z : Nat) (kp : Int) (w : World) (ht : Cr.Tab w) (hr : Recs w A n c qs) (hz : z ≤ 255) :
 Calls Tryz.prog 3 #[.bool false, .slice A n c, .int .u8 (z : Int), .int .i64 kp] w (Tells true w) := by
 have hgr := great_any A n c qs w hr;have HGR := hid hgr;have HH := hid (And.intro hH (And.intro hS hDn));have HT := hid ht;have HR := hid hr;have l1 := hr.le;have l2 := hr.cap;unfold maxLen at l2;clear hgr hH hS hDn ht hr;go_enter Tryz.func3, Tryz.ntmps3
 go_wp2_with fail
 refine HGR.out.mono ?_;rintro e w1 ⟨tt, rfl, hn, rfl⟩;cases tt with
 | true =>
   have haw := sawake_any HH.out.1 HH.out.2.1 w1 HT.out;have HAW := hid haw;clear haw hn;go_wp2_with fail
   refine HAW.out.mono ?_;rintro e w2 ⟨rfl, hb2⟩;have HB := hid hb2;clear hb2;go_wp2_with fail
   go_ret;exact ⟨rfl, HB.out⟩
 | false =>
   have hn12 := hn rfl;have hnw := HH.out.1.new 1048576 w1;have HNW := hid hnw;clear hn hnw HGR;go_wp2_with fail
   refine HNW.out.mono ?_;rintro e w2 ⟨p, S1, rfl, hI1, hn1, hb1⟩;have hfa1 : FA w1 w2 S1 := ⟨⟨hn1, hb1⟩, ftab_new HT.out hb1 hn1⟩
   have hop : Calls Tryz.prog 8 #[Dsk.ptr p, .int .i64 2] w2 (OpenS I p S1 2 [] (0, sd 1048576 true (forms (stored 2 [])) [] (-1) false) w2) := by
    have h := HH.out.2.1.open_ 2 (.inr rfl) p S1 (newDk 1048576) (newDk 1048576) [] [] [] w2 hI1 hfa1.2 (rdb_none (r := 1048576) (by omega) (by omega));rw [read_none, show newDk 1048576 = sd 1048576 false [] [] (-1) false from rfl, open_new, if_neg (by have := hdr_form 2; omega)] at h;exact h
   have HOP := hid hop;have H1 := hid hfa1;clear hop hfa1 hI1 hn1 hb1 HNW;unfold Dsk.ptr at *;go_wp2_with fail
   refine HOP.out.mono ?_;rintro e w3 hos;rcases hos with ⟨_, s, g, V, n0, c0, q0, rfl, hq0, S2, hI2, hg2, hk2, hst2, hfr2⟩ | ⟨h0, _⟩
   case inr => exact absurd rfl h0
   have hfa2 := (frame_a w1).go H1.out hk2 hg2;have hfl0 : (((forms (stored 2 [])).length + ([] : List Nat).length : Nat) : Int) ≤ 1048576 := (by have := hdr_form 2; simp only [stored, List.map_nil, forms_one, List.length_nil]; omega);obtain ⟨R, hR⟩ : ∃ R : Nat, ((z : Int) % 30) = (R : Int) := ⟨z % 30, by omega⟩
   have hR30 : (R : Int) ≤ 30 := (by omega);have hwz : IntKind.i64.wrap (z : Int) = (z : Int) := IntWalk.i64_in _ (by omega)
   have hfu : Calls Tryz.prog 9 #[.pointer (some ⟨p, 0, none⟩), .int .i64 (R : Int)] w3 (fun e w' => e = .returned (.tuple #[]) ∧ Stays I p S2 (sd 1048576 true (forms (stored 2 [])) [] (R : Int) false) w3 w') := by
    have h := HH.out.1.fuse p S2 (sd 1048576 true (forms (stored 2 [])) [] (-1) false) (R : Int) w3 hI2 (fine_sd (fun h => by cases h) (by omega) (by omega) hfl0 (by decide));rw [show ({ sd 1048576 true (forms (stored 2 [])) [] (-1) false with fuse := max (R : Int) (-1) } : Dk) = sd 1048576 true (forms (stored 2 [])) [] (R : Int) false from by unfold sd; simp only; rw [show max (R : Int) (-1) = (R : Int) by omega]] at h;exact h
   have HFU := hid hfu;have H2 := hid (And.intro hst2 (And.intro hfa2 hfl0));have cl2 := hfr2.row.cap;clear hq0 hI2 hg2 hk2 hst2 hfr2 hfa2 hfl0 hfu HOP;go_wp2_with (rw [hR])
   refine HFU.out.mono ?_;rintro e w4 ⟨rfl, S3, hI3, hg3, hk3⟩;have hkst : Kst I w1 p s 2 (some g) (sd 1048576 true (forms (stored 2 [])) [] (R : Int) false) none 0 0 [] none 0 0 [] w4 := Kst.go hI3 H2.out.1 H2.out.2.1 (Recs.nil_frame w3 _) (Recs.nil_frame w3 _) hg3 hk3;have hkpl : Kpl 2 [] none [] (R : Int) false (some g) g [] [] 0 := ⟨fun _ h => (by cases h), rfl, Nat.le_refl _, .inl rfl, fun _ h => (by cases h), fun _ => ⟨rfl, rfl⟩, ⟨by omega, hR30⟩, H2.out.2.2⟩
   have HK0 := hid (And.intro hkst hkpl);clear hI3 hg3 hk3 hkst hkpl HFU hR hwz;go_wp2_with fail
   go_loopw [16, 14, 15] (KpRel I w1 p s 2 g n) (fun i _ _ _ => n - (intOf i).toNat)
   case atStart => exact ⟨0, [], none, [], _, _, _, none, 0, 0, [], none, 0, 0, [], Nat.zero_le _, rfl, rfl, rfl, HK0.out⟩
   case round =>
    obtain ⟨k, puts, oq, T, kk, dn, og, V1, n1, c1, rs, V2, n2, c2, ms, hk, rfl, rfl, rfl, hkst, hkpl⟩ := hrel;have HKE := hid (And.intro hkst hkpl);clear hkst hkpl HK0;by_cases hlt : k < n
    · obtain ⟨S4, hI4, hst4, hfa4, hr4, hm4⟩ := HKE.out.1
      have hdn : Calls Tryz.prog 10 #[.pointer (some ⟨p, 0, none⟩)] wr (fun e w' => e = .returned (.bool dn) ∧ Stays I p S4 (sd 1048576 true (forms (stored 2 puts)) T kk dn) wr w') := HH.out.2.2 p S4 _ wr hI4;have HDN := hid hdn;have H4 := hid (And.intro hst4 (And.intro hfa4 (And.intro hr4 hm4)));clear hdn hI4 hst4 hfa4 hr4 hm4;cases dn with
      | true =>
        go_wp2_with fail
        refine HDN.out.mono ?_;rintro e w5 ⟨rfl, S5, hI5, hg5, hk5⟩;have hks5 := Kst.go hI5 H4.out.1 H4.out.2.1 H4.out.2.2.1 H4.out.2.2.2 hg5 hk5;replace HKE := hid (And.intro hks5 HKE.out.2);clear hI5 hg5 hk5 hks5 HDN H4
        as_aux_lemma =>
        have hkst := HKE.out.1;have hkpl := HKE.out.2;obtain ⟨S8, hI8, hst8, hfa8, hr8, hm8⟩ := hkst;obtain ⟨d1, d2, c8, l8, rr8, ps8, hbt, hrb, hre, hor, hwh⟩ := kpl_boot (.inr rfl) hkpl kp;have hnS8 : ¬ S8 w5.heap.size := fun hs => Nat.lt_irrefl _ (HH.out.1.low hI8 _ hs);have hba := bel_alloc (Below.refl w5.heap.size w5) (.cells #[.int .i64 kp] 3)
        have hbo : Calls Tryz.prog 13 #[Dsk.ptr p, .slice (some ⟨w5.heap.size, 0, none⟩) 1 1] (w5.alloc (.cells #[.int .i64 kp] 3)) (fun e w' => e = .returned (.tuple #[]) ∧ Stays I p S8 d1 (w5.alloc (.cells #[.int .i64 kp] 3)) w') := by
         have h := HH.out.1.boot p S8 _ (some ⟨w5.heap.size, 0, none⟩) 1 1 [kp] _ (have_bel HH.out.1 hI8 hba) hkpl.fine (Rd.lit w5 (vs [kp]) 3 1 rfl (by unfold maxLen; decide)) (outs_lit hnS8);rw [hbt] at h;exact h
        have hfa8 := (frame_a w1).go hfa8 (Keeps.ofBelow hba) (Dsk.Grew.refl _ w5);have hr8 := (frame_recs _ _ _ _).go hr8 (Keeps.ofBelow hba) (Dsk.Grew.refl _ w5);have hm8 := (frame_recs _ _ _ _).go hm8 (Keeps.ofBelow hba) (Dsk.Grew.refl _ w5);have HBO := hid hbo;have H8 := hid (And.intro hfa8 (And.intro hr8 hm8));have HRB := hid (And.intro hrb (And.intro hre (And.intro hor hwh)));clear hI8 hst8 hnS8 hba hbo hfa8 hr8 hm8 hbt hrb hre hor hwh hkpl;unfold Dsk.ptr at HBO;go_wp2_with fail
        refine HBO.out.mono ?_;rintro e w9 ⟨rfl, S9, hI9, hg9, hk9⟩;have hfa9 := (frame_a w1).go H8.out.1 (plus_keeps hk9) (plus_grew hg9);have hr9 := (frame_recs _ _ _ _).go H8.out.2.1 (plus_keeps hk9) (plus_grew hg9);have hm9 := (frame_recs _ _ _ _).go H8.out.2.2 (plus_keeps hk9) (plus_grew hg9)
        have hop : Calls Tryz.prog 8 #[.pointer (some ⟨p, 0, none⟩), .int .i64 2] w9 (OpenS I p S9 2 (heldK Rc.id ps8) (0, d2) w9) := by
         have h := HH.out.2.1.open_ 2 (.inr rfl) p S9 _ _ _ _ _ w9 hI9 (ftab_sub hfa9.2) HRB.out.1;rw [HRB.out.2.1, HRB.out.2.2.1] at h;exact h
        have HOP := hid hop;have H9 := hid (And.intro (fa_sub hfa9) (And.intro hr9 hm9));clear hI9 hg9 hk9 hfa9 hop HBO H8 hr9 hm9;go_wp2_with fail
        refine HOP.out.mono ?_;rintro e wa hos;rcases hos with ⟨_, sa, ga, Va, na, ca, qa, rfl, hqa, Sa, hIa, hga, hka, hsta, hfra⟩ | ⟨h0, _⟩
        case inr => exact absurd rfl h0
        have hfaa := (frame_a w1).go H9.out.1 hka hga;have subl : ∀ {A : Option Addr} {n c : Nat} {qs : List Pt}, FRecs A n c qs w9 (Plus S9 s) → Recs wa A n c qs := fun h => ((frame_recs _ _ _ _).go ⟨h.row, fun h0 g o e hs => h.out h0 g o e (.inl hs), fun q hq => ⟨(h.dep q hq).1, fun h0 g o e hs => (h.dep q hq).2 h0 g o e (.inl hs)⟩⟩ hka hga).row;have hra := subl H9.out.2.1;have hma := subl H9.out.2.2;have hs1 := samerecs_any _ _ _ qa _ _ _ _ wa hfra.row hra;have HSA := hid hs1;have la := hfra.row.le;have lb := hfra.row.cap;have lc := hra.le;have ld := hra.cap;have le' := hma.le;have lf := hma.cap;have HA := hid (And.intro hfaa.1.2 (And.intro hfaa.2.1 (And.intro hqa (And.intro hfra.row hma))));clear hqa hIa hga hka hsta hfra hfaa subl hra hma hs1 HOP H9;go_upto_region 24 with fail
        go_wp2_with fail
        refine HSA.out.mono ?_;rintro e wb ⟨t1, rfl, ht1, hbb⟩;have HT1 := hid (And.intro ht1 hbb);clear ht1 hbb;cases t1 with
        | true =>
          have haw := sawake_any HH.out.1 HH.out.2.1 wb (HA.out.2.1.below HT1.out.2);have HAW := hid haw;clear haw;go_wp2_with fail
          refine HAW.out.mono ?_;rintro e wc ⟨rfl, hbc⟩;have HB := hid ((HA.out.1.trans (HT1.out.2.mono HA.out.1.size)).trans (hbc.mono (Nat.le_trans HA.out.1.size HT1.out.2.size)));clear hbc;go_wp2_with fail
          go_ret;exact ⟨rfl, HB.out⟩
        | false =>
          have hs2 := samerecs_any _ _ _ qa _ _ _ _ wb (HA.out.2.2.2.1.below HT1.out.2) (HA.out.2.2.2.2.below HT1.out.2);have HSB := hid hs2;clear hs2;go_wp2_with fail
          refine HSB.out.mono ?_;rintro e wc ⟨t2, rfl, ht2, hbc⟩
          have h2 : t2 = true := by
           rcases HRB.out.2.2.2 with h | h
           · have := HT1.out.1 (HA.out.2.2.1.trans h)
             cases this
           · exact ht2 (HA.out.2.2.1.trans h)
          subst h2;have haw := sawake_any HH.out.1 HH.out.2.1 wc ((HA.out.2.1.below HT1.out.2).below hbc);have HAW := hid haw;have HTC := hid hbc;clear haw ht2 hbc;go_wp2_with fail
          refine HAW.out.mono ?_;rintro e wd ⟨rfl, hbd⟩;have HB := hid (((HA.out.1.trans (HT1.out.2.mono HA.out.1.size)).trans (HTC.out.mono (Nat.le_trans HA.out.1.size HT1.out.2.size))).trans (hbd.mono (Nat.le_trans (Nat.le_trans HA.out.1.size HT1.out.2.size) HTC.out.size)));clear hbd;go_wp2_with fail
          go_ret;exact ⟨rfl, HB.out⟩
      | false =>
        have hup := HKE.out.2.up rfl;obtain ⟨rfl, rfl⟩ := hup;go_wp2_with (first | fail)
        refine HDN.out.mono ?_;rintro e w5 ⟨rfl, S5, hI5, hg5, hk5⟩;obtain ⟨ga, oa, q, rfl, hgl, hq, hra, hdep⟩ := HR.out.at_ hlt;have hfa5 := (frame_a w1).go H4.out.2.1 (plus_keeps hk5) (plus_grew hg5);have hst5 := (frame_st s 2 p (some g)).go H4.out.1 hk5 hg5;have hr5 := (frame_recs V1 n1 c1 rs).go H4.out.2.2.1 (plus_keeps hk5) (plus_grew hg5);have hb5 := hfa5.1.2;have hra5 : w5.rangeAt ga (oa + k * 16) [.int .i64 q.r.id.1, .int .i64 q.r.id.2, .int .i64 q.r.st, .int .i64 q.r.bl.1, .int .i64 q.r.bl.2, .int .i64 q.r.tk.1, .int .i64 q.r.tk.2, .int .i64 q.r.cm.kd, .int .i64 q.r.cm.cl, .int .i64 q.r.cm.sq, .string q.r.cm.ky, .string q.r.cm.vl, .int .i64 q.r.cm.rv, .slice q.V q.n q.c, .int .i64 q.r.at_.sq, .int .i64 q.r.at_.tg] := fun j v hv => (hb5.cell (p := ⟨ga, oa + k * 16 + j, none⟩) hgl).trans (hra j v hv);have hpu : Calls Tryz.prog 11 #[.pointer (some ⟨s, 0, none⟩), val q] w5 (PutIs I p s g S5 2 q.r (sd 1048576 true (forms (stored 2 puts)) [] kk false) w5) := HH.out.2.1.put 2 (.inr rfl) p s g S5 q _ w5 hI5 hfa5.2 hst5 HKE.out.2.fine (Ids.Rs.below hdep hb5);have HPU := hid hpu;have H5 := hid (And.intro hfa5 (And.intro hr5 (And.intro hra5 (And.intro hra (And.intro hgl hdep)))));have HKP := hid HKE.out.2;have hr5l := hr5.row.le;have hr5c := hr5.row.cap;clear hI5 hg5 hk5 hfa5 hst5 hr5 hb5 hra5 hra hgl hdep hpu HDN H4 HKE hq;go_wp2_with (with_reducible refine wpList_load_mid rfl 43 (.tmp 54) rfl ga (oa + k * 16) rfl _ _ H5.out.2.2.1 Tryz.underlying43 rfl (by kernel_rfl) ?_)
        refine HPU.out.mono ?_;rintro e w6 hpi;rcases hpi with ⟨he0, rfl, S6, hI6, hst6, hg6, hk6⟩ | ⟨_, hgood, rfl, og6, S6, hI6, hst6, hog6, hg6, hk6⟩
        · have hks6 := Kst.put hI6 hst6 H5.out.1 H5.out.2.1 hg6 hk6
          have hc := put_codes 2 q.r;obtain ⟨er, her⟩ : ∃ er, (put 2 q.r).2 = er := ⟨_, rfl⟩
          rw [her] at hc he0 ⊢;have HK6 := hid hks6;have hkp6 : Kpl 2 puts none [] kk false (some g) g rs rs (k + 1) := ⟨HKP.out.good, HKP.out.rs_, by have := HKP.out.cnt; omega, .inl rfl, fun _ h => (by cases h), fun _ => ⟨rfl, rfl⟩, HKP.out.fuse, HKP.out.room⟩
          have HP6 := hid hkp6;clear hI6 hst6 hg6 hk6 hks6 hkp6 her HPU;rcases hc with rfl | rfl | rfl
          · exact absurd rfl he0
          · go_wp2_with fail
            exact ⟨⟨k + 1, puts, none, [], kk, false, some g, V1, n1, c1, rs, V1, n1, c1, rs, by omega, by simp, rfl, rfl, HK6.out, HP6.out⟩, by simp [intOf]; omega⟩
          · go_wp2_with fail
            exact ⟨⟨k + 1, puts, none, [], kk, false, some g, V1, n1, c1, rs, V1, n1, c1, rs, by omega, by simp, rfl, rfl, HK6.out, HP6.out⟩, by simp [intOf]; omega⟩
        · have hpf := put_fuse (r := 1048576) (A := forms (stored 2 puts)) (p := lay 2 q.r) (k := kk) HKP.out.fuse.1
          have h7 := put_seven (r := 1048576) (A := forms (stored 2 puts)) (p := lay 2 q.r) (k := kk)
          have hlen1 : rs.length ≤ 12 := by
           have h1 := congrArg List.length HKP.out.rs_;have h2 := length_heldK Rc.id puts;have h3 := HKP.out.cnt;rw [List.length_map] at h1;omega
          have hks6 := Kst.put (og' := og6) hI6 hst6 H5.out.1 H5.out.2.1 hg6 hk6;have hb6 : Below w1.heap.size w1 w6 := ((frame_a w1).go H5.out.1 hk6 (plus_grew hg6)).1.2;have hx6 : w6.rangeAt ga (oa + k * 16) [.int .i64 q.r.id.1, .int .i64 q.r.id.2, .int .i64 q.r.st, .int .i64 q.r.bl.1, .int .i64 q.r.bl.2, .int .i64 q.r.tk.1, .int .i64 q.r.tk.2, .int .i64 q.r.cm.kd, .int .i64 q.r.cm.cl, .int .i64 q.r.cm.sq, .string q.r.cm.ky, .string q.r.cm.vl, .int .i64 q.r.cm.rv, .slice q.V q.n q.c, .int .i64 q.r.at_.sq, .int .i64 q.r.at_.tg] := fun j v hv => (hb6.cell (p := ⟨ga, oa + k * 16 + j, none⟩) H5.out.2.2.2.2.1).trans (H5.out.2.2.2.1 j v hv)
          have hrs6 : Recs w6 V1 n1 c1 rs := by
           obtain ⟨_, _, _, _, h1, _⟩ := hks6;exact h1.row
          have hwi : Calls Tryz.prog 12 #[.slice V1 n1 c1, val q] w6 (fun e w' => ∃ V k c', e = .returned (.slice V k c') ∧ Recs w' V k c' (withK ptId q rs) ∧ (∀ g o, V = some ⟨g, o, none⟩ → w6.heap.size ≤ g) ∧ Below w6.heap.size w6 w') := with_any V1 n1 c1 rs q w6 hrs6 (Ids.Rs.below H5.out.2.2.2.2.2 hb6) (by have := hrs6.len; omega);have HWI := hid hwi;have HX6 := hid hx6;have HG6 := hid hgood;clear hI6 hst6 hg6 hk6 hb6 hx6 hrs6 hwi HPU hgood;rcases hpf with ⟨k', hk0, hk1, hroom, hpd⟩ | ⟨k', hk0, hk1, hpd⟩ | ⟨T', k', hT', hk0, hk1, hpd⟩
          · rw [hpd] at hks6 hog6 ⊢
            have hog := hog6 (.inl rfl);subst hog;simp only at hks6;have HK6 := hid hks6;have HRM := hid hroom;clear hpd hks6 hog6 h7 hroom;go_wp2_with (with_reducible refine wpList_load_mid rfl 43 (.tmp 62) rfl ga (oa + k * 16) rfl _ _ HX6.out Tryz.underlying43 rfl (by kernel_rfl) ?_)
            refine HWI.out.mono ?_;rintro e w7 ⟨V7, k7, c7, rfl, hR7, hn7, hb7⟩;have hks7 := (Kst.with_ HH.out.1 HK6.out hb7 hR7 hn7 H5.out.2.2.2.2.2).1;rw [← stored_snoc] at hks7
            have hkp7 : Kpl 2 (puts ++ [q.r]) none [] k' false (some g) g (withK ptId q rs) (withK ptId q rs) (k + 1) := ⟨fun x hx => by
             rcases List.mem_append.1 hx with hx | hx
             · exact HKP.out.good x hx
             · rw [List.mem_singleton.1 hx]; exact HG6.out, with_held HKP.out.rs_, by rw [List.length_append]; have := HKP.out.cnt; simp; omega, .inl rfl, fun _ h => (by cases h), fun _ => ⟨rfl, rfl⟩, ⟨hk0, by have := HKP.out.fuse.2; omega⟩, put_room (by have h := HRM.out; omega)⟩
            have HK7 := hid (And.intro hks7 hkp7);clear hR7 hn7 hb7 hks7 hkp7 HWI;go_wp2_with fail
            exact ⟨⟨k + 1, puts ++ [q.r], none, [], k', false, some g, V7, k7, c7, _, V7, k7, c7, _, by omega, by simp, rfl, rfl, HK7.out⟩, by simp [intOf]; omega⟩
          · rw [hpd] at hks6 hog6 h7 ⊢
            have hog := hog6 (.inr (h7 rfl));subst hog;simp only at hks6;have hkp6 : Kpl 2 puts none [] k' false (some g) g rs rs (k + 1) := ⟨HKP.out.good, HKP.out.rs_, by have := HKP.out.cnt; omega, .inl rfl, fun _ h => (by cases h), fun _ => ⟨rfl, rfl⟩, ⟨hk0, by have := HKP.out.fuse.2; omega⟩, HKP.out.room⟩
            have HK6 := hid (And.intro hks6 hkp6);clear hpd hks6 hog6 h7 hkp6;go_wp2_with fail
            exact ⟨⟨k + 1, puts, none, [], k', false, some g, V1, n1, c1, rs, V1, n1, c1, rs, by omega, by simp, rfl, rfl, HK6.out⟩, by simp [intOf]; omega⟩
          · rw [hpd] at hks6 ⊢
            simp only at hks6;have HK6 := hid hks6;have HTT := hid hT';clear hpd hks6 hog6 h7 hT';go_wp2_with (with_reducible refine wpList_load_mid rfl 43 (.tmp 71) rfl ga (oa + k * 16) rfl _ _ HX6.out Tryz.underlying43 rfl (by kernel_rfl) ?_)
            refine HWI.out.mono ?_;rintro e w7 ⟨V7, k7, c7, rfl, hR7, hn7, hb7⟩;have hks7 := (Kst.with_ HH.out.1 HK6.out hb7 hR7 hn7 H5.out.2.2.2.2.2).2
            have hkp7 : Kpl 2 puts (some q.r) T' k' true og6 g rs (withK ptId q rs) (k + 1) := ⟨HKP.out.good, HKP.out.rs_, by have := HKP.out.cnt; omega, by
             rcases HTT.out with h | h
             · exact .inl h
             · exact .inr ⟨q.r, rfl, h.1⟩, fun x hx => by
             injection hx with hx;subst hx;exact ⟨HG6.out, with_held HKP.out.rs_⟩, fun h => (by cases h), ⟨hk0, by have := HKP.out.fuse.2; omega⟩, by
             have hrm := HKP.out.room;rw [List.length_nil] at hrm;rcases HTT.out with h | ⟨h, h2⟩
             · rw [h, List.length_nil]; exact hrm
             · rw [h]; omega⟩
            have HK7 := hid (And.intro hks7 hkp7);clear hR7 hn7 hb7 hks7 hkp7 HWI;go_wp2_with fail
            exact ⟨⟨k + 1, puts, some q.r, T', k', true, og6, V1, n1, c1, rs, V7, k7, c7, _, by omega, by simp, rfl, rfl, HK7.out⟩, by simp [intOf]; omega⟩
    · obtain rfl : k = n := by omega
      as_aux_lemma =>
      have hkst := HKE.out.1;have hkpl := HKE.out.2;obtain ⟨S8, hI8, hst8, hfa8, hr8, hm8⟩ := hkst;obtain ⟨d1, d2, c8, l8, rr8, ps8, hbt, hrb, hre, hor, hwh⟩ := kpl_boot (.inr rfl) hkpl kp;have hnS8 : ¬ S8 wr.heap.size := fun hs => Nat.lt_irrefl _ (HH.out.1.low hI8 _ hs);have hba := bel_alloc (Below.refl wr.heap.size wr) (.cells #[.int .i64 kp] 3)
      have hbo : Calls Tryz.prog 13 #[Dsk.ptr p, .slice (some ⟨wr.heap.size, 0, none⟩) 1 1] (wr.alloc (.cells #[.int .i64 kp] 3)) (fun e w' => e = .returned (.tuple #[]) ∧ Stays I p S8 d1 (wr.alloc (.cells #[.int .i64 kp] 3)) w') := by
       have h := HH.out.1.boot p S8 _ (some ⟨wr.heap.size, 0, none⟩) 1 1 [kp] _ (have_bel HH.out.1 hI8 hba) hkpl.fine (Rd.lit wr (vs [kp]) 3 1 rfl (by unfold maxLen; decide)) (outs_lit hnS8);rw [hbt] at h;exact h
      have hfa8 := (frame_a w1).go hfa8 (Keeps.ofBelow hba) (Dsk.Grew.refl _ wr);have hr8 := (frame_recs _ _ _ _).go hr8 (Keeps.ofBelow hba) (Dsk.Grew.refl _ wr);have hm8 := (frame_recs _ _ _ _).go hm8 (Keeps.ofBelow hba) (Dsk.Grew.refl _ wr);have HBO := hid hbo;have H8 := hid (And.intro hfa8 (And.intro hr8 hm8));have HRB := hid (And.intro hrb (And.intro hre (And.intro hor hwh)));clear hI8 hst8 hnS8 hba hbo hfa8 hr8 hm8 hbt hrb hre hor hwh hkpl;unfold Dsk.ptr at HBO;go_wp2_with fail
      refine HBO.out.mono ?_;rintro e w9 ⟨rfl, S9, hI9, hg9, hk9⟩;have hfa9 := (frame_a w1).go H8.out.1 (plus_keeps hk9) (plus_grew hg9);have hr9 := (frame_recs _ _ _ _).go H8.out.2.1 (plus_keeps hk9) (plus_grew hg9);have hm9 := (frame_recs _ _ _ _).go H8.out.2.2 (plus_keeps hk9) (plus_grew hg9)
      have hop : Calls Tryz.prog 8 #[.pointer (some ⟨p, 0, none⟩), .int .i64 2] w9 (OpenS I p S9 2 (heldK Rc.id ps8) (0, d2) w9) := by
       have h := HH.out.2.1.open_ 2 (.inr rfl) p S9 _ _ _ _ _ w9 hI9 (ftab_sub hfa9.2) HRB.out.1;rw [HRB.out.2.1, HRB.out.2.2.1] at h;exact h
      have HOP := hid hop;have H9 := hid (And.intro (fa_sub hfa9) (And.intro hr9 hm9));clear hI9 hg9 hk9 hfa9 hop HBO H8 hr9 hm9;go_wp2_with fail
      refine HOP.out.mono ?_;rintro e wa hos;rcases hos with ⟨_, sa, ga, Va, na, ca, qa, rfl, hqa, Sa, hIa, hga, hka, hsta, hfra⟩ | ⟨h0, _⟩
      case inr => exact absurd rfl h0
      have hfaa := (frame_a w1).go H9.out.1 hka hga;have subl : ∀ {A : Option Addr} {n c : Nat} {qs : List Pt}, FRecs A n c qs w9 (Plus S9 s) → Recs wa A n c qs := fun h => ((frame_recs _ _ _ _).go ⟨h.row, fun h0 g o e hs => h.out h0 g o e (.inl hs), fun q hq => ⟨(h.dep q hq).1, fun h0 g o e hs => (h.dep q hq).2 h0 g o e (.inl hs)⟩⟩ hka hga).row;have hra := subl H9.out.2.1;have hma := subl H9.out.2.2;have hs1 := samerecs_any _ _ _ qa _ _ _ _ wa hfra.row hra;have HSA := hid hs1;have la := hfra.row.le;have lb := hfra.row.cap;have lc := hra.le;have ld := hra.cap;have le' := hma.le;have lf := hma.cap;have HA := hid (And.intro hfaa.1.2 (And.intro hfaa.2.1 (And.intro hqa (And.intro hfra.row hma))));clear hqa hIa hga hka hsta hfra hfaa subl hra hma hs1 HOP H9;go_upto_region 24 with fail
      go_wp2_with fail
      refine HSA.out.mono ?_;rintro e wb ⟨t1, rfl, ht1, hbb⟩;have HT1 := hid (And.intro ht1 hbb);clear ht1 hbb;cases t1 with
      | true =>
        have haw := sawake_any HH.out.1 HH.out.2.1 wb (HA.out.2.1.below HT1.out.2);have HAW := hid haw;clear haw;go_wp2_with fail
        refine HAW.out.mono ?_;rintro e wc ⟨rfl, hbc⟩;have HB := hid ((HA.out.1.trans (HT1.out.2.mono HA.out.1.size)).trans (hbc.mono (Nat.le_trans HA.out.1.size HT1.out.2.size)));clear hbc;go_wp2_with fail
        go_ret;exact ⟨rfl, HB.out⟩
      | false =>
        have hs2 := samerecs_any _ _ _ qa _ _ _ _ wb (HA.out.2.2.2.1.below HT1.out.2) (HA.out.2.2.2.2.below HT1.out.2);have HSB := hid hs2;clear hs2;go_wp2_with fail
        refine HSB.out.mono ?_;rintro e wc ⟨t2, rfl, ht2, hbc⟩
        have h2 : t2 = true := by
         rcases HRB.out.2.2.2 with h | h
         · have := HT1.out.1 (HA.out.2.2.1.trans h)
           cases this
         · exact ht2 (HA.out.2.2.1.trans h)
        subst h2;have haw := sawake_any HH.out.1 HH.out.2.1 wc ((HA.out.2.1.below HT1.out.2).below hbc);have HAW := hid haw;have HTC := hid hbc;clear haw ht2 hbc;go_wp2_with fail
        refine HAW.out.mono ?_;rintro e wd ⟨rfl, hbd⟩;have HB := hid (((HA.out.1.trans (HT1.out.2.mono HA.out.1.size)).trans (HTC.out.mono (Nat.le_trans HA.out.1.size HT1.out.2.size))).trans (hbd.mono (Nat.le_trans (Nat.le_trans HA.out.1.size HT1.out.2.size) HTC.out.size)));clear hbd;go_wp2_with fail
        go_ret;exact ⟨rfl, HB.out⟩
theorem schemakeeps_true {I : Held} (hH : Has2 I) (hS : HasSch I) (hDn : HDown I) (b : Bool) (A : Option Addr) (n c : Nat) (qs : List Pt) (z : Nat) (kp : Int) (w : World) (ht : Cr.Tab w) (hr : Recs w A n c qs) (hz : z ≤ 255) :
 Calls Tryz.prog 3 #[.bool b, .slice A n c, .int .u8 (z : Int), .int .i64 kp] w (Tells true w) := by
 cases b
 · exact keeps_2 hH hS hDn A n c qs z kp w ht hr hz
 · exact keeps_1 hH hS hDn A n c qs z kp w ht hr hz
end Go.Proofs.YtkejjdoaljoooaaGreatDoor.Sc
