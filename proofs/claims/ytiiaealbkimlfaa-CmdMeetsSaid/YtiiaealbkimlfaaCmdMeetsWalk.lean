/-
  The walk of the statement CmdMeets.
-/
import Derived.Test.YtiiaealbkimlfaaCmdAwake
namespace Go.Proofs.Ytiiaealbkimlfaa
open Go.RowKit Mem Run Cmd


theorem meet_true {a b : Cm} (ha : ¬ a.kd = 0) (hb : ¬ b.kd = 0) (h : a.kd = 6 ∨ b.kd = 6 ∨ a.cl = b.cl) : meet a b = true := by
  rw [meet, if_neg (by omega), if_pos h]
theorem meet_key {a b : Cm} (ha : ¬ a.kd = 0) (hb : ¬ b.kd = 0) (hw : writes a.kd = true) (hk : a.ky = b.ky) : meet a b = true := by
  rw [meet, if_neg (by omega)]
  split
  · rfl
  · rw [hw, covers, hk]
    simp

set_option maxHeartbeats 4000000 in
theorem cmdmeets_true (akd acl asq : Int) (aky avl : ByteArray) (arv : Int) (bkd bcl bsq : Int) (bky bvl : ByteArray) (brv : Int) (w : World) :
    Calls Try.prog 5 #[.agg #[.int .i64 akd, .int .i64 acl, .int .i64 asq, .string aky, .string avl, .int .i64 arv], .agg #[.int .i64 bkd, .int .i64 bcl, .int .i64 bsq, .string bky, .string bvl, .int .i64 brv]] w (Tells true w) := by
  have HA := Lib.hid awake_any
  by_cases h0 : akd = 0 ∨ bkd = 0
  · have h1 := fun w => meet_any akd acl asq aky avl arv bkd bcl bsq bky bvl brv w
    rw [show meet ⟨akd, acl, asq, aky, avl, arv⟩ ⟨bkd, bcl, bsq, bky, bvl, brv⟩ = false from if_pos h0] at h1
    have H1 := Lib.hid h1
    have HCU := Lib.hid (two_boxes w 23 #[.int .i64 akd, .int .i64 acl, .int .i64 asq, .string aky, .string avl, .int .i64 arv] #[.int .i64 bkd, .int .i64 bcl, .int .i64 bsq, .string bky, .string bvl, .int .i64 brv]).2.2
    clear h1
    by_cases ha : akd = 0
    · clear h0
      subst ha
      go_enter Try.func5, Try.ntmps5
      go_wp2_with (first | (go_at_call 13; refine (H1.out _).mono ?_; rintro e w1 ⟨rfl, hb1⟩; have hcu := bel_trans HCU.out hb1; replace HCU := Lib.hid hcu; clear hb1 hcu) | (go_at_call 8; refine (HA.out _).mono ?_; rintro e w1 ⟨rfl, hb1⟩; have hcu := bel_trans HCU.out hb1; replace HCU := Lib.hid hcu; clear hb1 hcu))
      go_ret
      exact ⟨rfl, HCU.out⟩
    · have hb : bkd = 0 := h0.resolve_left ha
      have n1 : (akd == 0) = false := beq_false_of_ne ha
      clear h0 ha
      subst hb
      go_enter Try.func5, Try.ntmps5
      go_wp2_with (first | (go_at_call 13; refine (H1.out _).mono ?_; rintro e w1 ⟨rfl, hb1⟩; have hcu := bel_trans HCU.out hb1; replace HCU := Lib.hid hcu; clear hb1 hcu) | (go_at_call 8; refine (HA.out _).mono ?_; rintro e w1 ⟨rfl, hb1⟩; have hcu := bel_trans HCU.out hb1; replace HCU := Lib.hid hcu; clear hb1 hcu))
      go_ret
      exact ⟨rfl, HCU.out⟩
  have ha : ¬ akd = 0 := fun h => h0 (.inl h)
  have hb : ¬ bkd = 0 := fun h => h0 (.inr h)
  have h1 := fun w => meet_any akd bcl asq aky avl arv bkd bcl bsq bky bvl brv w
  have h2 := fun w => meet_any akd acl asq aky avl arv 6 0 0 ⟨#[]⟩ ⟨#[]⟩ 0 w
  have h3 := fun w => meet_any 6 0 0 ⟨#[]⟩ ⟨#[]⟩ 0 bkd bcl bsq bky bvl brv w
  have h4 := fun w => meet_any 6 0 0 ⟨#[]⟩ ⟨#[]⟩ 0 0 0 0 ⟨#[]⟩ ⟨#[]⟩ 0 w
  have h5 := fun w => writes_any akd acl asq aky avl arv w
  have h6 := fun w => meet_any akd acl asq aky avl arv bkd bcl bsq aky bvl brv w
  rw [meet_true (a := ⟨akd, bcl, asq, aky, avl, arv⟩) (b := ⟨bkd, bcl, bsq, bky, bvl, brv⟩) ha hb (.inr (.inr rfl))] at h1
  rw [meet_true (a := ⟨akd, acl, asq, aky, avl, arv⟩) (b := ⟨6, 0, 0, ⟨#[]⟩, ⟨#[]⟩, 0⟩) ha (by simp) (.inr (.inl rfl))] at h2
  rw [meet_true (a := ⟨6, 0, 0, ⟨#[]⟩, ⟨#[]⟩, 0⟩) (b := ⟨bkd, bcl, bsq, bky, bvl, brv⟩) (by simp) hb (.inl rfl)] at h3
  rw [show meet ⟨6, 0, 0, ⟨#[]⟩, ⟨#[]⟩, 0⟩ ⟨0, 0, 0, ⟨#[]⟩, ⟨#[]⟩, 0⟩ = false from rfl] at h4
  have hwm : writes akd = true → meet ⟨akd, acl, asq, aky, avl, arv⟩ ⟨bkd, bcl, bsq, aky, bvl, brv⟩ = true := fun h => meet_key ha hb h rfl
  generalize meet ⟨akd, acl, asq, aky, avl, arv⟩ ⟨bkd, bcl, bsq, aky, bvl, brv⟩ = m at h6 hwm
  generalize writes akd = r at h5 hwm
  have n1 : (akd == 0) = false := beq_false_of_ne ha
  have n2 : (bkd == 0) = false := beq_false_of_ne hb
  have H1 := Lib.hid h1
  have H2 := Lib.hid h2
  have H3 := Lib.hid h3
  have H4 := Lib.hid h4
  have H5 := Lib.hid h5
  have HWM := Lib.hid hwm
  obtain ⟨W, hW⟩ : ∃ W, ((((w.alloc (.cells #[.int .i64 akd, .int .i64 acl, .int .i64 asq, .string aky, .string avl, .int .i64 arv] 23)).alloc (.cells #[.int .i64 bkd, .int .i64 bcl, .int .i64 bsq, .string bky, .string bvl, .int .i64 brv] 23)).alloc (.cells #[.int .i64 akd, .int .i64 bcl, .int .i64 asq, .string aky, .string avl, .int .i64 arv] 23)).alloc (.cells #[.int .i64 6, .int .i64 0, .int .i64 0, .string ⟨#[]⟩, .string ⟨#[]⟩, .int .i64 0] 23)).alloc (.cells #[.int .i64 bkd, .int .i64 bcl, .int .i64 bsq, .string aky, .string bvl, .int .i64 brv] 23) = W := ⟨_, rfl⟩
  obtain ⟨k1, k2, k3, k4, k5, kb⟩ := five_boxes0 w 23 #[.int .i64 akd, .int .i64 acl, .int .i64 asq, .string aky, .string avl, .int .i64 arv] #[.int .i64 bkd, .int .i64 bcl, .int .i64 bsq, .string bky, .string bvl, .int .i64 brv] #[.int .i64 akd, .int .i64 bcl, .int .i64 asq, .string aky, .string avl, .int .i64 arv] #[.int .i64 6, .int .i64 0, .int .i64 0, .string ⟨#[]⟩, .string ⟨#[]⟩, .int .i64 0] #[.int .i64 bkd, .int .i64 bcl, .int .i64 bsq, .string aky, .string bvl, .int .i64 brv] W hW
  have HW := Lib.hid hW
  have HK1 := Lib.hid k1
  have HK2 := Lib.hid k2
  have HK3 := Lib.hid k3
  have HK4 := Lib.hid k4
  have HK5 := Lib.hid k5
  have HCU := Lib.hid kb
  have HKS := Lib.hid (And.intro (blk6 k1) (And.intro (blk6 k2) (And.intro (blk6 k3) (And.intro (blk6 k4) (blk6 k5)))))
  clear k1 k2 k3 k4 k5 kb hW h0 h1 h2 h3 h4 h5 hwm ha hb
  go_enter Try.func5, Try.ntmps5
  go_upto_region 9 with fail
  rw [HW.out]
  obtain ⟨⟨p0, p1, p2, p3, p4, p5⟩, ⟨q0, q1, q2, q3, q4, q5⟩, ⟨r0, r1, r2, r3, r4, r5⟩, ⟨s0, s1, s2, s3, s4, s5⟩, t0, t1, t2, t3, t4, t5⟩ := HKS.out
  cases r
  case false =>
    have H6 := Lib.hid h6
    clear h6
    go_wp2_with (first | (go_at_call 13; refine (H1.out _).mono ?_; rintro e w1 ⟨rfl, hb1⟩; have hks := (And.intro (HK1.out.bel hb1) (And.intro (HK2.out.bel hb1) (And.intro (HK3.out.bel hb1) (And.intro (HK4.out.bel hb1) (And.intro (HK5.out.bel hb1) (bel_trans HCU.out hb1))))));obtain ⟨p0, p1, p2, p3, p4, p5⟩ := blk6 hks.1; obtain ⟨q0, q1, q2, q3, q4, q5⟩ := blk6 hks.2.1; obtain ⟨r0, r1, r2, r3, r4, r5⟩ := blk6 hks.2.2.1; obtain ⟨s0, s1, s2, s3, s4, s5⟩ := blk6 hks.2.2.2.1; obtain ⟨t0, t1, t2, t3, t4, t5⟩ := blk6 hks.2.2.2.2.1; replace HK1 := Lib.hid hks.1; replace HK2 := Lib.hid hks.2.1; replace HK3 := Lib.hid hks.2.2.1; replace HK4 := Lib.hid hks.2.2.2.1; replace HK5 := Lib.hid hks.2.2.2.2.1; replace HCU := Lib.hid hks.2.2.2.2.2; clear H1 hb1 hks) | (go_at_call 13; refine (H2.out _).mono ?_; rintro e w1 ⟨rfl, hb1⟩; have hks := (And.intro (HK1.out.bel hb1) (And.intro (HK2.out.bel hb1) (And.intro (HK3.out.bel hb1) (And.intro (HK4.out.bel hb1) (And.intro (HK5.out.bel hb1) (bel_trans HCU.out hb1))))));obtain ⟨p0, p1, p2, p3, p4, p5⟩ := blk6 hks.1; obtain ⟨q0, q1, q2, q3, q4, q5⟩ := blk6 hks.2.1; obtain ⟨r0, r1, r2, r3, r4, r5⟩ := blk6 hks.2.2.1; obtain ⟨s0, s1, s2, s3, s4, s5⟩ := blk6 hks.2.2.2.1; obtain ⟨t0, t1, t2, t3, t4, t5⟩ := blk6 hks.2.2.2.2.1; replace HK1 := Lib.hid hks.1; replace HK2 := Lib.hid hks.2.1; replace HK3 := Lib.hid hks.2.2.1; replace HK4 := Lib.hid hks.2.2.2.1; replace HK5 := Lib.hid hks.2.2.2.2.1; replace HCU := Lib.hid hks.2.2.2.2.2; clear H2 hb1 hks) | (go_at_call 13; refine (H3.out _).mono ?_; rintro e w1 ⟨rfl, hb1⟩; have hks := (And.intro (HK1.out.bel hb1) (And.intro (HK2.out.bel hb1) (And.intro (HK3.out.bel hb1) (And.intro (HK4.out.bel hb1) (And.intro (HK5.out.bel hb1) (bel_trans HCU.out hb1))))));obtain ⟨p0, p1, p2, p3, p4, p5⟩ := blk6 hks.1; obtain ⟨q0, q1, q2, q3, q4, q5⟩ := blk6 hks.2.1; obtain ⟨r0, r1, r2, r3, r4, r5⟩ := blk6 hks.2.2.1; obtain ⟨s0, s1, s2, s3, s4, s5⟩ := blk6 hks.2.2.2.1; obtain ⟨t0, t1, t2, t3, t4, t5⟩ := blk6 hks.2.2.2.2.1; replace HK1 := Lib.hid hks.1; replace HK2 := Lib.hid hks.2.1; replace HK3 := Lib.hid hks.2.2.1; replace HK4 := Lib.hid hks.2.2.2.1; replace HK5 := Lib.hid hks.2.2.2.2.1; replace HCU := Lib.hid hks.2.2.2.2.2; clear H3 hb1 hks) | (go_at_call 13; refine (H4.out _).mono ?_; rintro e w1 ⟨rfl, hb1⟩; have hks := (And.intro (HK1.out.bel hb1) (And.intro (HK2.out.bel hb1) (And.intro (HK3.out.bel hb1) (And.intro (HK4.out.bel hb1) (And.intro (HK5.out.bel hb1) (bel_trans HCU.out hb1))))));obtain ⟨p0, p1, p2, p3, p4, p5⟩ := blk6 hks.1; obtain ⟨q0, q1, q2, q3, q4, q5⟩ := blk6 hks.2.1; obtain ⟨r0, r1, r2, r3, r4, r5⟩ := blk6 hks.2.2.1; obtain ⟨s0, s1, s2, s3, s4, s5⟩ := blk6 hks.2.2.2.1; obtain ⟨t0, t1, t2, t3, t4, t5⟩ := blk6 hks.2.2.2.2.1; replace HK1 := Lib.hid hks.1; replace HK2 := Lib.hid hks.2.1; replace HK3 := Lib.hid hks.2.2.1; replace HK4 := Lib.hid hks.2.2.2.1; replace HK5 := Lib.hid hks.2.2.2.2.1; replace HCU := Lib.hid hks.2.2.2.2.2; clear H4 hb1 hks) | (go_at_call 11; refine (H5.out _).mono ?_; rintro e w1 ⟨rfl, hb1⟩; have hks := (And.intro (HK1.out.bel hb1) (And.intro (HK2.out.bel hb1) (And.intro (HK3.out.bel hb1) (And.intro (HK4.out.bel hb1) (And.intro (HK5.out.bel hb1) (bel_trans HCU.out hb1))))));obtain ⟨p0, p1, p2, p3, p4, p5⟩ := blk6 hks.1; obtain ⟨q0, q1, q2, q3, q4, q5⟩ := blk6 hks.2.1; obtain ⟨r0, r1, r2, r3, r4, r5⟩ := blk6 hks.2.2.1; obtain ⟨s0, s1, s2, s3, s4, s5⟩ := blk6 hks.2.2.2.1; obtain ⟨t0, t1, t2, t3, t4, t5⟩ := blk6 hks.2.2.2.2.1; replace HK1 := Lib.hid hks.1; replace HK2 := Lib.hid hks.2.1; replace HK3 := Lib.hid hks.2.2.1; replace HK4 := Lib.hid hks.2.2.2.1; replace HK5 := Lib.hid hks.2.2.2.2.1; replace HCU := Lib.hid hks.2.2.2.2.2; clear H5 hb1 hks) | (go_at_call 13; refine (H6.out _).mono ?_; rintro e w1 ⟨rfl, hb1⟩; have hks := (And.intro (HK1.out.bel hb1) (And.intro (HK2.out.bel hb1) (And.intro (HK3.out.bel hb1) (And.intro (HK4.out.bel hb1) (And.intro (HK5.out.bel hb1) (bel_trans HCU.out hb1))))));obtain ⟨p0, p1, p2, p3, p4, p5⟩ := blk6 hks.1; obtain ⟨q0, q1, q2, q3, q4, q5⟩ := blk6 hks.2.1; obtain ⟨r0, r1, r2, r3, r4, r5⟩ := blk6 hks.2.2.1; obtain ⟨s0, s1, s2, s3, s4, s5⟩ := blk6 hks.2.2.2.1; obtain ⟨t0, t1, t2, t3, t4, t5⟩ := blk6 hks.2.2.2.2.1; replace HK1 := Lib.hid hks.1; replace HK2 := Lib.hid hks.2.1; replace HK3 := Lib.hid hks.2.2.1; replace HK4 := Lib.hid hks.2.2.2.1; replace HK5 := Lib.hid hks.2.2.2.2.1; replace HCU := Lib.hid hks.2.2.2.2.2; clear H6 hb1 hks) | (go_at_call 8; refine (HA.out _).mono ?_; rintro e w1 ⟨rfl, hb1⟩; have hks := (And.intro (HK1.out.bel hb1) (And.intro (HK2.out.bel hb1) (And.intro (HK3.out.bel hb1) (And.intro (HK4.out.bel hb1) (And.intro (HK5.out.bel hb1) (bel_trans HCU.out hb1))))));obtain ⟨p0, p1, p2, p3, p4, p5⟩ := blk6 hks.1; obtain ⟨q0, q1, q2, q3, q4, q5⟩ := blk6 hks.2.1; obtain ⟨r0, r1, r2, r3, r4, r5⟩ := blk6 hks.2.2.1; obtain ⟨s0, s1, s2, s3, s4, s5⟩ := blk6 hks.2.2.2.1; obtain ⟨t0, t1, t2, t3, t4, t5⟩ := blk6 hks.2.2.2.2.1; replace HK1 := Lib.hid hks.1; replace HK2 := Lib.hid hks.2.1; replace HK3 := Lib.hid hks.2.2.1; replace HK4 := Lib.hid hks.2.2.2.1; replace HK5 := Lib.hid hks.2.2.2.2.1; replace HCU := Lib.hid hks.2.2.2.2.2; clear HA hb1 hks))
    go_ret
    exact ⟨rfl, HCU.out⟩
  case true =>
    rw [HWM.out rfl] at h6
    have H6 := Lib.hid h6
    clear h6
    go_wp2_with (first | (go_at_call 13; refine (H1.out _).mono ?_; rintro e w1 ⟨rfl, hb1⟩; have hks := (And.intro (HK1.out.bel hb1) (And.intro (HK2.out.bel hb1) (And.intro (HK3.out.bel hb1) (And.intro (HK4.out.bel hb1) (And.intro (HK5.out.bel hb1) (bel_trans HCU.out hb1))))));obtain ⟨p0, p1, p2, p3, p4, p5⟩ := blk6 hks.1; obtain ⟨q0, q1, q2, q3, q4, q5⟩ := blk6 hks.2.1; obtain ⟨r0, r1, r2, r3, r4, r5⟩ := blk6 hks.2.2.1; obtain ⟨s0, s1, s2, s3, s4, s5⟩ := blk6 hks.2.2.2.1; obtain ⟨t0, t1, t2, t3, t4, t5⟩ := blk6 hks.2.2.2.2.1; replace HK1 := Lib.hid hks.1; replace HK2 := Lib.hid hks.2.1; replace HK3 := Lib.hid hks.2.2.1; replace HK4 := Lib.hid hks.2.2.2.1; replace HK5 := Lib.hid hks.2.2.2.2.1; replace HCU := Lib.hid hks.2.2.2.2.2; clear H1 hb1 hks) | (go_at_call 13; refine (H2.out _).mono ?_; rintro e w1 ⟨rfl, hb1⟩; have hks := (And.intro (HK1.out.bel hb1) (And.intro (HK2.out.bel hb1) (And.intro (HK3.out.bel hb1) (And.intro (HK4.out.bel hb1) (And.intro (HK5.out.bel hb1) (bel_trans HCU.out hb1))))));obtain ⟨p0, p1, p2, p3, p4, p5⟩ := blk6 hks.1; obtain ⟨q0, q1, q2, q3, q4, q5⟩ := blk6 hks.2.1; obtain ⟨r0, r1, r2, r3, r4, r5⟩ := blk6 hks.2.2.1; obtain ⟨s0, s1, s2, s3, s4, s5⟩ := blk6 hks.2.2.2.1; obtain ⟨t0, t1, t2, t3, t4, t5⟩ := blk6 hks.2.2.2.2.1; replace HK1 := Lib.hid hks.1; replace HK2 := Lib.hid hks.2.1; replace HK3 := Lib.hid hks.2.2.1; replace HK4 := Lib.hid hks.2.2.2.1; replace HK5 := Lib.hid hks.2.2.2.2.1; replace HCU := Lib.hid hks.2.2.2.2.2; clear H2 hb1 hks) | (go_at_call 13; refine (H3.out _).mono ?_; rintro e w1 ⟨rfl, hb1⟩; have hks := (And.intro (HK1.out.bel hb1) (And.intro (HK2.out.bel hb1) (And.intro (HK3.out.bel hb1) (And.intro (HK4.out.bel hb1) (And.intro (HK5.out.bel hb1) (bel_trans HCU.out hb1))))));obtain ⟨p0, p1, p2, p3, p4, p5⟩ := blk6 hks.1; obtain ⟨q0, q1, q2, q3, q4, q5⟩ := blk6 hks.2.1; obtain ⟨r0, r1, r2, r3, r4, r5⟩ := blk6 hks.2.2.1; obtain ⟨s0, s1, s2, s3, s4, s5⟩ := blk6 hks.2.2.2.1; obtain ⟨t0, t1, t2, t3, t4, t5⟩ := blk6 hks.2.2.2.2.1; replace HK1 := Lib.hid hks.1; replace HK2 := Lib.hid hks.2.1; replace HK3 := Lib.hid hks.2.2.1; replace HK4 := Lib.hid hks.2.2.2.1; replace HK5 := Lib.hid hks.2.2.2.2.1; replace HCU := Lib.hid hks.2.2.2.2.2; clear H3 hb1 hks) | (go_at_call 13; refine (H4.out _).mono ?_; rintro e w1 ⟨rfl, hb1⟩; have hks := (And.intro (HK1.out.bel hb1) (And.intro (HK2.out.bel hb1) (And.intro (HK3.out.bel hb1) (And.intro (HK4.out.bel hb1) (And.intro (HK5.out.bel hb1) (bel_trans HCU.out hb1))))));obtain ⟨p0, p1, p2, p3, p4, p5⟩ := blk6 hks.1; obtain ⟨q0, q1, q2, q3, q4, q5⟩ := blk6 hks.2.1; obtain ⟨r0, r1, r2, r3, r4, r5⟩ := blk6 hks.2.2.1; obtain ⟨s0, s1, s2, s3, s4, s5⟩ := blk6 hks.2.2.2.1; obtain ⟨t0, t1, t2, t3, t4, t5⟩ := blk6 hks.2.2.2.2.1; replace HK1 := Lib.hid hks.1; replace HK2 := Lib.hid hks.2.1; replace HK3 := Lib.hid hks.2.2.1; replace HK4 := Lib.hid hks.2.2.2.1; replace HK5 := Lib.hid hks.2.2.2.2.1; replace HCU := Lib.hid hks.2.2.2.2.2; clear H4 hb1 hks) | (go_at_call 11; refine (H5.out _).mono ?_; rintro e w1 ⟨rfl, hb1⟩; have hks := (And.intro (HK1.out.bel hb1) (And.intro (HK2.out.bel hb1) (And.intro (HK3.out.bel hb1) (And.intro (HK4.out.bel hb1) (And.intro (HK5.out.bel hb1) (bel_trans HCU.out hb1))))));obtain ⟨p0, p1, p2, p3, p4, p5⟩ := blk6 hks.1; obtain ⟨q0, q1, q2, q3, q4, q5⟩ := blk6 hks.2.1; obtain ⟨r0, r1, r2, r3, r4, r5⟩ := blk6 hks.2.2.1; obtain ⟨s0, s1, s2, s3, s4, s5⟩ := blk6 hks.2.2.2.1; obtain ⟨t0, t1, t2, t3, t4, t5⟩ := blk6 hks.2.2.2.2.1; replace HK1 := Lib.hid hks.1; replace HK2 := Lib.hid hks.2.1; replace HK3 := Lib.hid hks.2.2.1; replace HK4 := Lib.hid hks.2.2.2.1; replace HK5 := Lib.hid hks.2.2.2.2.1; replace HCU := Lib.hid hks.2.2.2.2.2; clear H5 hb1 hks) | (go_at_call 13; refine (H6.out _).mono ?_; rintro e w1 ⟨rfl, hb1⟩; have hks := (And.intro (HK1.out.bel hb1) (And.intro (HK2.out.bel hb1) (And.intro (HK3.out.bel hb1) (And.intro (HK4.out.bel hb1) (And.intro (HK5.out.bel hb1) (bel_trans HCU.out hb1))))));obtain ⟨p0, p1, p2, p3, p4, p5⟩ := blk6 hks.1; obtain ⟨q0, q1, q2, q3, q4, q5⟩ := blk6 hks.2.1; obtain ⟨r0, r1, r2, r3, r4, r5⟩ := blk6 hks.2.2.1; obtain ⟨s0, s1, s2, s3, s4, s5⟩ := blk6 hks.2.2.2.1; obtain ⟨t0, t1, t2, t3, t4, t5⟩ := blk6 hks.2.2.2.2.1; replace HK1 := Lib.hid hks.1; replace HK2 := Lib.hid hks.2.1; replace HK3 := Lib.hid hks.2.2.1; replace HK4 := Lib.hid hks.2.2.2.1; replace HK5 := Lib.hid hks.2.2.2.2.1; replace HCU := Lib.hid hks.2.2.2.2.2; clear H6 hb1 hks) | (go_at_call 8; refine (HA.out _).mono ?_; rintro e w1 ⟨rfl, hb1⟩; have hks := (And.intro (HK1.out.bel hb1) (And.intro (HK2.out.bel hb1) (And.intro (HK3.out.bel hb1) (And.intro (HK4.out.bel hb1) (And.intro (HK5.out.bel hb1) (bel_trans HCU.out hb1))))));obtain ⟨p0, p1, p2, p3, p4, p5⟩ := blk6 hks.1; obtain ⟨q0, q1, q2, q3, q4, q5⟩ := blk6 hks.2.1; obtain ⟨r0, r1, r2, r3, r4, r5⟩ := blk6 hks.2.2.1; obtain ⟨s0, s1, s2, s3, s4, s5⟩ := blk6 hks.2.2.2.1; obtain ⟨t0, t1, t2, t3, t4, t5⟩ := blk6 hks.2.2.2.2.1; replace HK1 := Lib.hid hks.1; replace HK2 := Lib.hid hks.2.1; replace HK3 := Lib.hid hks.2.2.1; replace HK4 := Lib.hid hks.2.2.2.1; replace HK5 := Lib.hid hks.2.2.2.2.1; replace HCU := Lib.hid hks.2.2.2.2.2; clear HA hb1 hks))
    go_ret
    exact ⟨rfl, HCU.out⟩
end Go.Proofs.Ytiiaealbkimlfaa
