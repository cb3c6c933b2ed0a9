/-
  The document's examples: awake answers true, whenever it is asked.
-/
import Derived.Test.YtiiaealbkimlfaaCmdCheck
import Derived.BigRegion
import Derived.Deep.Cut
namespace Go.Proofs.Ytiiaealbkimlfaa
open Go.RowKit Mem Run Cmd


theorem aw1 : meet ⟨1, 1, 1, ⟨#[97]⟩, ⟨#[]⟩, 0⟩ ⟨1, 2, 1, ⟨#[97]⟩, ⟨#[]⟩, 0⟩ = false := by decide +kernel
theorem aw2 : meet ⟨1, 1, 1, ⟨#[97]⟩, ⟨#[]⟩, 0⟩ ⟨2, 2, 1, ⟨#[97]⟩, ⟨#[]⟩, 0⟩ = true := by decide +kernel
theorem aw3 : meet ⟨5, 3, 1, ⟨#[97]⟩, ⟨#[]⟩, 0⟩ ⟨2, 2, 1, ⟨#[97, 98]⟩, ⟨#[]⟩, 0⟩ = true := by decide +kernel
theorem aw4 : chk ⟨1, 1, 1, ⟨#[97]⟩, ⟨#[]⟩, 0⟩ = 0 := by decide +kernel
theorem aw5 : chk ⟨7, 0, 0, ⟨#[]⟩, ⟨#[]⟩, 0⟩ = 4 := by decide +kernel

/-- Five boxes just made. -/
theorem five_boxes0 (w : World) (t : TypeId) (a b c d e : Array Value) (W : World) (hW : (((((w.alloc (.cells a t)).alloc (.cells b t)).alloc (.cells c t)).alloc (.cells d t)).alloc (.cells e t)) = W) :
    Blk W w.heap.size t a ∧ Blk W (w.heap.size + 1) t b ∧ Blk W (w.heap.size + 2) t c ∧ Blk W (w.heap.size + 3) t d ∧ Blk W (w.heap.size + 4) t e ∧ Below w.heap.size w W := by
  subst hW
  have s1 := size_alloc w (.cells a t)
  have s2 := size_alloc (w.alloc (.cells a t)) (.cells b t)
  have s3 := size_alloc ((w.alloc (.cells a t)).alloc (.cells b t)) (.cells c t)
  have s4 := size_alloc (((w.alloc (.cells a t)).alloc (.cells b t)).alloc (.cells c t)) (.cells d t)
  have k1 := Blk.new w t a
  have k2 := Blk.new (w.alloc (.cells a t)) t b
  have k3 := Blk.new ((w.alloc (.cells a t)).alloc (.cells b t)) t c
  have k4 := Blk.new (((w.alloc (.cells a t)).alloc (.cells b t)).alloc (.cells c t)) t d
  have k5 := Blk.new ((((w.alloc (.cells a t)).alloc (.cells b t)).alloc (.cells c t)).alloc (.cells d t)) t e
  rw [s1] at k2
  rw [show ((w.alloc (.cells a t)).alloc (.cells b t)).heap.size = w.heap.size + 2 by omega] at k3
  rw [show (((w.alloc (.cells a t)).alloc (.cells b t)).alloc (.cells c t)).heap.size = w.heap.size + 3 by omega] at k4
  rw [show ((((w.alloc (.cells a t)).alloc (.cells b t)).alloc (.cells c t)).alloc (.cells d t)).heap.size = w.heap.size + 4 by omega] at k5
  exact ⟨(((k1.alloc _).alloc _).alloc _).alloc _, ((k2.alloc _).alloc _).alloc _, (k3.alloc _).alloc _, k4.alloc _, k5,
    (((((Below.refl w.heap.size w).alloc (Nat.le_refl _) _).alloc (by omega) _).alloc (by omega) _).alloc (by omega) _ |>.alloc (by omega) _)⟩
theorem five_boxes (w : World) (t : TypeId) (a b c d e : Array Value) (W : World) (hW : (((((w.alloc (.cells a t)).alloc (.cells b t)).alloc (.cells c t)).alloc (.cells d t)).alloc (.cells e t)).drew = W) :
    Blk W w.heap.size t a ∧ Blk W (w.heap.size + 1) t b ∧ Blk W (w.heap.size + 2) t c ∧ Blk W (w.heap.size + 3) t d ∧ Blk W (w.heap.size + 4) t e ∧ Below w.heap.size w W := by
  subst hW
  obtain ⟨h1, h2, h3, h4, h5, h6⟩ := five_boxes0 w t a b c d e _ rfl
  exact ⟨h1.drew, h2.drew, h3.drew, h4.drew, h5.drew, h6.drew⟩


set_option maxHeartbeats 4000000 in
theorem awake_any (w : World) : Calls Try.prog 8 #[] w (Tells true w) := by
  have h1 := fun w => meet_any 1 1 1 ⟨#[97]⟩ ⟨#[]⟩ 0 1 2 1 ⟨#[97]⟩ ⟨#[]⟩ 0 w
  have h2 := fun w => meet_any 1 1 1 ⟨#[97]⟩ ⟨#[]⟩ 0 2 2 1 ⟨#[97]⟩ ⟨#[]⟩ 0 w
  have h3 := fun w => meet_any 5 3 1 ⟨#[97]⟩ ⟨#[]⟩ 0 2 2 1 ⟨#[97, 98]⟩ ⟨#[]⟩ 0 w
  have h4 := fun w => check_any 1 1 1 ⟨#[97]⟩ ⟨#[]⟩ 0 w
  have h5 := fun w => check_any 7 0 0 ⟨#[]⟩ ⟨#[]⟩ 0 w
  rw [aw1] at h1
  rw [aw2] at h2
  rw [aw3] at h3
  rw [aw4] at h4
  rw [aw5] at h5
  have H1 := Lib.hid h1
  have H2 := Lib.hid h2
  have H3 := Lib.hid h3
  have H4 := Lib.hid h4
  have H5 := Lib.hid h5
  clear h1 h2 h3 h4 h5
  go_enter Try.func8, Try.ntmps8
  go_upto_region 2 with fail
  go_region
  · go_upto_region 8 with fail
    obtain ⟨W, hW⟩ : ∃ W, (((((w.alloc (.cells #[.int .i64 1, .int .i64 1, .int .i64 1, .string ⟨#[97]⟩, .string ⟨#[]⟩, .int .i64 0] 23)).alloc (.cells #[.int .i64 1, .int .i64 2, .int .i64 1, .string ⟨#[97]⟩, .string ⟨#[]⟩, .int .i64 0] 23)).alloc (.cells #[.int .i64 2, .int .i64 2, .int .i64 1, .string ⟨#[97]⟩, .string ⟨#[]⟩, .int .i64 0] 23)).alloc (.cells #[.int .i64 5, .int .i64 3, .int .i64 1, .string ⟨#[97]⟩, .string ⟨#[]⟩, .int .i64 0] 23)).alloc (.cells #[.int .i64 2, .int .i64 2, .int .i64 1, .string ⟨#[97, 98]⟩, .string ⟨#[]⟩, .int .i64 0] 23)).drew = W := ⟨_, rfl⟩
    obtain ⟨k1, k2, k3, k4, k5, kb⟩ := five_boxes w 23 #[.int .i64 1, .int .i64 1, .int .i64 1, .string ⟨#[97]⟩, .string ⟨#[]⟩, .int .i64 0] #[.int .i64 1, .int .i64 2, .int .i64 1, .string ⟨#[97]⟩, .string ⟨#[]⟩, .int .i64 0] #[.int .i64 2, .int .i64 2, .int .i64 1, .string ⟨#[97]⟩, .string ⟨#[]⟩, .int .i64 0] #[.int .i64 5, .int .i64 3, .int .i64 1, .string ⟨#[97]⟩, .string ⟨#[]⟩, .int .i64 0] #[.int .i64 2, .int .i64 2, .int .i64 1, .string ⟨#[97, 98]⟩, .string ⟨#[]⟩, .int .i64 0] W hW
    rw [hW]
    obtain ⟨p0, p1, p2, p3, p4, p5⟩ := blk6 k1
    obtain ⟨q0, q1, q2, q3, q4, q5⟩ := blk6 k2
    obtain ⟨r0, r1, r2, r3, r4, r5⟩ := blk6 k3
    obtain ⟨s0, s1, s2, s3, s4, s5⟩ := blk6 k4
    obtain ⟨t0, t1, t2, t3, t4, t5⟩ := blk6 k5
    have HK1 := Lib.hid k1
    have HK2 := Lib.hid k2
    have HK3 := Lib.hid k3
    have HK4 := Lib.hid k4
    have HK5 := Lib.hid k5
    have HCU := Lib.hid kb
    clear k1 k2 k3 k4 k5 kb hW
    go_wp2_with (first | (go_at_call 13; refine (H1.out _).mono ?_; rintro e w1 ⟨rfl, hb1⟩; have hks := (And.intro (HK1.out.bel hb1) (And.intro (HK2.out.bel hb1) (And.intro (HK3.out.bel hb1) (And.intro (HK4.out.bel hb1) (And.intro (HK5.out.bel hb1) (bel_trans HCU.out hb1))))));obtain ⟨p0, p1, p2, p3, p4, p5⟩ := blk6 hks.1; obtain ⟨q0, q1, q2, q3, q4, q5⟩ := blk6 hks.2.1; obtain ⟨r0, r1, r2, r3, r4, r5⟩ := blk6 hks.2.2.1; obtain ⟨s0, s1, s2, s3, s4, s5⟩ := blk6 hks.2.2.2.1; obtain ⟨t0, t1, t2, t3, t4, t5⟩ := blk6 hks.2.2.2.2.1; replace HK1 := Lib.hid hks.1; replace HK2 := Lib.hid hks.2.1; replace HK3 := Lib.hid hks.2.2.1; replace HK4 := Lib.hid hks.2.2.2.1; replace HK5 := Lib.hid hks.2.2.2.2.1; replace HCU := Lib.hid hks.2.2.2.2.2; clear H1 hb1 hks) | (go_at_call 13; refine (H2.out _).mono ?_; rintro e w1 ⟨rfl, hb1⟩; have hks := (And.intro (HK1.out.bel hb1) (And.intro (HK2.out.bel hb1) (And.intro (HK3.out.bel hb1) (And.intro (HK4.out.bel hb1) (And.intro (HK5.out.bel hb1) (bel_trans HCU.out hb1))))));obtain ⟨p0, p1, p2, p3, p4, p5⟩ := blk6 hks.1; obtain ⟨q0, q1, q2, q3, q4, q5⟩ := blk6 hks.2.1; obtain ⟨r0, r1, r2, r3, r4, r5⟩ := blk6 hks.2.2.1; obtain ⟨s0, s1, s2, s3, s4, s5⟩ := blk6 hks.2.2.2.1; obtain ⟨t0, t1, t2, t3, t4, t5⟩ := blk6 hks.2.2.2.2.1; replace HK1 := Lib.hid hks.1; replace HK2 := Lib.hid hks.2.1; replace HK3 := Lib.hid hks.2.2.1; replace HK4 := Lib.hid hks.2.2.2.1; replace HK5 := Lib.hid hks.2.2.2.2.1; replace HCU := Lib.hid hks.2.2.2.2.2; clear H2 hb1 hks) | (go_at_call 13; refine (H3.out _).mono ?_; rintro e w1 ⟨rfl, hb1⟩; have hks := (And.intro (HK1.out.bel hb1) (And.intro (HK2.out.bel hb1) (And.intro (HK3.out.bel hb1) (And.intro (HK4.out.bel hb1) (And.intro (HK5.out.bel hb1) (bel_trans HCU.out hb1))))));obtain ⟨p0, p1, p2, p3, p4, p5⟩ := blk6 hks.1; obtain ⟨q0, q1, q2, q3, q4, q5⟩ := blk6 hks.2.1; obtain ⟨r0, r1, r2, r3, r4, r5⟩ := blk6 hks.2.2.1; obtain ⟨s0, s1, s2, s3, s4, s5⟩ := blk6 hks.2.2.2.1; obtain ⟨t0, t1, t2, t3, t4, t5⟩ := blk6 hks.2.2.2.2.1; replace HK1 := Lib.hid hks.1; replace HK2 := Lib.hid hks.2.1; replace HK3 := Lib.hid hks.2.2.1; replace HK4 := Lib.hid hks.2.2.2.1; replace HK5 := Lib.hid hks.2.2.2.2.1; replace HCU := Lib.hid hks.2.2.2.2.2; clear H3 hb1 hks) | (go_at_call 9; refine (H4.out _).mono ?_; rintro e w1 ⟨rfl, hb1⟩; have hks := (And.intro (HK1.out.bel hb1) (And.intro (HK2.out.bel hb1) (And.intro (HK3.out.bel hb1) (And.intro (HK4.out.bel hb1) (And.intro (HK5.out.bel hb1) (bel_trans HCU.out hb1))))));obtain ⟨p0, p1, p2, p3, p4, p5⟩ := blk6 hks.1; obtain ⟨q0, q1, q2, q3, q4, q5⟩ := blk6 hks.2.1; obtain ⟨r0, r1, r2, r3, r4, r5⟩ := blk6 hks.2.2.1; obtain ⟨s0, s1, s2, s3, s4, s5⟩ := blk6 hks.2.2.2.1; obtain ⟨t0, t1, t2, t3, t4, t5⟩ := blk6 hks.2.2.2.2.1; replace HK1 := Lib.hid hks.1; replace HK2 := Lib.hid hks.2.1; replace HK3 := Lib.hid hks.2.2.1; replace HK4 := Lib.hid hks.2.2.2.1; replace HK5 := Lib.hid hks.2.2.2.2.1; replace HCU := Lib.hid hks.2.2.2.2.2; clear H4 hb1 hks) | (go_at_call 9; refine (H5.out _).mono ?_; rintro e w1 ⟨rfl, hb1⟩; have hks := (And.intro (HK1.out.bel hb1) (And.intro (HK2.out.bel hb1) (And.intro (HK3.out.bel hb1) (And.intro (HK4.out.bel hb1) (And.intro (HK5.out.bel hb1) (bel_trans HCU.out hb1))))));obtain ⟨p0, p1, p2, p3, p4, p5⟩ := blk6 hks.1; obtain ⟨q0, q1, q2, q3, q4, q5⟩ := blk6 hks.2.1; obtain ⟨r0, r1, r2, r3, r4, r5⟩ := blk6 hks.2.2.1; obtain ⟨s0, s1, s2, s3, s4, s5⟩ := blk6 hks.2.2.2.1; obtain ⟨t0, t1, t2, t3, t4, t5⟩ := blk6 hks.2.2.2.2.1; replace HK1 := Lib.hid hks.1; replace HK2 := Lib.hid hks.2.1; replace HK3 := Lib.hid hks.2.2.1; replace HK4 := Lib.hid hks.2.2.2.1; replace HK5 := Lib.hid hks.2.2.2.2.1; replace HCU := Lib.hid hks.2.2.2.2.2; clear H5 hb1 hks))
    go_ret
    exact ⟨rfl, HCU.out⟩
  · go_upto_region 8 with fail
    obtain ⟨W, hW⟩ : ∃ W, (((((w.alloc (.cells #[.int .i64 1, .int .i64 1, .int .i64 1, .string ⟨#[97]⟩, .string ⟨#[]⟩, .int .i64 0] 23)).alloc (.cells #[.int .i64 2, .int .i64 2, .int .i64 1, .string ⟨#[97]⟩, .string ⟨#[]⟩, .int .i64 0] 23)).alloc (.cells #[.int .i64 1, .int .i64 2, .int .i64 1, .string ⟨#[97]⟩, .string ⟨#[]⟩, .int .i64 0] 23)).alloc (.cells #[.int .i64 5, .int .i64 3, .int .i64 1, .string ⟨#[97]⟩, .string ⟨#[]⟩, .int .i64 0] 23)).alloc (.cells #[.int .i64 2, .int .i64 2, .int .i64 1, .string ⟨#[97, 98]⟩, .string ⟨#[]⟩, .int .i64 0] 23)).drew = W := ⟨_, rfl⟩
    obtain ⟨k1, k2, k3, k4, k5, kb⟩ := five_boxes w 23 #[.int .i64 1, .int .i64 1, .int .i64 1, .string ⟨#[97]⟩, .string ⟨#[]⟩, .int .i64 0] #[.int .i64 2, .int .i64 2, .int .i64 1, .string ⟨#[97]⟩, .string ⟨#[]⟩, .int .i64 0] #[.int .i64 1, .int .i64 2, .int .i64 1, .string ⟨#[97]⟩, .string ⟨#[]⟩, .int .i64 0] #[.int .i64 5, .int .i64 3, .int .i64 1, .string ⟨#[97]⟩, .string ⟨#[]⟩, .int .i64 0] #[.int .i64 2, .int .i64 2, .int .i64 1, .string ⟨#[97, 98]⟩, .string ⟨#[]⟩, .int .i64 0] W hW
    rw [hW]
    obtain ⟨p0, p1, p2, p3, p4, p5⟩ := blk6 k1
    obtain ⟨q0, q1, q2, q3, q4, q5⟩ := blk6 k2
    obtain ⟨r0, r1, r2, r3, r4, r5⟩ := blk6 k3
    obtain ⟨s0, s1, s2, s3, s4, s5⟩ := blk6 k4
    obtain ⟨t0, t1, t2, t3, t4, t5⟩ := blk6 k5
    have HK1 := Lib.hid k1
    have HK2 := Lib.hid k2
    have HK3 := Lib.hid k3
    have HK4 := Lib.hid k4
    have HK5 := Lib.hid k5
    have HCU := Lib.hid kb
    clear k1 k2 k3 k4 k5 kb hW
    go_wp2_with (first | (go_at_call 13; refine (H1.out _).mono ?_; rintro e w1 ⟨rfl, hb1⟩; have hks := (And.intro (HK1.out.bel hb1) (And.intro (HK2.out.bel hb1) (And.intro (HK3.out.bel hb1) (And.intro (HK4.out.bel hb1) (And.intro (HK5.out.bel hb1) (bel_trans HCU.out hb1))))));obtain ⟨p0, p1, p2, p3, p4, p5⟩ := blk6 hks.1; obtain ⟨q0, q1, q2, q3, q4, q5⟩ := blk6 hks.2.1; obtain ⟨r0, r1, r2, r3, r4, r5⟩ := blk6 hks.2.2.1; obtain ⟨s0, s1, s2, s3, s4, s5⟩ := blk6 hks.2.2.2.1; obtain ⟨t0, t1, t2, t3, t4, t5⟩ := blk6 hks.2.2.2.2.1; replace HK1 := Lib.hid hks.1; replace HK2 := Lib.hid hks.2.1; replace HK3 := Lib.hid hks.2.2.1; replace HK4 := Lib.hid hks.2.2.2.1; replace HK5 := Lib.hid hks.2.2.2.2.1; replace HCU := Lib.hid hks.2.2.2.2.2; clear H1 hb1 hks) | (go_at_call 13; refine (H2.out _).mono ?_; rintro e w1 ⟨rfl, hb1⟩; have hks := (And.intro (HK1.out.bel hb1) (And.intro (HK2.out.bel hb1) (And.intro (HK3.out.bel hb1) (And.intro (HK4.out.bel hb1) (And.intro (HK5.out.bel hb1) (bel_trans HCU.out hb1))))));obtain ⟨p0, p1, p2, p3, p4, p5⟩ := blk6 hks.1; obtain ⟨q0, q1, q2, q3, q4, q5⟩ := blk6 hks.2.1; obtain ⟨r0, r1, r2, r3, r4, r5⟩ := blk6 hks.2.2.1; obtain ⟨s0, s1, s2, s3, s4, s5⟩ := blk6 hks.2.2.2.1; obtain ⟨t0, t1, t2, t3, t4, t5⟩ := blk6 hks.2.2.2.2.1; replace HK1 := Lib.hid hks.1; replace HK2 := Lib.hid hks.2.1; replace HK3 := Lib.hid hks.2.2.1; replace HK4 := Lib.hid hks.2.2.2.1; replace HK5 := Lib.hid hks.2.2.2.2.1; replace HCU := Lib.hid hks.2.2.2.2.2; clear H2 hb1 hks) | (go_at_call 13; refine (H3.out _).mono ?_; rintro e w1 ⟨rfl, hb1⟩; have hks := (And.intro (HK1.out.bel hb1) (And.intro (HK2.out.bel hb1) (And.intro (HK3.out.bel hb1) (And.intro (HK4.out.bel hb1) (And.intro (HK5.out.bel hb1) (bel_trans HCU.out hb1))))));obtain ⟨p0, p1, p2, p3, p4, p5⟩ := blk6 hks.1; obtain ⟨q0, q1, q2, q3, q4, q5⟩ := blk6 hks.2.1; obtain ⟨r0, r1, r2, r3, r4, r5⟩ := blk6 hks.2.2.1; obtain ⟨s0, s1, s2, s3, s4, s5⟩ := blk6 hks.2.2.2.1; obtain ⟨t0, t1, t2, t3, t4, t5⟩ := blk6 hks.2.2.2.2.1; replace HK1 := Lib.hid hks.1; replace HK2 := Lib.hid hks.2.1; replace HK3 := Lib.hid hks.2.2.1; replace HK4 := Lib.hid hks.2.2.2.1; replace HK5 := Lib.hid hks.2.2.2.2.1; replace HCU := Lib.hid hks.2.2.2.2.2; clear H3 hb1 hks) | (go_at_call 9; refine (H4.out _).mono ?_; rintro e w1 ⟨rfl, hb1⟩; have hks := (And.intro (HK1.out.bel hb1) (And.intro (HK2.out.bel hb1) (And.intro (HK3.out.bel hb1) (And.intro (HK4.out.bel hb1) (And.intro (HK5.out.bel hb1) (bel_trans HCU.out hb1))))));obtain ⟨p0, p1, p2, p3, p4, p5⟩ := blk6 hks.1; obtain ⟨q0, q1, q2, q3, q4, q5⟩ := blk6 hks.2.1; obtain ⟨r0, r1, r2, r3, r4, r5⟩ := blk6 hks.2.2.1; obtain ⟨s0, s1, s2, s3, s4, s5⟩ := blk6 hks.2.2.2.1; obtain ⟨t0, t1, t2, t3, t4, t5⟩ := blk6 hks.2.2.2.2.1; replace HK1 := Lib.hid hks.1; replace HK2 := Lib.hid hks.2.1; replace HK3 := Lib.hid hks.2.2.1; replace HK4 := Lib.hid hks.2.2.2.1; replace HK5 := Lib.hid hks.2.2.2.2.1; replace HCU := Lib.hid hks.2.2.2.2.2; clear H4 hb1 hks) | (go_at_call 9; refine (H5.out _).mono ?_; rintro e w1 ⟨rfl, hb1⟩; have hks := (And.intro (HK1.out.bel hb1) (And.intro (HK2.out.bel hb1) (And.intro (HK3.out.bel hb1) (And.intro (HK4.out.bel hb1) (And.intro (HK5.out.bel hb1) (bel_trans HCU.out hb1))))));obtain ⟨p0, p1, p2, p3, p4, p5⟩ := blk6 hks.1; obtain ⟨q0, q1, q2, q3, q4, q5⟩ := blk6 hks.2.1; obtain ⟨r0, r1, r2, r3, r4, r5⟩ := blk6 hks.2.2.1; obtain ⟨s0, s1, s2, s3, s4, s5⟩ := blk6 hks.2.2.2.1; obtain ⟨t0, t1, t2, t3, t4, t5⟩ := blk6 hks.2.2.2.2.1; replace HK1 := Lib.hid hks.1; replace HK2 := Lib.hid hks.2.1; replace HK3 := Lib.hid hks.2.2.1; replace HK4 := Lib.hid hks.2.2.2.1; replace HK5 := Lib.hid hks.2.2.2.2.1; replace HCU := Lib.hid hks.2.2.2.2.2; clear H5 hb1 hks))
    go_ret
    exact ⟨rfl, HCU.out⟩
end Go.Proofs.Ytiiaealbkimlfaa
