/-
  Texts of earlier layers, as one.
-/
import Derived.Test.YtlcggldcofncgaaIdxAwake
/- The law of two commands in an index. -/
namespace Go.Proofs.Ytlcggldcofncgaa.Ix
open Go.RowKit Mem Dsk Cmd Ids Ky

theorem one_met (E : En) (c : Cm) (but : Int × Int) : metE [E] c but = if (!decide (E.i = but) && meet c E.c) = true then [E] else [] := by
  unfold metE
  rw [List.filter_cons]
  have : (decide (E.i ≠ but) && meet c E.c) = (!decide (E.i = but) && meet c E.c) := by simp
  rw [this]
  simp
set_option maxRecDepth 20000 in
set_option maxHeartbeats 16000000 in
theorem indexmeets_true (a b : Int × Int) (c d : Cm) (s : Int) (w : World) (ha : Wf a) (hcc : (Lit.int .i64 c.cl).wf = true) (hdc : (Lit.int .i64 d.cl).wf = true) :
    Calls Try.prog 4 #[.agg #[.int .i64 a.1, .int .i64 a.2], .agg #[.int .i64 b.1, .int .i64 b.2], cmV c, cmV d, .int .i64 s] w (Tells true w) := by
  obtain ⟨a1, a2⟩ := a
  obtain ⟨b1, b2⟩ := b
  have hmt := fun u => Cw.meet_any c.kd c.cl c.sq c.ky c.vl c.rv d.kd d.cl d.sq d.ky d.vl d.rv u
  have hg1 := fun u => Cw.great_any c.kd c.cl c.sq c.ky c.vl c.rv u
  have hg2 := fun u => Cw.great_any d.kd d.cl d.sq d.ky d.vl d.rv u
  obtain ⟨C, hC⟩ : ∃ C, c = C := ⟨_, rfl⟩
  obtain ⟨D, hD⟩ : ∃ D, d = D := ⟨_, rfl⟩
  obtain ⟨ckd, ccl, csq, cky, cvl, crv⟩ := c
  obtain ⟨dkd, dcl, dsq, dky, dvl, drv⟩ := d
  simp only at hmt hg1 hg2
  have HCE := Lib.hid hC
  have HDE := Lib.hid hD
  obtain ⟨W, hW⟩ : ∃ v, (((w.alloc (.cells #[.int .i64 a1, .int .i64 a2] 26)).alloc (.cells #[.int .i64 b1, .int .i64 b2] 26)).alloc (.cells #[.int .i64 ckd, .int .i64 ccl, .int .i64 csq, .string cky, .string cvl, .int .i64 crv] 24)).alloc (.cells #[.int .i64 dkd, .int .i64 dcl, .int .i64 dsq, .string dky, .string dvl, .int .i64 drv] 24) = v := ⟨_, rfl⟩
  have hb1 : Below w.heap.size w W := by rw [← hW]; exact bel_alloc (bel_alloc (bel_alloc (bel_alloc (Below.refl _ _) _) _) _) _
  have hxa : Blk W w.heap.size 26 #[.int .i64 a1, .int .i64 a2] := by rw [← hW]; exact (((Blk.new w 26 #[.int .i64 a1, .int .i64 a2]).alloc _).alloc _).alloc _
  have hxb : Blk W (w.heap.size + 1) 26 #[.int .i64 b1, .int .i64 b2] := by
    rw [← hW]
    have := Blk.new (w.alloc (.cells #[.int .i64 a1, .int .i64 a2] 26)) 26 #[.int .i64 b1, .int .i64 b2]
    rw [size_alloc] at this
    exact (this.alloc _).alloc _
  have hxc : Blk W (w.heap.size + 2) 24 #[.int .i64 ckd, .int .i64 ccl, .int .i64 csq, .string cky, .string cvl, .int .i64 crv] := by
    rw [← hW]
    have := Blk.new ((w.alloc (.cells #[.int .i64 a1, .int .i64 a2] 26)).alloc (.cells #[.int .i64 b1, .int .i64 b2] 26)) 24 #[.int .i64 ckd, .int .i64 ccl, .int .i64 csq, .string cky, .string cvl, .int .i64 crv]
    rw [size_alloc, size_alloc] at this
    exact this.alloc _
  have hxd : Blk W (w.heap.size + 3) 24 #[.int .i64 dkd, .int .i64 dcl, .int .i64 dsq, .string dky, .string dvl, .int .i64 drv] := by
    rw [← hW]
    have := Blk.new (((w.alloc (.cells #[.int .i64 a1, .int .i64 a2] 26)).alloc (.cells #[.int .i64 b1, .int .i64 b2] 26)).alloc (.cells #[.int .i64 ckd, .int .i64 ccl, .int .i64 csq, .string cky, .string cvl, .int .i64 crv] 24)) 24 #[.int .i64 dkd, .int .i64 dcl, .int .i64 dsq, .string dky, .string dvl, .int .i64 drv]
    rw [size_alloc, size_alloc, size_alloc] at this
    exact this
  have hcells : ∀ u, Below W.heap.size W u → u.cell? ⟨w.heap.size, 0, none⟩ = some (.int .i64 a1) ∧ u.cell? ⟨w.heap.size, 1, none⟩ = some (.int .i64 a2) ∧ u.cell? ⟨w.heap.size + 1, 0, none⟩ = some (.int .i64 b1) ∧ u.cell? ⟨w.heap.size + 1, 1, none⟩ = some (.int .i64 b2) ∧
      u.cell? ⟨w.heap.size + 2, 0, none⟩ = some (.int .i64 ckd) ∧ u.cell? ⟨w.heap.size + 2, 1, none⟩ = some (.int .i64 ccl) ∧ u.cell? ⟨w.heap.size + 2, 2, none⟩ = some (.int .i64 csq) ∧ u.cell? ⟨w.heap.size + 2, 3, none⟩ = some (.string cky) ∧ u.cell? ⟨w.heap.size + 2, 4, none⟩ = some (.string cvl) ∧ u.cell? ⟨w.heap.size + 2, 5, none⟩ = some (.int .i64 crv) ∧
      u.cell? ⟨w.heap.size + 3, 0, none⟩ = some (.int .i64 dkd) ∧ u.cell? ⟨w.heap.size + 3, 1, none⟩ = some (.int .i64 dcl) ∧ u.cell? ⟨w.heap.size + 3, 2, none⟩ = some (.int .i64 dsq) ∧ u.cell? ⟨w.heap.size + 3, 3, none⟩ = some (.string dky) ∧ u.cell? ⟨w.heap.size + 3, 4, none⟩ = some (.string dvl) ∧ u.cell? ⟨w.heap.size + 3, 5, none⟩ = some (.int .i64 drv) := fun u hu =>
    ⟨(hxa.bel hu).cell 0, (hxa.bel hu).cell 1, (hxb.bel hu).cell 0, (hxb.bel hu).cell 1, (hxc.bel hu).cell 0, (hxc.bel hu).cell 1, (hxc.bel hu).cell 2, (hxc.bel hu).cell 3, (hxc.bel hu).cell 4, (hxc.bel hu).cell 5, (hxd.bel hu).cell 0, (hxd.bel hu).cell 1, (hxd.bel hu).cell 2, (hxd.bel hu).cell 3, (hxd.bel hu).cell 4, (hxd.bel hu).cell 5⟩
  have HC := Lib.hid hcells
  have HXA := Lib.hid hxa
  have HXB := Lib.hid hxb
  have HXD := Lib.hid hxd
  have HB := Lib.hid hb1
  have HW := Lib.hid hW
  have HU0 := Lib.hid (Below.refl W.heap.size W)
  have HAW := Lib.hid (fun u => index_awake u)
  obtain ⟨q1, hq1⟩ : ∃ q, great (⟨ckd, ccl, csq, cky, cvl, crv⟩ : Cm) = q := ⟨_, rfl⟩
  obtain ⟨q2, hq2⟩ : ∃ q, great (⟨dkd, dcl, dsq, dky, dvl, drv⟩ : Cm) = q := ⟨_, rfl⟩
  rw [hq1] at hg1
  rw [hq2] at hg2
  have HG1 := Lib.hid hg1
  have HG2 := Lib.hid hg2
  obtain ⟨q3, hq3⟩ : ∃ q, decide ((a1, a2) = (b1, b2)) = q := ⟨_, rfl⟩
  have heq := eql_id (a1, a2) (b1, b2)
  rw [hq3] at heq
  simp only at heq
  have HMT := Lib.hid hmt
  have HP := Lib.hid (And.intro ha (And.intro hcc hdc))
  have HQ := Lib.hid (And.intro hq1 (And.intro hq2 hq3))
  obtain ⟨pa0, pa1, pb0, pb1, pc0, pc1, pc2, pc3, pc4, pc5, pd0, pd1, pd2, pd3, pd4, pd5⟩ := HC.out _ (Below.refl _ _)
  clear hcells hxa hxb hxc hxd hb1 hW hg1 hg2 hq1 hq2 hq3 hmt ha hcc hdc hC hD
  show Calls Try.prog 4 #[.agg #[.int .i64 a1, .int .i64 a2], .agg #[.int .i64 b1, .int .i64 b2], .agg #[.int .i64 ckd, .int .i64 ccl, .int .i64 csq, .string cky, .string cvl, .int .i64 crv], .agg #[.int .i64 dkd, .int .i64 dcl, .int .i64 dsq, .string dky, .string dvl, .int .i64 drv], .int .i64 s] w (Tells true w)
  cases q1 with
  | true =>
    go_enter Try.func4, Try.ntmps4
    go_upto_region 1 with fail
    rw [HW.out]
    go_wp2_with (first | (go_at_call 7; (with_reducible refine (HG1.out _).mono ?_); rintro e u1 ⟨rfl, hbu⟩; have HU1 := Lib.hid (bel_trans HU0.out hbu); clear hbu HG1 pa0 pa1 pb0 pb1 pc0 pc1 pc2 pc3 pc4 pc5 pd0 pd1 pd2 pd3 pd4 pd5; obtain ⟨pa0, pa1, pb0, pb1, pc0, pc1, pc2, pc3, pc4, pc5, pd0, pd1, pd2, pd3, pd4, pd5⟩ := HC.out _ HU1.out) | (go_at_call 8; (with_reducible refine (HAW.out _).mono ?_); rintro e w10 ⟨rfl, hb10⟩; have HB10 := Lib.hid hb10; clear hb10))
    go_ret
    exact ⟨rfl, bel_trans HB.out (bel_trans HU1.out HB10.out)⟩
  | false =>
    cases q2 with
    | true =>
      go_enter Try.func4, Try.ntmps4
      go_upto_region 1 with fail
      rw [HW.out]
      go_wp2_with (first | (go_at_call 7; (with_reducible refine (HG1.out _).mono ?_); rintro e u1 ⟨rfl, hbu⟩; have HU1 := Lib.hid (bel_trans HU0.out hbu); clear hbu HG1 pa0 pa1 pb0 pb1 pc0 pc1 pc2 pc3 pc4 pc5 pd0 pd1 pd2 pd3 pd4 pd5; obtain ⟨pa0, pa1, pb0, pb1, pc0, pc1, pc2, pc3, pc4, pc5, pd0, pd1, pd2, pd3, pd4, pd5⟩ := HC.out _ HU1.out) | (go_at_call 7; (with_reducible refine (HG2.out _).mono ?_); rintro e u2 ⟨rfl, hbu⟩; have HU2 := Lib.hid (bel_trans HU1.out hbu); clear hbu HG2 pa0 pa1 pb0 pb1 pc0 pc1 pc2 pc3 pc4 pc5 pd0 pd1 pd2 pd3 pd4 pd5; obtain ⟨pa0, pa1, pb0, pb1, pc0, pc1, pc2, pc3, pc4, pc5, pd0, pd1, pd2, pd3, pd4, pd5⟩ := HC.out _ HU2.out) | (go_at_call 8; (with_reducible refine (HAW.out _).mono ?_); rintro e w10 ⟨rfl, hb10⟩; have HB10 := Lib.hid hb10; clear hb10))
      go_ret
      exact ⟨rfl, bel_trans HB.out (bel_trans HU2.out HB10.out)⟩
    | false =>
      cases q3 with
      | true =>
        go_enter Try.func4, Try.ntmps4
        go_upto_region 1 with fail
        rw [HW.out]
        go_wp2_with (first | (go_at_call 7; (with_reducible refine (HG1.out _).mono ?_); rintro e u1 ⟨rfl, hbu⟩; have HU1 := Lib.hid (bel_trans HU0.out hbu); clear hbu HG1 pa0 pa1 pb0 pb1 pc0 pc1 pc2 pc3 pc4 pc5 pd0 pd1 pd2 pd3 pd4 pd5; obtain ⟨pa0, pa1, pb0, pb1, pc0, pc1, pc2, pc3, pc4, pc5, pd0, pd1, pd2, pd3, pd4, pd5⟩ := HC.out _ HU1.out) | (go_at_call 7; (with_reducible refine (HG2.out _).mono ?_); rintro e u2 ⟨rfl, hbu⟩; have HU2 := Lib.hid (bel_trans HU1.out hbu); clear hbu HG2 pa0 pa1 pb0 pb1 pc0 pc1 pc2 pc3 pc4 pc5 pd0 pd1 pd2 pd3 pd4 pd5; obtain ⟨pa0, pa1, pb0, pb1, pc0, pc1, pc2, pc3, pc4, pc5, pd0, pd1, pd2, pd3, pd4, pd5⟩ := HC.out _ HU2.out) | (go_at_call 8; (with_reducible refine (HAW.out _).mono ?_); rintro e w10 ⟨rfl, hb10⟩; have HB10 := Lib.hid hb10; clear hb10))
        go_ret
        exact ⟨rfl, bel_trans HB.out (bel_trans HU2.out HB10.out)⟩
      | false =>
        by_cases hs0 : s < 0
        · go_enter Try.func4, Try.ntmps4
          go_upto_region 1 with fail
          rw [HW.out]
          go_wp2_with (first | (go_at_call 7; (with_reducible refine (HG1.out _).mono ?_); rintro e u1 ⟨rfl, hbu⟩; have HU1 := Lib.hid (bel_trans HU0.out hbu); clear hbu HG1 pa0 pa1 pb0 pb1 pc0 pc1 pc2 pc3 pc4 pc5 pd0 pd1 pd2 pd3 pd4 pd5; obtain ⟨pa0, pa1, pb0, pb1, pc0, pc1, pc2, pc3, pc4, pc5, pd0, pd1, pd2, pd3, pd4, pd5⟩ := HC.out _ HU1.out) | (go_at_call 7; (with_reducible refine (HG2.out _).mono ?_); rintro e u2 ⟨rfl, hbu⟩; have HU2 := Lib.hid (bel_trans HU1.out hbu); clear hbu HG2 pa0 pa1 pb0 pb1 pc0 pc1 pc2 pc3 pc4 pc5 pd0 pd1 pd2 pd3 pd4 pd5; obtain ⟨pa0, pa1, pb0, pb1, pc0, pc1, pc2, pc3, pc4, pc5, pd0, pd1, pd2, pd3, pd4, pd5⟩ := HC.out _ HU2.out) | (go_at_call 8; (with_reducible refine (HAW.out _).mono ?_); rintro e w10 ⟨rfl, hb10⟩; have HB10 := Lib.hid hb10; clear hb10))
          go_ret
          exact ⟨rfl, bel_trans HB.out (bel_trans HU2.out HB10.out)⟩
        · by_cases hs1 : s > 1099511627776
          · go_enter Try.func4, Try.ntmps4
            go_upto_region 1 with fail
            rw [HW.out]
            go_wp2_with (first | (go_at_call 7; (with_reducible refine (HG1.out _).mono ?_); rintro e u1 ⟨rfl, hbu⟩; have HU1 := Lib.hid (bel_trans HU0.out hbu); clear hbu HG1 pa0 pa1 pb0 pb1 pc0 pc1 pc2 pc3 pc4 pc5 pd0 pd1 pd2 pd3 pd4 pd5; obtain ⟨pa0, pa1, pb0, pb1, pc0, pc1, pc2, pc3, pc4, pc5, pd0, pd1, pd2, pd3, pd4, pd5⟩ := HC.out _ HU1.out) | (go_at_call 7; (with_reducible refine (HG2.out _).mono ?_); rintro e u2 ⟨rfl, hbu⟩; have HU2 := Lib.hid (bel_trans HU1.out hbu); clear hbu HG2 pa0 pa1 pb0 pb1 pc0 pc1 pc2 pc3 pc4 pc5 pd0 pd1 pd2 pd3 pd4 pd5; obtain ⟨pa0, pa1, pb0, pb1, pc0, pc1, pc2, pc3, pc4, pc5, pd0, pd1, pd2, pd3, pd4, pd5⟩ := HC.out _ HU2.out) | (go_at_call 8; (with_reducible refine (HAW.out _).mono ?_); rintro e w10 ⟨rfl, hb10⟩; have HB10 := Lib.hid hb10; clear hb10))
            go_ret
            exact ⟨rfl, bel_trans HB.out (bel_trans HU2.out HB10.out)⟩
          · go_enter Try.func4, Try.ntmps4
            go_upto_region 1 with fail
            rw [HW.out]
            go_upto_region 3 with (first | (go_at_call 7; (with_reducible refine (HG1.out _).mono ?_); rintro e u1 ⟨rfl, hbu⟩; have HU1 := Lib.hid (bel_trans HU0.out hbu); clear hbu HG1 pa0 pa1 pb0 pb1 pc0 pc1 pc2 pc3 pc4 pc5 pd0 pd1 pd2 pd3 pd4 pd5; obtain ⟨pa0, pa1, pb0, pb1, pc0, pc1, pc2, pc3, pc4, pc5, pd0, pd1, pd2, pd3, pd4, pd5⟩ := HC.out _ HU1.out) | (go_at_call 7; (with_reducible refine (HG2.out _).mono ?_); rintro e u2 ⟨rfl, hbu⟩; have HU2 := Lib.hid (bel_trans HU1.out hbu); clear hbu HG2 pa0 pa1 pb0 pb1 pc0 pc1 pc2 pc3 pc4 pc5 pd0 pd1 pd2 pd3 pd4 pd5; obtain ⟨pa0, pa1, pb0, pb1, pc0, pc1, pc2, pc3, pc4, pc5, pd0, pd1, pd2, pd3, pd4, pd5⟩ := HC.out _ HU2.out))
            have HN := Lib.hid (new_any u2)
            clear pa0 pa1 pb0 pb1 pc0 pc1 pc2 pc3 pc4 pc5 pd0 pd1 pd2 pd3 pd4 pd5
            go_wp2_with fail
            (with_reducible refine HN.out.mono ?_)
            rintro e u3 ⟨p, S, rfl, hI, hlo, hbn⟩
            obtain ⟨hwa, hcc, hdc⟩ := HP.out
            obtain ⟨hq1, hq2, hq3⟩ := HQ.out
            have hky1 : cky.size ≤ 200 := by
              have := hq1
              simp only [great, Bool.or_eq_false_iff, decide_eq_false_iff_not] at this
              omega
            have hky2 : dky.size ≤ 200 := by
              have := hq2
              simp only [great, Bool.or_eq_false_iff, decide_eq_false_iff_not] at this
              omega
            have hFr : Dsk.Frame (FNew W) := frame_new W
            have hb3 := bel_trans HU2.out hbn
            have hm3 : Mine (FNew W) u3 p 0 [] := ⟨S, hI, fun k hk => Nat.le_trans HU2.out.size (hlo k hk), hb3⟩
            have hput := put_mine hFr (a1, a2) (⟨ckd, ccl, csq, cky, cvl, crv⟩ : Cm) s hm3 hwa (by show cky.size ≤ _; omega) hcc (by omega)
            have HPUT := Lib.hid hput
            obtain ⟨pa0, pa1, pb0, pb1, pc0, pc1, pc2, pc3, pc4, pc5, pd0, pd1, pd2, pd3, pd4, pd5⟩ := HC.out _ hb3
            unfold ptr cmV at HPUT
            unfold ptr
            have HKY := Lib.hid (And.intro hky2 (And.intro hdc (And.intro hky1 hcc)))
            have HNE := Lib.hid (of_decide_eq_false hq3)
            clear hI hlo hbn hwa hcc hdc hq1 hq2 hq3 hky1 hky2 hm3 hput HN hb3 hFr
            go_wp2_with fail
            (with_reducible refine HPUT.out.mono ?_)
            rintro e u4 ⟨rfl, hm4⟩
            rw [show putE [] (a1, a2) (⟨ckd, ccl, csq, cky, cvl, crv⟩ : Cm) s = [⟨(a1, a2), (⟨ckd, ccl, csq, cky, cvl, crv⟩ : Cm), s⟩] from rfl] at hm4
            have hFr : Dsk.Frame (FNew W) := frame_new W
            have hb4 : Below W.heap.size W u4 := by
              obtain ⟨_, _, h⟩ := hm4
              exact h.2
            obtain ⟨hky2, hdc, hky1, hcc⟩ := HKY.out
            have hmd : metE [⟨(a1, a2), (⟨ckd, ccl, csq, cky, cvl, crv⟩ : Cm), s⟩] (⟨dkd, dcl, dsq, dky, dvl, drv⟩ : Cm) (b1, b2) = if meet (⟨dkd, dcl, dsq, dky, dvl, drv⟩ : Cm) (⟨ckd, ccl, csq, cky, cvl, crv⟩ : Cm) = true then [⟨(a1, a2), (⟨ckd, ccl, csq, cky, cvl, crv⟩ : Cm), s⟩] else [] := by
              rw [one_met, decide_eq_false HNE.out]
              rfl
            have hmc : metE [⟨(a1, a2), (⟨ckd, ccl, csq, cky, cvl, crv⟩ : Cm), s⟩] (⟨ckd, ccl, csq, cky, cvl, crv⟩ : Cm) (a1, a2) = [] := by
              rw [one_met]
              simp
            have hdd := fun u (hu : Below u4.heap.size u4 u) => deps_mine (⟨dkd, dcl, dsq, dky, dvl, drv⟩ : Cm) (b1, b2) (hm4.bel hFr hu) (by omega) (by show dky.size ≤ _; omega) hdc
            have hdc' := fun u (hu : Below u4.heap.size u4 u) => deps_mine (⟨ckd, ccl, csq, cky, cvl, crv⟩ : Cm) (a1, a2) (hm4.bel hFr hu) (by omega) (by show cky.size ≤ _; omega) hcc
            have hsc := fun u (hu : Below u4.heap.size u4 u) => seq_mine (⟨ckd, ccl, csq, cky, cvl, crv⟩ : Cm) (a1, a2) (hm4.bel hFr hu) (by omega) (by show cky.size ≤ _; omega) hcc (by unfold topE; rw [hmc]; exact (by decide : (0 : Int) ≤ 4611686018427387904))
            have hsd := fun u (hu : Below u4.heap.size u4 u) => seq_mine (⟨dkd, dcl, dsq, dky, dvl, drv⟩ : Cm) (b1, b2) (hm4.bel hFr hu) (by omega) (by show dky.size ≤ _; omega) hdc (by unfold topE; rw [hmd]; exact top_bound (by omega) fun x hx => by split at hx <;> simp at hx; omega)
            unfold depsE at hdd hdc'
            unfold topE at hsc hsd
            rw [hmc] at hdc' hsc
            rw [hmd] at hdd hsd
            rw [show (List.map (fun x : En => x.i) ([] : List En)) = [] from rfl, setl_nil] at hdc'
            have hmm := meet_comm (⟨dkd, dcl, dsq, dky, dvl, drv⟩ : Cm) (⟨ckd, ccl, csq, cky, cvl, crv⟩ : Cm)
            obtain ⟨t, ht⟩ : ∃ t, meet (⟨dkd, dcl, dsq, dky, dvl, drv⟩ : Cm) (⟨ckd, ccl, csq, cky, cvl, crv⟩ : Cm) = t := ⟨_, rfl⟩
            rw [ht] at hdd hsd hmm
            have HMT2 : Hid (∀ u, Calls Try.prog 20 #[.agg #[.int .i64 ckd, .int .i64 ccl, .int .i64 csq, .string cky, .string cvl, .int .i64 crv], .agg #[.int .i64 dkd, .int .i64 dcl, .int .i64 dsq, .string dky, .string dvl, .int .i64 drv]] u (Tells t u)) := Lib.hid fun u => by
              have := HMT.out u
              rw [← hmm] at this
              exact this
            have HSC : Hid (∀ u, Below u4.heap.size u4 u → Calls Try.prog 17 #[.pointer (some ⟨p, 0, none⟩), .agg #[.int .i64 ckd, .int .i64 ccl, .int .i64 csq, .string cky, .string cvl, .int .i64 crv], .agg #[.int .i64 a1, .int .i64 a2]] u (fun e w' => e = .returned (.int .i64 1) ∧ Below u.heap.size u w')) := Lib.hid hsc
            have HDC : Hid (∀ u, Below u4.heap.size u4 u → Calls Try.prog 15 #[.pointer (some ⟨p, 0, none⟩), .agg #[.int .i64 ckd, .int .i64 ccl, .int .i64 csq, .string cky, .string cvl, .int .i64 crv], .agg #[.int .i64 a1, .int .i64 a2]] u (Gets u [])) := Lib.hid hdc'
            obtain ⟨L1, hL1⟩ : ∃ L1, setl (List.map (fun x : En => x.i) (if t = true then [⟨(a1, a2), (⟨ckd, ccl, csq, cky, cvl, crv⟩ : Cm), s⟩] else [])) = L1 := ⟨_, rfl⟩
            obtain ⟨T1, hT1⟩ : ∃ T1, top (List.map (fun x : En => x.s) (if t = true then [⟨(a1, a2), (⟨ckd, ccl, csq, cky, cvl, crv⟩ : Cm), s⟩] else [])) = T1 := ⟨_, rfl⟩
            rw [hL1] at hdd
            rw [hT1] at hsd
            have HDD : Hid (∀ u, Below u4.heap.size u4 u → Calls Try.prog 15 #[.pointer (some ⟨p, 0, none⟩), .agg #[.int .i64 dkd, .int .i64 dcl, .int .i64 dsq, .string dky, .string dvl, .int .i64 drv], .agg #[.int .i64 b1, .int .i64 b2]] u (Gets u L1)) := Lib.hid hdd
            have HSD : Hid (∀ u, Below u4.heap.size u4 u → Calls Try.prog 17 #[.pointer (some ⟨p, 0, none⟩), .agg #[.int .i64 dkd, .int .i64 dcl, .int .i64 dsq, .string dky, .string dvl, .int .i64 drv], .agg #[.int .i64 b1, .int .i64 b2]] u (fun e w' => e = .returned (.int .i64 (T1 + 1)) ∧ Below u.heap.size u w')) := Lib.hid hsd
            have hup1 : Up L1 := by rw [← hL1]; exact up_setl _
            have hln1 : L1.length ≤ 1 := by
              rw [← hL1]
              refine Nat.le_trans (length_setl _) ?_
              rw [List.length_map]
              split <;> simp
            have hin : decide ((a1, a2) ∈ L1) = t := by
              rw [← hL1]
              cases t with
              | true => exact decide_eq_true ((mem_setl _ _).2 (by simp))
              | false => exact decide_eq_false fun h => by have := (mem_setl _ _).1 h; simp at this
            have hts : T1 = if t = true then s else 0 := by
              rw [← hT1]
              cases t with
              | true =>
                show max (0 : Int) s = s
                omega
              | false => rfl
            have HB4 := Lib.hid hb4
            have HL1 := Lib.hid (And.intro hup1 (And.intro hln1 hin))
            have HS4 := Lib.hid hs0
            have HXB4 := Lib.hid (HXB.out.bel hb4)
            have HXD4 := Lib.hid (HXD.out.bel hb4)
            have HXA4 := Lib.hid (HXA.out.bel hb4)
            have HS0 := Lib.hid (show Below u4.heap.size u4 u4.drew from Below.drew (Below.refl _ _))
            clear hm4 hFr hb4 hky2 hdc hky1 hcc hmd hmc hdd hdc' hsc hsd hmm ht hL1 hT1 hup1 hln1 hin pa0 pa1 pb0 pb1 pc0 pc1 pc2 pc3 pc4 pc5 pd0 pd1 pd2 pd3 pd4 pd5 heq HMT HPUT
            go_upto_region 5 with fail
            refine wp_region_held_drew (S := (fun w' => Below u4.heap.size u4 w')) (by kernel_rfl) (by first | (with_reducible exact HS2.out) | (with_reducible exact HS1.out) | (with_reducible exact HS0.out)) (fun hHeld => ?_)
            refine held_take (i := 0) (d := 39) (v := (.pointer (some ⟨p, 0, none⟩))) rfl rfl (by kernel_rfl) (by kernel_rfl) (by kernel_rfl) (fun _ _ _ h => h) (by kernel_rfl) (fun w hSw => by (obtain hS := hSw); go_simp) hHeld ?_
            try simp only [List.setIfInBounds_toArray, List.set_cons_zero, List.set_cons_succ]
            refine held_take (i := 1) (d := 40) (v := (.agg #[.int .i64 dkd, .int .i64 dcl, .int .i64 dsq, .string dky, .string dvl, .int .i64 drv])) rfl rfl (by kernel_rfl) (by kernel_rfl) (by kernel_rfl) (fun _ _ _ h => h) (by kernel_rfl) (run_load_blk 24 (.tmp 8) rfl (w.heap.size + 3) 24 #[.int .i64 dkd, .int .i64 dcl, .int .i64 dsq, .string dky, .string dvl, .int .i64 drv] _ rfl (fun _ h => HXD4.out.bel h) Try.underlying24 rfl (by kernel_rfl)) hHeld ?_
            try simp only [List.setIfInBounds_toArray, List.set_cons_zero, List.set_cons_succ]
            refine held_take (i := 2) (d := 41) (v := (.agg #[.int .i64 b1, .int .i64 b2])) rfl rfl (by kernel_rfl) (by kernel_rfl) (by kernel_rfl) (fun _ _ _ h => h) (by kernel_rfl) (run_load_blk 26 (.tmp 6) rfl (w.heap.size + 1) 26 #[.int .i64 b1, .int .i64 b2] _ rfl (fun _ h => HXB4.out.bel h) Try.underlying26 rfl (by kernel_rfl)) hHeld ?_
            try simp only [List.setIfInBounds_toArray, List.set_cons_zero, List.set_cons_succ]
            refine held_take (i := 4) (d := 43) (v := (.agg #[.int .i64 a1, .int .i64 a2])) rfl rfl (by kernel_rfl) (by kernel_rfl) (by kernel_rfl) (fun _ _ _ h => h) (by kernel_rfl) (run_load_blk 26 (.tmp 5) rfl w.heap.size 26 #[.int .i64 a1, .int .i64 a2] _ rfl (fun _ h => HXA4.out.bel h) Try.underlying26 rfl (by kernel_rfl)) hHeld ?_
            try simp only [List.setIfInBounds_toArray, List.set_cons_zero, List.set_cons_succ]
            refine wpAnyH_ready (rs := [3]) (by kernel_rfl) (by simp) ?_
            refine AllReadyH.cons rfl (fun K hK => ?_) AllReadyH.nil
            go_simp
            go_at_call 15
            (with_reducible refine (HDD.out _ HS0.out).mono ?_)
            rintro e u5 ⟨A5, k5, rfl, hrs5, hb5⟩
            have HS1 := Lib.hid (bel_trans HS0.out hb5)
            have hhas := has_any L1 (a1, a2) A5 L1.length k5 u5 hrs5 HL1.out.1 (by have := HL1.out.2.1; omega)
            rw [HL1.out.2.2] at hhas
            have HHAS := Lib.hid hhas
            clear hrs5 hb5 hhas
            refine hK.out _ _ (by first | (with_reducible exact HS2.out) | (with_reducible exact HS1.out) | (with_reducible exact HS0.out)) (fun hHeld => ?_)
            clear hK K
            refine wpAnyH_ready (rs := [5]) (by kernel_rfl) (by simp) ?_
            refine AllReadyH.cons rfl (fun K hK => ?_) AllReadyH.nil
            go_simp
            go_at_call 19
            (with_reducible refine HHAS.out.mono ?_)
            rintro e u6 ⟨rfl, hb6⟩
            have HS2 := Lib.hid (bel_trans HS1.out hb6)
            clear hb6
            refine hK.out _ _ (by first | (with_reducible exact HS2.out) | (with_reducible exact HS1.out) | (with_reducible exact HS0.out)) (fun hHeld => ?_)
            clear hK K
            refine held_take (i := 6) (d := 12) (v := (.bool t)) rfl rfl (by kernel_rfl) (by kernel_rfl) (by kernel_rfl) (fun _ _ _ h => h) (by kernel_rfl) (fun w hSw => by (obtain hS := hSw); go_simp) hHeld ?_
            try simp only [List.setIfInBounds_toArray, List.set_cons_zero, List.set_cons_succ]
            refine wpAnyH_done (by kernel_rfl) ?_ _
            obtain ⟨pa0, pa1, pb0, pb1, pc0, pc1, pc2, pc3, pc4, pc5, pd0, pd1, pd2, pd3, pd4, pd5⟩ := HC.out _ (HB4.out.trans (HS2.out.mono HB4.out.size))
            cases t with
            | true =>
              replace hts : T1 = s := hts
              subst hts
              have hnle : ¬ (T1 + 1 ≤ T1) := by omega
              go_wp2_with (first | (go_at_call 20; (with_reducible refine (HMT2.out _).mono ?_); rintro e u7 ⟨rfl, hbu⟩; have HS7 := Lib.hid (bel_trans HS2.out hbu); clear hbu HMT2 pa0 pa1 pb0 pb1 pc0 pc1 pc2 pc3 pc4 pc5 pd0 pd1 pd2 pd3 pd4 pd5; obtain ⟨pa0, pa1, pb0, pb1, pc0, pc1, pc2, pc3, pc4, pc5, pd0, pd1, pd2, pd3, pd4, pd5⟩ := HC.out _ (HB4.out.trans (HS7.out.mono HB4.out.size))) | (go_at_call 17; (with_reducible refine (HSD.out _ HS7.out).mono ?_); rintro e u8 ⟨rfl, hbu⟩; have HS8 := Lib.hid (bel_trans HS7.out hbu); clear hbu HSD pa0 pa1 pb0 pb1 pc0 pc1 pc2 pc3 pc4 pc5 pd0 pd1 pd2 pd3 pd4 pd5; obtain ⟨pa0, pa1, pb0, pb1, pc0, pc1, pc2, pc3, pc4, pc5, pd0, pd1, pd2, pd3, pd4, pd5⟩ := HC.out _ (HB4.out.trans (HS8.out.mono HB4.out.size))) | (go_at_call 15; (with_reducible refine (HDC.out _ HS8.out).mono ?_); rintro e u9 ⟨A9, k9, rfl, hrs, hbu⟩; have HS9 := Lib.hid (bel_trans HS8.out hbu); clear hrs hbu HDC pa0 pa1 pb0 pb1 pc0 pc1 pc2 pc3 pc4 pc5 pd0 pd1 pd2 pd3 pd4 pd5; obtain ⟨pa0, pa1, pb0, pb1, pc0, pc1, pc2, pc3, pc4, pc5, pd0, pd1, pd2, pd3, pd4, pd5⟩ := HC.out _ (HB4.out.trans (HS9.out.mono HB4.out.size))) | (go_at_call 17; (with_reducible refine (HSC.out _ HS9.out).mono ?_); rintro e u11 ⟨rfl, hbu⟩; have HS11 := Lib.hid (bel_trans HS9.out hbu); clear hbu HSC pa0 pa1 pb0 pb1 pc0 pc1 pc2 pc3 pc4 pc5 pd0 pd1 pd2 pd3 pd4 pd5; obtain ⟨pa0, pa1, pb0, pb1, pc0, pc1, pc2, pc3, pc4, pc5, pd0, pd1, pd2, pd3, pd4, pd5⟩ := HC.out _ (HB4.out.trans (HS11.out.mono HB4.out.size))) | (go_at_call 8; (with_reducible refine (HAW.out _).mono ?_); rintro e w10 ⟨rfl, hb10⟩; have HB10 := Lib.hid hb10; clear hb10))
              go_ret
              exact ⟨rfl, bel_trans HB.out ((HB4.out.trans (HS11.out.mono HB4.out.size)).trans (HB10.out.mono (Nat.le_trans HB4.out.size HS11.out.size)))⟩
            | false =>
              replace hts : T1 = 0 := hts
              subst hts
              go_wp2_with (first | (go_at_call 20; (with_reducible refine (HMT2.out _).mono ?_); rintro e u7 ⟨rfl, hbu⟩; have HS7 := Lib.hid (bel_trans HS2.out hbu); clear hbu HMT2 pa0 pa1 pb0 pb1 pc0 pc1 pc2 pc3 pc4 pc5 pd0 pd1 pd2 pd3 pd4 pd5; obtain ⟨pa0, pa1, pb0, pb1, pc0, pc1, pc2, pc3, pc4, pc5, pd0, pd1, pd2, pd3, pd4, pd5⟩ := HC.out _ (HB4.out.trans (HS7.out.mono HB4.out.size))) | (go_at_call 17; (with_reducible refine (HSD.out _ HS7.out).mono ?_); rintro e u8 ⟨rfl, hbu⟩; have HS8 := Lib.hid (bel_trans HS7.out hbu); clear hbu HSD pa0 pa1 pb0 pb1 pc0 pc1 pc2 pc3 pc4 pc5 pd0 pd1 pd2 pd3 pd4 pd5; obtain ⟨pa0, pa1, pb0, pb1, pc0, pc1, pc2, pc3, pc4, pc5, pd0, pd1, pd2, pd3, pd4, pd5⟩ := HC.out _ (HB4.out.trans (HS8.out.mono HB4.out.size))) | (go_at_call 15; (with_reducible refine (HDC.out _ HS8.out).mono ?_); rintro e u9 ⟨A9, k9, rfl, hrs, hbu⟩; have HS9 := Lib.hid (bel_trans HS8.out hbu); clear hrs hbu HDC pa0 pa1 pb0 pb1 pc0 pc1 pc2 pc3 pc4 pc5 pd0 pd1 pd2 pd3 pd4 pd5; obtain ⟨pa0, pa1, pb0, pb1, pc0, pc1, pc2, pc3, pc4, pc5, pd0, pd1, pd2, pd3, pd4, pd5⟩ := HC.out _ (HB4.out.trans (HS9.out.mono HB4.out.size))) | (go_at_call 17; (with_reducible refine (HSC.out _ HS9.out).mono ?_); rintro e u11 ⟨rfl, hbu⟩; have HS11 := Lib.hid (bel_trans HS9.out hbu); clear hbu HSC pa0 pa1 pb0 pb1 pc0 pc1 pc2 pc3 pc4 pc5 pd0 pd1 pd2 pd3 pd4 pd5; obtain ⟨pa0, pa1, pb0, pb1, pc0, pc1, pc2, pc3, pc4, pc5, pd0, pd1, pd2, pd3, pd4, pd5⟩ := HC.out _ (HB4.out.trans (HS11.out.mono HB4.out.size))) | (go_at_call 8; (with_reducible refine (HAW.out _).mono ?_); rintro e w10 ⟨rfl, hb10⟩; have HB10 := Lib.hid hb10; clear hb10))
              go_ret
              exact ⟨rfl, bel_trans HB.out ((HB4.out.trans (HS11.out.mono HB4.out.size)).trans (HB10.out.mono (Nat.le_trans HB4.out.size HS11.out.size)))⟩
end Go.Proofs.Ytlcggldcofncgaa.Ix
