/-
  Texts of earlier layers, as one.
-/
import Derived.Test.YtbjooblaamjppaaGreatRecGot
import Derived.Test.YtbjooblaamjppaaGreatRecRefItem
import Derived.Test.YtbjooblaamjppaaGreatRecTakeOld
import Derived.Test.YtbjooblaamjppaaGreatRAttT
import Derived.Test.YtbjooblaamjppaaGreatRCmdT
import Derived.Test.YtbjooblaamjppaaGreatRStore
import Derived.Deep.RegionHeld
import Derived.Deep.Cut
/- The document's TakeOld: the record whose old form an item is. -/
namespace Go.Proofs.YtbjooblaamjppaaGreat.Rk
open Go.RowKit Mem Ids Att Cod
set_option maxRecDepth 100000 in
set_option maxHeartbeats 16000000 in
theorem refold_take (x : It) (A : Option Addr) (c : Nat) (S : Nat → Prop) (w : World) (hl : Lies w S x A c) (hS : ∀ b, S b → b < w.heap.size) (hks : (Cmd.kid (x.kids.getD 5 Cmd.zeroIt) 3).str.size ≤ 1073741824) :
    Calls Tryz.prog 17 #[.agg #[.int .i64 x.kind, .int .u64 (x.num : Int), .string x.str, .slice A x.kids.length c]] w (TakesRc w (refOldRc x)) := by
  obtain ⟨W, hW⟩ : ∃ W, (w.alloc (.cells #[.int .i64 x.kind, .int .u64 (x.num : Int), .string x.str, .slice A x.kids.length c] 36)).alloc (.cells #[.int .i64 0, .int .i64 0, .int .i64 0, .int .i64 0, .int .i64 0, .int .i64 0, .int .i64 0, .int .i64 0, .int .i64 0, .int .i64 0, .string ⟨#[]⟩, .string ⟨#[]⟩, .int .i64 0, .slice none 0 0, .int .i64 0, .int .i64 0] 32) = W := ⟨_, rfl⟩
  obtain ⟨k1, k2, kb, hsW⟩ := two_kinds w _ _ _ _ W hW
  have hlx := hl.below kb hS
  have hfr := front_any x A c S W hlx (fun b hb => by have := hS b hb; omega)
  have hlw := hlx.row
  have hz := front_zero x.kids
  have HKY := Lib.hid (got_key oldTake hks)
  obtain ⟨n, hn⟩ : ∃ n, x.kids.length = n := ⟨_, rfl⟩
  rw [hn] at hlw hW k1 hfr ⊢
  obtain ⟨q0, hq0⟩ : ∃ q, frontRc x.kids = q := ⟨_, rfl⟩
  obtain ⟨m, hm⟩ : ∃ b, frontB x.kids = b := ⟨_, rfl⟩
  rw [hq0] at hz hfr
  rw [hm] at hfr
  obtain ⟨⟨R0, R1⟩, S0, ⟨B0, B1⟩, ⟨T0, T1⟩, cm0, at0⟩ := q0
  simp only at hz
  obtain ⟨rfl, rfl⟩ := hz
  unfold Fronts at hfr
  simp only at hfr
  have HX := Lib.hid k1
  have HR0 := Lib.hid k2
  have HB0 := Lib.hid kb
  have HW := Lib.hid hW
  have HSW := Lib.hid hsW
  have HSS := Lib.hid hS
  have HN := Lib.hid hn
  have HLX := Lib.hid hlx
  have HLW := Lib.hid hlw
  have HFR := Lib.hid hfr
  have HQ0 := Lib.hid hq0
  have HM := Lib.hid hm
  have HKS := Lib.hid hks
  clear hl hS k1 k2 kb hW hsW hlx hlw hn hfr hq0 hm hks
  obtain ⟨x0, x1, x2, x3⟩ := blk4 HX.out
  go_enter Tryz.func17, Tryz.ntmps17
  go_upto_region 1 with fail
  rw [HW.out]
  go_wp2_with fail
  refine HFR.out.mono ?_
  rintro e w1 ⟨rfl, hb1⟩
  have hk2 := Blk.new w1 32 #[.int .i64 R0, .int .i64 R1, .int .i64 S0, .int .i64 B0, .int .i64 B1, .int .i64 T0, .int .i64 T1, .int .i64 0, .int .i64 0, .int .i64 0, .string ⟨#[]⟩, .string ⟨#[]⟩, .int .i64 0, .slice none 0 0, .int .i64 0, .int .i64 0]
  have hb2 := bel_alloc hb1 (.cells #[.int .i64 R0, .int .i64 R1, .int .i64 S0, .int .i64 B0, .int .i64 B1, .int .i64 T0, .int .i64 T1, .int .i64 0, .int .i64 0, .int .i64 0, .string ⟨#[]⟩, .string ⟨#[]⟩, .int .i64 0, .slice none 0 0, .int .i64 0, .int .i64 0] 32)
  have HP := Lib.hid hb1.size
  have hs2 := size_alloc w1 (.cells #[.int .i64 R0, .int .i64 R1, .int .i64 S0, .int .i64 B0, .int .i64 B1, .int .i64 T0, .int .i64 T1, .int .i64 0, .int .i64 0, .int .i64 0, .string ⟨#[]⟩, .string ⟨#[]⟩, .int .i64 0, .slice none 0 0, .int .i64 0, .int .i64 0] 32)
  obtain ⟨p, hp⟩ : ∃ p, w1.heap.size = p := ⟨_, rfl⟩
  obtain ⟨W2, hW2⟩ : ∃ v, w1.alloc (.cells #[.int .i64 R0, .int .i64 R1, .int .i64 S0, .int .i64 B0, .int .i64 B1, .int .i64 T0, .int .i64 T1, .int .i64 0, .int .i64 0, .int .i64 0, .string ⟨#[]⟩, .string ⟨#[]⟩, .int .i64 0, .slice none 0 0, .int .i64 0, .int .i64 0] 32) = v := ⟨_, rfl⟩
  rw [hW2] at hk2 hb2 hs2
  rw [hp] at hk2 HP hs2
  have HK2 := Lib.hid hk2
  have HC2 := Lib.hid hb2
  have HW2 := Lib.hid hW2
  have HPE := Lib.hid hp
  have HS2 := Lib.hid hs2
  clear hk2 hb1 hb2 hW2 hp hs2 HFR x0 x1 x2 x3
  go_upto_region 2 with fail
  rw [HW2.out, HPE.out]
  clear HW2 HPE
  obtain ⟨tv, htv⟩ : ∃ b, (m && (S0 != 0)) = b := ⟨_, rfl⟩
  go_cut [22] from 12 (fun cv wx => cv = .bool tv ∧ wx = W2)
  case first =>
    have u2 := HK2.out.cell 2
    simp at u2
    cases m with
    | false =>
      go_wp2_with fail
      go_meet
      case rel => exact ⟨by rw [← htv]; all_goals rfl, rfl⟩
    | true =>
      go_wp2_with fail
      go_meet
      case rel => exact ⟨by rw [← htv]; all_goals rfl, rfl⟩
  case rest =>
  obtain ⟨rfl, hwc⟩ := hcut
  rw [hwc]
  clear hwc
  go_upto_if 22 with fail
  go_cut [4, 5] from 12 (GotCut W (gotRc oldTake x.kids) (gotB oldTake x.kids))
  case first =>
    cases m with
    | false =>
      obtain rfl : tv = false := by rw [← htv]; rfl
      have hcn : ¬ (false = true ∧ ¬ (frontRc x.kids).st = 0) := fun h => by cases h.1
      have hgq : gotRc oldTake x.kids = ⟨(R0, R1), S0, (B0, B1), (T0, T1), Cmd.zeroCm, zeroAt⟩ := by
        unfold gotRc
        rw [HM.out, if_neg hcn, HQ0.out]
      have hgb : gotB oldTake x.kids = false := by
        unfold gotB
        rw [HM.out, if_neg hcn]
      clear hcn
      have HGQ := Lib.hid hgq
      have HGB := Lib.hid hgb
      clear hgq hgb
      go_wp2_with fail
      go_meet
      case rel =>
        rw [HGQ.out, HGB.out]
        exact ⟨p, none, 0, 0, rfl, rfl, HP.out, HK2.out, Rs.nil_ _, (fun _ _ e => by cases e), HC2.out⟩
    | true =>
      by_cases hs : S0 = 0
      · subst hs
        obtain rfl : tv = false := by rw [← htv]; rfl
        have hcn : ¬ (true = true ∧ ¬ (⟨(R0, R1), 0, (B0, B1), (T0, T1), Cmd.zeroCm, zeroAt⟩ : Rc).st = 0) := fun h => h.2 rfl
        have hgq : gotRc oldTake x.kids = ⟨(R0, R1), 0, (B0, B1), (T0, T1), Cmd.zeroCm, zeroAt⟩ := by
          unfold gotRc
          rw [HM.out, HQ0.out, if_neg hcn]
        have hgb : gotB oldTake x.kids = true := by
          unfold gotB
          rw [HM.out, HQ0.out, if_neg hcn]
        clear hcn
        have HGQ := Lib.hid hgq
        have HGB := Lib.hid hgb
        clear hgq hgb
        go_wp2_with fail
        go_meet
        case rel =>
          rw [HGQ.out, HGB.out]
          exact ⟨p, none, 0, 0, rfl, rfl, HP.out, HK2.out, Rs.nil_ _, (fun _ _ e => by cases e), HC2.out⟩
      · have h7 := front_seven HM.out (by rw [HQ0.out]; exact hs)
        obtain rfl : tv = true := by rw [← htv]; exact bne_iff_ne.2 hs
        obtain rfl : n = 7 := by rw [← HN.out]; exact h7
        clear h7
        obtain ⟨g5, o5, A5, c5, e5, hS5, hg5, q50, q51, q52, q53, l5⟩ := row_at HLW.out (k := 5) (by omega)
        obtain ⟨g6, o6, A6, c6, e6, hS6, hg6, q60, q61, q62, q63, l6⟩ := row_at HLW.out (k := 6) (by omega)
        subst e5
        obtain ⟨rfl, rfl⟩ : g5 = g6 ∧ o5 = o6 := by
          injection e6 with e
          injection e with e1 e2
          exact ⟨e1, e2⟩
        clear e6
        obtain ⟨y5, hy5⟩ : ∃ y, x.kids.getD 5 Cmd.zeroIt = y := ⟨_, rfl⟩
        obtain ⟨y6, hy6⟩ : ∃ y, x.kids.getD 6 Cmd.zeroIt = y := ⟨_, rfl⟩
        have hks := HKS.out
        rw [hy5] at q50 q51 q52 q53 l5 hks
        rw [hy6] at q60 q61 q62 q63 l6
        have HSK := Lib.hid (show ∀ w', Below W.heap.size W w' → w'.cell? ⟨w.heap.size, 3, none⟩ = some (.slice (some ⟨g5, o5, none⟩) 7 c) ∧ w'.cell? ⟨g5, o5 + 20, none⟩ = some (.int .i64 y5.kind) ∧ w'.cell? ⟨g5, o5 + 20 + 1, none⟩ = some (.int .u64 (y5.num : Int)) ∧ w'.cell? ⟨g5, o5 + 20 + 2, none⟩ = some (.string y5.str) ∧ w'.cell? ⟨g5, o5 + 20 + 3, none⟩ = some (.slice A5 y5.kids.length c5) ∧ w'.cell? ⟨g5, o5 + 24, none⟩ = some (.int .i64 y6.kind) ∧ w'.cell? ⟨g5, o5 + 24 + 1, none⟩ = some (.int .u64 (y6.num : Int)) ∧ w'.cell? ⟨g5, o5 + 24 + 2, none⟩ = some (.string y6.str) ∧ w'.cell? ⟨g5, o5 + 24 + 3, none⟩ = some (.slice A6 y6.kids.length c6) from fun w' hb =>
          ⟨(blk4 (HX.out.bel hb)).2.2.2, (hb.cell (p := ⟨g5, o5 + 20, none⟩) hg5).trans q50, (hb.cell (p := ⟨g5, o5 + 20 + 1, none⟩) hg5).trans q51, (hb.cell (p := ⟨g5, o5 + 20 + 2, none⟩) hg5).trans q52, (hb.cell (p := ⟨g5, o5 + 20 + 3, none⟩) hg5).trans q53, (hb.cell (p := ⟨g5, o5 + 24, none⟩) hg6).trans q60, (hb.cell (p := ⟨g5, o5 + 24 + 1, none⟩) hg6).trans q61, (hb.cell (p := ⟨g5, o5 + 24 + 2, none⟩) hg6).trans q62, (hb.cell (p := ⟨g5, o5 + 24 + 3, none⟩) hg6).trans q63⟩)
        have HC5 : Hid (∀ v, Below W.heap.size W v → Calls Tryz.prog 39 #[(.agg #[.int .i64 y5.kind, .int .u64 (y5.num : Int), .string y5.str, .slice A5 y5.kids.length c5])] v (Cw.CmTakes v (Cmd.takeOf y5))) := Lib.hid (fun v hb => Cw.refcmtake_any y5 A5 c5 _ v (l5.below hb (fun b hb => by have := HSS.out b hb; have := HSW.out; omega)) (fun b hb' => by have := HSS.out b hb'; have := HSW.out; have := hb.size; omega) hks)
        have hc6 : ∀ v, Below W.heap.size W v → Calls Tryz.prog 42 #[(.agg #[.int .i64 y6.kind, .int .u64 (y6.num : Int), .string y6.str, .slice A6 y6.kids.length c6])] v (TakesAt v (oldTake y6)) := fun v hb => refoldtake_any y6 A6 c6 _ v (l6.below hb (fun b hb => by have := HSS.out b hb; have := HSW.out; omega)) (fun b hb' => by have := HSS.out b hb'; have := HSW.out; have := hb.size; omega)
        obtain ⟨⟨gl, gE, gG⟩, hga⟩ : ∃ a, (oldTake y6).getD zeroAt = a := ⟨_, rfl⟩
        obtain ⟨m6, hm6⟩ : ∃ b, (oldTake y6).isSome = b := ⟨_, rfl⟩
        unfold TakesAt at hc6
        rw [hga, hm6] at hc6
        simp only at hc6
        have HC6 := Lib.hid hc6
        have HY5 := Lib.hid hy5
        have HY6 := Lib.hid hy6
        have HGA := Lib.hid hga
        have HM6 := Lib.hid hm6
        have HNE := Lib.hid hs
        clear hc6 hga hm6 hy5 hy6 hks l5 l6 q50 q51 q52 q53 q60 q61 q62 q63 hg5 hg6 hS5 hS6 hs HKS
        obtain ⟨hh, h50, h51, h52, h53, h60, h61, h62, h63⟩ := HSK.out W2 HC2.out
        go_upto_region 3 with fail
        go_wp2_with fail
        refine (HC5.out _ HC2.out).mono ?_
        rintro e v3 ⟨⟨gK, gL, gQ, gY, gV, gZ⟩, m5, rfl, hc, hm5, hb3⟩
        simp only
        have hk3 := (HK2.out.bel hb3).alloc (.cells #[.int .i64 gK, .int .i64 gL, .int .i64 gQ, .string gY, .string gV, .int .i64 gZ] 27)
        have hn3 := Blk.new v3 27 #[.int .i64 gK, .int .i64 gL, .int .i64 gQ, .string gY, .string gV, .int .i64 gZ]
        have hb3' := bel_alloc (bel_trans HC2.out hb3) (.cells #[.int .i64 gK, .int .i64 gL, .int .i64 gQ, .string gY, .string gV, .int .i64 gZ] 27)
        have HQ3 := Lib.hid (show p < v3.heap.size from Nat.lt_of_lt_of_le HK2.out.lt hb3.size)
        obtain ⟨k3, hk3e⟩ : ∃ k, v3.heap.size = k := ⟨_, rfl⟩
        obtain ⟨W3, hW3⟩ : ∃ v, v3.alloc (.cells #[.int .i64 gK, .int .i64 gL, .int .i64 gQ, .string gY, .string gV, .int .i64 gZ] 27) = v := ⟨_, rfl⟩
        rw [hW3] at hk3 hn3 hb3'
        rw [hk3e] at hn3 HQ3
        have HW3 := Lib.hid hW3
        have HE3 := Lib.hid hk3e
        have HK3 := Lib.hid hk3
        have HN3 := Lib.hid hn3
        have HC3 := Lib.hid hb3'
        have HCC := Lib.hid hc
        have HM5 := Lib.hid hm5
        clear hk3 hn3 hb3' hb3 hW3 hc hm5 hk3e HC5 hh h50 h51 h52 h53 h60 h61 h62 h63
        go_upto_region 4 with fail
        rw [HW3.out, HE3.out]
        clear HW3 HE3
        obtain ⟨hh, h50, h51, h52, h53, h60, h61, h62, h63⟩ := HSK.out W3 HC3.out
        go_wp2_with fail
        refine (HC6.out _ HC3.out).mono ?_
        rintro e v4 ⟨gA, gn, gc, rfl, hrs, hb4, hnew⟩
        have hk4 := (HK3.out.bel hb4).alloc (.cells #[.slice gA gn gc, .int .i64 gE, .int .i64 gG] 30)
        have hm4 := (HN3.out.bel hb4).alloc (.cells #[.slice gA gn gc, .int .i64 gE, .int .i64 gG] 30)
        have hn4 := Blk.new v4 30 #[.slice gA gn gc, .int .i64 gE, .int .i64 gG]
        have hb4' := bel_alloc (bel_trans HC3.out hb4) (.cells #[.slice gA gn gc, .int .i64 gE, .int .i64 gG] 30)
        have hrs4 := hrs.alloc (.cells #[.slice gA gn gc, .int .i64 gE, .int .i64 gG] 30)
        have HQ4 := Lib.hid (show p < v4.heap.size from Nat.lt_of_lt_of_le HK3.out.lt hb4.size)
        have HNW := Lib.hid (show ∀ g o, gA = some ⟨g, o, none⟩ → p + 1 ≤ g from fun g o e => by have := hnew g o e; have := HK3.out.lt; omega)
        have HK3L := Lib.hid (show k3 ≠ p by have := HQ3.out; omega)
        obtain ⟨k4, hk4e⟩ : ∃ k, v4.heap.size = k := ⟨_, rfl⟩
        obtain ⟨W4, hW4⟩ : ∃ v, v4.alloc (.cells #[.slice gA gn gc, .int .i64 gE, .int .i64 gG] 30) = v := ⟨_, rfl⟩
        rw [hW4] at hk4 hm4 hn4 hb4' hrs4
        rw [hk4e] at hn4 HQ4
        have HW4 := Lib.hid hW4
        have HE4 := Lib.hid hk4e
        have HK4 := Lib.hid hk4
        have HM4 := Lib.hid hm4
        have HN4 := Lib.hid hn4
        have HC4 := Lib.hid hb4'
        have HRS4 := Lib.hid hrs4
        clear hk4 hm4 hn4 hb4' hb4 hW4 hrs hrs4 hnew hk4e HC6 hh h50 h51 h52 h53 h60 h61 h62 h63
        go_upto_region 5 with fail
        rw [HW4.out, HE4.out]
        clear HW4 HE4
        obtain ⟨i0, i1, i2, i3, i4, i5⟩ := Cw.blk6 HM4.out
        have z7 := HK4.out.soft 7
        have u7 := HK4.out.cell 7
        have z8 := HK4.out.soft 8
        have u8 := HK4.out.cell 8
        have z9 := HK4.out.soft 9
        have u9 := HK4.out.cell 9
        have z10 := HK4.out.soft 10
        have u10 := HK4.out.cell 10
        have z11 := HK4.out.soft 11
        have u11 := HK4.out.cell 11
        have z12 := HK4.out.soft 12
        have u12 := HK4.out.cell 12
        simp at u7 u8 u9 u10 u11 u12
        go_upto_region 6 with fail
        have hk5 : Blk ((((((W4.setCell ⟨p, 7, none⟩ (.int .i64 gK)).setCell ⟨p, 8, none⟩ (.int .i64 gL)).setCell ⟨p, 9, none⟩ (.int .i64 gQ)).setCell ⟨p, 10, none⟩ (.string gY)).setCell ⟨p, 11, none⟩ (.string gV)).setCell ⟨p, 12, none⟩ (.int .i64 gZ)) p 32 #[.int .i64 R0, .int .i64 R1, .int .i64 S0, .int .i64 B0, .int .i64 B1, .int .i64 T0, .int .i64 T1, .int .i64 gK, .int .i64 gL, .int .i64 gQ, .string gY, .string gV, .int .i64 gZ, .slice none 0 0, .int .i64 0, .int .i64 0] := by simpa using ((((((HK4.out.put 7 (.int .i64 gK)).put 8 (.int .i64 gL)).put 9 (.int .i64 gQ)).put 10 (.string gY)).put 11 (.string gV)).put 12 (.int .i64 gZ))
        have hn5 := ((((((HN4.out.far (p := ⟨p, 7, none⟩) (show k4 ≠ p by have := HQ4.out; omega) (.int .i64 gK)).far (p := ⟨p, 8, none⟩) (show k4 ≠ p by have := HQ4.out; omega) (.int .i64 gL)).far (p := ⟨p, 9, none⟩) (show k4 ≠ p by have := HQ4.out; omega) (.int .i64 gQ)).far (p := ⟨p, 10, none⟩) (show k4 ≠ p by have := HQ4.out; omega) (.string gY)).far (p := ⟨p, 11, none⟩) (show k4 ≠ p by have := HQ4.out; omega) (.string gV)).far (p := ⟨p, 12, none⟩) (show k4 ≠ p by have := HQ4.out; omega) (.int .i64 gZ))
        have hb5 := ((((((HC4.out.setCell (p := ⟨p, 7, none⟩) HP.out (.int .i64 gK)).setCell (p := ⟨p, 8, none⟩) HP.out (.int .i64 gL)).setCell (p := ⟨p, 9, none⟩) HP.out (.int .i64 gQ)).setCell (p := ⟨p, 10, none⟩) HP.out (.string gY)).setCell (p := ⟨p, 11, none⟩) HP.out (.string gV)).setCell (p := ⟨p, 12, none⟩) HP.out (.int .i64 gZ))
        have hr5 := (Rs.set1 (Rs.set1 (Rs.set1 (Rs.set1 (Rs.set1 (Rs.set1 HRS4.out HNW.out (Nat.lt_succ_self p) 7 (.int .i64 gK)) HNW.out (Nat.lt_succ_self p) 8 (.int .i64 gL)) HNW.out (Nat.lt_succ_self p) 9 (.int .i64 gQ)) HNW.out (Nat.lt_succ_self p) 10 (.string gY)) HNW.out (Nat.lt_succ_self p) 11 (.string gV)) HNW.out (Nat.lt_succ_self p) 12 (.int .i64 gZ))
        generalize ((((((W4.setCell ⟨p, 7, none⟩ (.int .i64 gK)).setCell ⟨p, 8, none⟩ (.int .i64 gL)).setCell ⟨p, 9, none⟩ (.int .i64 gQ)).setCell ⟨p, 10, none⟩ (.string gY)).setCell ⟨p, 11, none⟩ (.string gV)).setCell ⟨p, 12, none⟩ (.int .i64 gZ)) = W5 at hk5 hn5 hb5 hr5 ⊢
        clear i0 i1 i2 i3 i4 i5 u7 z7 u8 z8 u9 z9 u10 z10 u11 z11 u12 z12
        obtain ⟨i0, i1, i2⟩ := blk3 hn5
        have z13 := hk5.soft 13
        have u13 := hk5.cell 13
        have z14 := hk5.soft 14
        have u14 := hk5.cell 14
        have z15 := hk5.soft 15
        have u15 := hk5.cell 15
        simp at u13 u14 u15
        go_upto_region 7 with fail
        have hk6 : Blk (((W5.setCell ⟨p, 13, none⟩ (.slice gA gn gc)).setCell ⟨p, 14, none⟩ (.int .i64 gE)).setCell ⟨p, 15, none⟩ (.int .i64 gG)) p 32 #[.int .i64 R0, .int .i64 R1, .int .i64 S0, .int .i64 B0, .int .i64 B1, .int .i64 T0, .int .i64 T1, .int .i64 gK, .int .i64 gL, .int .i64 gQ, .string gY, .string gV, .int .i64 gZ, .slice gA gn gc, .int .i64 gE, .int .i64 gG] := by simpa using (((hk5.put 13 (.slice gA gn gc)).put 14 (.int .i64 gE)).put 15 (.int .i64 gG))
        have hb6 := (((hb5.setCell (p := ⟨p, 13, none⟩) HP.out (.slice gA gn gc)).setCell (p := ⟨p, 14, none⟩) HP.out (.int .i64 gE)).setCell (p := ⟨p, 15, none⟩) HP.out (.int .i64 gG))
        have hr6 := (Rs.set1 (Rs.set1 (Rs.set1 hr5 HNW.out (Nat.lt_succ_self p) 13 (.slice gA gn gc)) HNW.out (Nat.lt_succ_self p) 14 (.int .i64 gE)) HNW.out (Nat.lt_succ_self p) 15 (.int .i64 gG))
        generalize (((W5.setCell ⟨p, 13, none⟩ (.slice gA gn gc)).setCell ⟨p, 14, none⟩ (.int .i64 gE)).setCell ⟨p, 15, none⟩ (.int .i64 gG)) = W6 at hk6 hb6 hr6 ⊢
        have HK6 := Lib.hid hk6
        have HC6 := Lib.hid hb6
        have HR6 := Lib.hid hr6
        clear i0 i1 i2 u13 z13 u14 z14 u15 z15 hk5 hn5 hb5 hr5 hk6 hb6 hr6 HK4 HM4 HN4 HRS4
        have hcn : true = true ∧ ¬ (⟨(R0, R1), S0, (B0, B1), (T0, T1), Cmd.zeroCm, zeroAt⟩ : Rc).st = 0 := ⟨rfl, HNE.out⟩
        have hgq : gotRc oldTake x.kids = ⟨(R0, R1), S0, (B0, B1), (T0, T1), ⟨gK, gL, gQ, gY, gV, gZ⟩, ⟨gl, gE, gG⟩⟩ := by
          unfold gotRc
          rw [HM.out, HQ0.out, if_pos hcn, HY5.out, HY6.out, HGA.out, ← HCC.out]
        have hgb : gotB oldTake x.kids = (m5 && m6) := by
          unfold gotB
          rw [HM.out, HQ0.out, if_pos hcn, HY5.out, HY6.out, HM6.out, ← HM5.out]
        clear hcn
        have HGQ := Lib.hid hgq
        have HGB := Lib.hid hgb
        clear hgq hgb HM HQ0 HY5 HY6 HGA HCC HM6 HM5
        cases m5 with
        | false =>
          go_wp2_with fail
          go_meet
          case rel =>
            rw [HGQ.out, HGB.out]
            exact ⟨p, gA, gn, gc, rfl, rfl, HP.out, HK6.out, HR6.out, (fun g o e => by have := HNW.out g o e; have := HP.out; omega), HC6.out⟩
        | true =>
          go_wp2_with fail
          go_meet
          case rel =>
            rw [HGQ.out, HGB.out]
            exact ⟨p, gA, gn, gc, rfl, rfl, HP.out, HK6.out, HR6.out, (fun g o e => by have := HNW.out g o e; have := HP.out; omega), HC6.out⟩
  case rest =>
  obtain ⟨p', aA, an, ac, rfl, rfl, hpW, hkp, hrs, hnew, hbx⟩ := hcut
  generalize wc = Wx at hkp hrs hbx ⊢
  have htk : refOldRc x = if (gotB oldTake x.kids && ((recOld (gotRc oldTake x.kids)).2 == 0 && same x (recOld (gotRc oldTake x.kids)).1)) = true then some (gotRc oldTake x.kids) else none := rfl
  have hky := HKY.out
  generalize gotRc oldTake x.kids = q at hkp hrs htk hky
  generalize gotB oldTake x.kids = ok at htk ⊢
  obtain ⟨⟨aR, aN⟩, aS, ⟨aB, aC⟩, ⟨aT, aU⟩, ⟨aK, aL, aQ, aY, aV, aZ⟩, ⟨al, aE, aG⟩⟩ := q
  simp only at hkp hrs hky
  have HKP := Lib.hid hkp
  have HRS := Lib.hid hrs
  have HNEW := Lib.hid hnew
  have HBX := Lib.hid hbx
  have HPW := Lib.hid hpW
  have hol := refold_any aR aN aS aB aC aT aU aK aL aQ aY aV aZ aA an ac aE aG al Wx hrs hky
  generalize recOld ⟨(aR, aN), aS, (aB, aC), (aT, aU), ⟨aK, aL, aQ, aY, aV, aZ⟩, ⟨al, aE, aG⟩⟩ = y at htk hol
  obtain ⟨y, ye⟩ := y
  simp only at htk
  have HOL := Lib.hid hol
  have HTK := Lib.hid htk
  clear hkp hrs hnew hbx hpW htk hky hol HKY HK2 HC2 HP HS2 HM HQ0 HLW
  cases ok with
  | false =>
    have HZ := Lib.hid (show refOldRc x = none from HTK.out)
    have HXX := Lib.hid (HR0.out.bel (HBX.out))
    have HBE := Lib.hid (HBX.out)
    go_wp2_with (first | fail | (refine wpList_store_blk rfl 32 _ _ rfl (w.heap.size + 1) 32 #[.int .i64 0, .int .i64 0, .int .i64 0, .int .i64 0, .int .i64 0, .int .i64 0, .int .i64 0, .int .i64 0, .int .i64 0, .int .i64 0, .string ⟨#[]⟩, .string ⟨#[]⟩, .int .i64 0, .slice none 0 0, .int .i64 0, .int .i64 0] #[.int .i64 0, .int .i64 0, .int .i64 0, .int .i64 0, .int .i64 0, .int .i64 0, .int .i64 0, .int .i64 0, .int .i64 0, .int .i64 0, .string ⟨#[]⟩, .string ⟨#[]⟩, .int .i64 0, .slice none 0 0, .int .i64 0, .int .i64 0] rfl rfl HXX.out (by kernel_rfl) rfl (by kernel_rfl) ?_; intro w9 hblk2 hgr))
    refine bodyPost_ret (v := .tuple #[.agg #[.int .i64 0, .int .i64 0, .int .i64 0, .int .i64 0, .int .i64 0, .int .i64 0, .int .i64 0, .int .i64 0, .int .i64 0, .int .i64 0, .string ⟨#[]⟩, .string ⟨#[]⟩, .int .i64 0, .slice none 0 0, .int .i64 0, .int .i64 0], .bool false]) (results_blk_tmp Tryz.results17 _ _ (w.heap.size + 1) 32 _ _ _ rfl rfl hblk2 Tryz.underlying32 rfl (by kernel_rfl)) rfl ?_
    have hsz := HB0.out.size
    have hsw := HSW.out
    have hb9 : Below w.heap.size w w9 := (HB0.out.trans (HBE.out.mono HB0.out.size)).trans (gr_below hgr (by have := HBE.out.size; omega) fun b hb => by injection hb with hb; omega)
    rw [HZ.out]
    exact ⟨zeroRc, none, 0, 0, rfl, rfl, Rs.nil_ _, (fun g o e => by cases e), hb9⟩
  | true =>
    go_wp2_with (first | fail | (refine wpList_load_blk rfl 32 _ rfl (p') 32 #[.int .i64 aR, .int .i64 aN, .int .i64 aS, .int .i64 aB, .int .i64 aC, .int .i64 aT, .int .i64 aU, .int .i64 aK, .int .i64 aL, .int .i64 aQ, .string aY, .string aV, .int .i64 aZ, .slice aA an ac, .int .i64 aE, .int .i64 aG] _ rfl HKP.out Tryz.underlying32 rfl (by kernel_rfl) ?_))
    refine HOL.out.mono ?_
    rintro e v1 ⟨V1, c1, rfl, hl1, hb1⟩
    simp only at hl1 ⊢
    have hy3 := Blk.new v1 36 #[.int .i64 y.kind, .int .u64 (y.num : Int), .string y.str, .slice V1 y.kids.length c1]
    have hb3 := bel_alloc hb1 (.cells #[.int .i64 y.kind, .int .u64 (y.num : Int), .string y.str, .slice V1 y.kids.length c1] 36)
    have hl3 := hl1.alloc (.cells #[.int .i64 y.kind, .int .u64 (y.num : Int), .string y.str, .slice V1 y.kids.length c1] 36)
    have hs3 := size_alloc v1 (.cells #[.int .i64 y.kind, .int .u64 (y.num : Int), .string y.str, .slice V1 y.kids.length c1] 36)
    obtain ⟨V3, hV3⟩ : ∃ v, v1.alloc (.cells #[.int .i64 y.kind, .int .u64 (y.num : Int), .string y.str, .slice V1 y.kids.length c1] 36) = v := ⟨_, rfl⟩
    rw [hV3] at hy3 hb3 hl3 hs3
    have hbw : Below W.heap.size W V3 := HBX.out.trans (hb3.mono HBX.out.size)
    have hlx := HLX.out.below hbw (fun b hb => by have := HSS.out b hb; have := HSW.out; omega)
    have hsm := refsame_item x y A V1 c c1 (fun b => b < V3.heap.size) V3 (hlx.more fun b hb _ => by have := HSS.out b hb; have := HSW.out; have := hbw.size; omega) (hl3.more fun b hb _ => by omega) (fun b hb => hb)
    rw [HN.out] at hsm
    have HSM := Lib.hid hsm
    have HV3 := Lib.hid hV3
    have HY3 := Lib.hid hy3
    have HB3 := Lib.hid hb3
    have HBW := Lib.hid hbw
    clear hy3 hb3 hl3 hs3 hl1 hb1 hV3 hbw hlx hsm HOL
    go_upto_region 11 with fail
    rw [HV3.out]
    clear HV3
    by_cases hye : ye = 0
    · subst hye
      obtain ⟨x0, x1, x2, x3⟩ := blk4 (HX.out.bel HBW.out)
      obtain ⟨y0, y1, y2, y3⟩ := blk4 HY3.out
      go_wp2_with fail
      refine HSM.out.mono ?_
      rintro e v4 ⟨rfl, hb4⟩
      have HB4 := Lib.hid (HBW.out.trans (hb4.mono HBW.out.size))
      have HK4 := Lib.hid ((HKP.out.bel HB3.out).bel hb4)
      have HR4 := Lib.hid ((HRS.out.below HB3.out).below hb4)
      clear hb4 x0 x1 x2 x3 y0 y1 y2 y3
      generalize same x y = sm at HTK ⊢
      cases sm with
      | false =>
        have HZ := Lib.hid (show refOldRc x = none from HTK.out)
        have HXX := Lib.hid (HR0.out.bel (HB4.out))
        have HBE := Lib.hid (HB4.out)
        go_wp2_with (first | fail | (refine wpList_store_blk rfl 32 _ _ rfl (w.heap.size + 1) 32 #[.int .i64 0, .int .i64 0, .int .i64 0, .int .i64 0, .int .i64 0, .int .i64 0, .int .i64 0, .int .i64 0, .int .i64 0, .int .i64 0, .string ⟨#[]⟩, .string ⟨#[]⟩, .int .i64 0, .slice none 0 0, .int .i64 0, .int .i64 0] #[.int .i64 0, .int .i64 0, .int .i64 0, .int .i64 0, .int .i64 0, .int .i64 0, .int .i64 0, .int .i64 0, .int .i64 0, .int .i64 0, .string ⟨#[]⟩, .string ⟨#[]⟩, .int .i64 0, .slice none 0 0, .int .i64 0, .int .i64 0] rfl rfl HXX.out (by kernel_rfl) rfl (by kernel_rfl) ?_; intro w9 hblk2 hgr))
        refine bodyPost_ret (v := .tuple #[.agg #[.int .i64 0, .int .i64 0, .int .i64 0, .int .i64 0, .int .i64 0, .int .i64 0, .int .i64 0, .int .i64 0, .int .i64 0, .int .i64 0, .string ⟨#[]⟩, .string ⟨#[]⟩, .int .i64 0, .slice none 0 0, .int .i64 0, .int .i64 0], .bool false]) (results_blk_tmp Tryz.results17 _ _ (w.heap.size + 1) 32 _ _ _ rfl rfl hblk2 Tryz.underlying32 rfl (by kernel_rfl)) rfl ?_
        have hsz := HB0.out.size
        have hsw := HSW.out
        have hb9 : Below w.heap.size w w9 := (HB0.out.trans (HBE.out.mono HB0.out.size)).trans (gr_below hgr (by have := HBE.out.size; omega) fun b hb => by injection hb with hb; omega)
        rw [HZ.out]
        exact ⟨zeroRc, none, 0, 0, rfl, rfl, Rs.nil_ _, (fun g o e => by cases e), hb9⟩
      | true =>
        have HZ := Lib.hid (show refOldRc x = some ⟨(aR, aN), aS, (aB, aC), (aT, aU), ⟨aK, aL, aQ, aY, aV, aZ⟩, ⟨al, aE, aG⟩⟩ from HTK.out)
        have HXX := Lib.hid (HR0.out.bel (HB4.out))
        have HBE := Lib.hid (HB4.out)
        go_wp2_with (first | fail | (refine wpList_store_blk rfl 32 _ _ rfl (w.heap.size + 1) 32 #[.int .i64 0, .int .i64 0, .int .i64 0, .int .i64 0, .int .i64 0, .int .i64 0, .int .i64 0, .int .i64 0, .int .i64 0, .int .i64 0, .string ⟨#[]⟩, .string ⟨#[]⟩, .int .i64 0, .slice none 0 0, .int .i64 0, .int .i64 0] #[.int .i64 aR, .int .i64 aN, .int .i64 aS, .int .i64 aB, .int .i64 aC, .int .i64 aT, .int .i64 aU, .int .i64 aK, .int .i64 aL, .int .i64 aQ, .string aY, .string aV, .int .i64 aZ, .slice aA an ac, .int .i64 aE, .int .i64 aG] rfl rfl HXX.out (by kernel_rfl) rfl (by kernel_rfl) ?_; intro w9 hblk2 hgr) | (refine wpList_load_blk rfl 32 _ rfl (p') 32 #[.int .i64 aR, .int .i64 aN, .int .i64 aS, .int .i64 aB, .int .i64 aC, .int .i64 aT, .int .i64 aU, .int .i64 aK, .int .i64 aL, .int .i64 aQ, .string aY, .string aV, .int .i64 aZ, .slice aA an ac, .int .i64 aE, .int .i64 aG] _ rfl HK4.out Tryz.underlying32 rfl (by kernel_rfl) ?_))
        refine bodyPost_ret (v := .tuple #[.agg #[.int .i64 aR, .int .i64 aN, .int .i64 aS, .int .i64 aB, .int .i64 aC, .int .i64 aT, .int .i64 aU, .int .i64 aK, .int .i64 aL, .int .i64 aQ, .string aY, .string aV, .int .i64 aZ, .slice aA an ac, .int .i64 aE, .int .i64 aG], .bool true]) (results_blk_tmp Tryz.results17 _ _ (w.heap.size + 1) 32 _ _ _ rfl rfl hblk2 Tryz.underlying32 rfl (by kernel_rfl)) rfl ?_
        have hsz := HB0.out.size
        have hsw := HSW.out
        have hb9 : Below w.heap.size w w9 := (HB0.out.trans (HBE.out.mono HB0.out.size)).trans (gr_below hgr (by have := HBE.out.size; omega) fun b hb => by injection hb with hb; omega)
        rw [HZ.out]
        have hrs9 := HR4.out.grown hgr (fun g o e => by have := HNEW.out g o e; intro e; injection e with e; omega)
        exact ⟨⟨(aR, aN), aS, (aB, aC), (aT, aU), ⟨aK, aL, aQ, aY, aV, aZ⟩, ⟨al, aE, aG⟩⟩, aA, an, ac, rfl, rfl, hrs9, (fun g o e => by have := HNEW.out g o e; omega), hb9⟩
    · have hyb : (ye != 0) = true := bne_iff_ne.2 hye
      have hyf : (ye == 0) = false := beq_eq_false_iff_ne.2 hye
      have hz := HTK.out
      rw [hyf] at hz
      have HZ := Lib.hid (show refOldRc x = none from hz)
      clear hz hyf
      have HXX := Lib.hid (HR0.out.bel (HBW.out))
      have HBE := Lib.hid (HBW.out)
      go_wp2_with (first | fail | (refine wpList_store_blk rfl 32 _ _ rfl (w.heap.size + 1) 32 #[.int .i64 0, .int .i64 0, .int .i64 0, .int .i64 0, .int .i64 0, .int .i64 0, .int .i64 0, .int .i64 0, .int .i64 0, .int .i64 0, .string ⟨#[]⟩, .string ⟨#[]⟩, .int .i64 0, .slice none 0 0, .int .i64 0, .int .i64 0] #[.int .i64 0, .int .i64 0, .int .i64 0, .int .i64 0, .int .i64 0, .int .i64 0, .int .i64 0, .int .i64 0, .int .i64 0, .int .i64 0, .string ⟨#[]⟩, .string ⟨#[]⟩, .int .i64 0, .slice none 0 0, .int .i64 0, .int .i64 0] rfl rfl HXX.out (by kernel_rfl) rfl (by kernel_rfl) ?_; intro w9 hblk2 hgr))
      refine bodyPost_ret (v := .tuple #[.agg #[.int .i64 0, .int .i64 0, .int .i64 0, .int .i64 0, .int .i64 0, .int .i64 0, .int .i64 0, .int .i64 0, .int .i64 0, .int .i64 0, .string ⟨#[]⟩, .string ⟨#[]⟩, .int .i64 0, .slice none 0 0, .int .i64 0, .int .i64 0], .bool false]) (results_blk_tmp Tryz.results17 _ _ (w.heap.size + 1) 32 _ _ _ rfl rfl hblk2 Tryz.underlying32 rfl (by kernel_rfl)) rfl ?_
      have hsz := HB0.out.size
      have hsw := HSW.out
      have hb9 : Below w.heap.size w w9 := (HB0.out.trans (HBE.out.mono HB0.out.size)).trans (gr_below hgr (by have := HBE.out.size; omega) fun b hb => by injection hb with hb; omega)
      rw [HZ.out]
      exact ⟨zeroRc, none, 0, 0, rfl, rfl, Rs.nil_ _, (fun g o e => by cases e), hb9⟩
end Go.Proofs.YtbjooblaamjppaaGreat.Rk
