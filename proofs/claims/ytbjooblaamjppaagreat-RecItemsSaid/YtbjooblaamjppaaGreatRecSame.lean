/-
  Texts of earlier layers, as one.
-/
import Derived.Test.YtbjooblaamjppaaGreatRecSmall
/- rec.Check, Same and GoesOn, and the document's Right, Same and GoesOn. -/
namespace Go.Proofs.YtbjooblaamjppaaGreat.Rk
open Go.RowKit Mem Ids Att

set_option maxRecDepth 10000 in
set_option maxHeartbeats 4000000 in
theorem rcheck_any (aR aN aS aB aC aT aU aK aL aQ : Int) (aY aV : ByteArray) (aZ : Int) (aA : Option Addr) (an ac : Nat) (aE aG : Int) (al : List (Int × Int)) (w : World) (ha : Rs w aA an ac al) :
    Calls Tryz.prog 19 #[.agg #[.int .i64 aR, .int .i64 aN, .int .i64 aS, .int .i64 aB, .int .i64 aC, .int .i64 aT, .int .i64 aU, .int .i64 aK, .int .i64 aL, .int .i64 aQ, .string aY, .string aV, .int .i64 aZ, .slice aA an ac, .int .i64 aE, .int .i64 aG]] w (Checks (rchk ⟨(aR, aN), aS, (aB, aC), (aT, aU), ⟨aK, aL, aQ, aY, aV, aZ⟩, ⟨al, aE, aG⟩⟩) w) := by
  obtain ⟨k1, hbb⟩ := box1 w 32 #[.int .i64 aR, .int .i64 aN, .int .i64 aS, .int .i64 aB, .int .i64 aC, .int .i64 aT, .int .i64 aU, .int .i64 aK, .int .i64 aL, .int .i64 aQ, .string aY, .string aV, .int .i64 aZ, .slice aA an ac, .int .i64 aE, .int .i64 aG]
  have HKa := Lib.hid k1
  have HB := Lib.hid hbb
  have HRa := Lib.hid (ha.below hbb)
  clear hbb k1 ha
  obtain ⟨T, hT⟩ : ∃ T, rchk ⟨(aR, aN), aS, (aB, aC), (aT, aU), ⟨aK, aL, aQ, aY, aV, aZ⟩, ⟨al, aE, aG⟩⟩ = T := ⟨_, rfl⟩
  rw [hT]
  unfold rchk rgt at hT
  simp only at hT
  have H1 := Lib.hid (fun w => right_any (aR, aN) w)
  have H2 := Lib.hid (fun w => promised_any (aB, aC) (aT, aU) w)
  have H3 := Lib.hid (fun w (h : Rs w aA an ac al) => filled_any aR aN aS aB aC aT aU aK aL aQ aY aV aZ aA an ac aE aG al w h)
  generalize right (aR, aN) = r1 at H1 hT
  generalize promised (aB, aC) (aT, aU) = r2 at H2 hT
  generalize filled ⟨(aR, aN), aS, (aB, aC), (aT, aU), ⟨aK, aL, aQ, aY, aV, aZ⟩, ⟨al, aE, aG⟩⟩ = r3 at H3 hT
  have HT := Lib.hid hT
  clear hT
  go_enter Tryz.func19, Tryz.ntmps19
  go_wp2_with fail
  refine (H1.out _).mono ?_
  rintro e u1 ⟨rfl, hb1⟩
  replace HB := Lib.hid (bel_trans HB.out hb1)
  replace HKa := Lib.hid (HKa.out.bel hb1)
  replace HRa := Lib.hid (HRa.out.below hb1)
  clear hb1 
  cases r1 with
  | false =>
    go_wp2_with fail
    go_ret
    exact ⟨by rw [← HT.out]; first | rfl | (simp; done), HB.out⟩
  | true =>
    obtain ⟨xa0, xa1, xa2, xa3, xa4, xa5, xa6, xa7, xa8, xa9, xa10, xa11, xa12, xa13, xa14, xa15⟩ := blk16 HKa.out
    go_wp2_with fail
    refine (H2.out _).mono ?_
    rintro e u2 ⟨rfl, hb1⟩
    replace HB := Lib.hid (bel_trans HB.out hb1)
    replace HKa := Lib.hid (HKa.out.bel hb1)
    replace HRa := Lib.hid (HRa.out.below hb1)
    clear hb1 xa0 xa1 xa2 xa3 xa4 xa5 xa6 xa7 xa8 xa9 xa10 xa11 xa12 xa13 xa14 xa15
    cases r2 with
    | false =>
      go_wp2_with fail
      go_ret
      exact ⟨by rw [← HT.out]; first | rfl | (simp; done), HB.out⟩
    | true =>
      obtain ⟨xa0, xa1, xa2, xa3, xa4, xa5, xa6, xa7, xa8, xa9, xa10, xa11, xa12, xa13, xa14, xa15⟩ := blk16 HKa.out
      go_wp2_with fail
      refine (H3.out _ HRa.out).mono ?_
      rintro e u3 ⟨rfl, hb1⟩
      replace HB := Lib.hid (bel_trans HB.out hb1)
      replace HKa := Lib.hid (HKa.out.bel hb1)
      replace HRa := Lib.hid (HRa.out.below hb1)
      clear hb1 xa0 xa1 xa2 xa3 xa4 xa5 xa6 xa7 xa8 xa9 xa10 xa11 xa12 xa13 xa14 xa15
      cases r3 with
      | false =>
        go_wp2_with fail
        go_ret
        exact ⟨by rw [← HT.out]; first | rfl | (simp; done), HB.out⟩
      | true =>
        go_wp2_with fail
        go_ret
        exact ⟨by rw [← HT.out]; first | rfl | (simp; done), HB.out⟩
set_option maxRecDepth 10000 in
set_option maxHeartbeats 4000000 in
theorem rsame_any (aR aN aS aB aC aT aU aK aL aQ : Int) (aY aV : ByteArray) (aZ : Int) (aA : Option Addr) (an ac : Nat) (aE aG : Int) (al : List (Int × Int)) (bR bN bS bB bC bT bU bK bL bQ : Int) (bY bV : ByteArray) (bZ : Int) (bA : Option Addr) (bn bc : Nat) (bE bG : Int) (bl : List (Int × Int)) (w : World) (ha : Rs w aA an ac al) (hb : Rs w bA bn bc bl) :
    Calls Tryz.prog 20 #[.agg #[.int .i64 aR, .int .i64 aN, .int .i64 aS, .int .i64 aB, .int .i64 aC, .int .i64 aT, .int .i64 aU, .int .i64 aK, .int .i64 aL, .int .i64 aQ, .string aY, .string aV, .int .i64 aZ, .slice aA an ac, .int .i64 aE, .int .i64 aG], .agg #[.int .i64 bR, .int .i64 bN, .int .i64 bS, .int .i64 bB, .int .i64 bC, .int .i64 bT, .int .i64 bU, .int .i64 bK, .int .i64 bL, .int .i64 bQ, .string bY, .string bV, .int .i64 bZ, .slice bA bn bc, .int .i64 bE, .int .i64 bG]] w (Tells (rsame ⟨(aR, aN), aS, (aB, aC), (aT, aU), ⟨aK, aL, aQ, aY, aV, aZ⟩, ⟨al, aE, aG⟩⟩ ⟨(bR, bN), bS, (bB, bC), (bT, bU), ⟨bK, bL, bQ, bY, bV, bZ⟩, ⟨bl, bE, bG⟩⟩) w) := by
  obtain ⟨k1, k2, hbb⟩ := two_boxes w 32 #[.int .i64 aR, .int .i64 aN, .int .i64 aS, .int .i64 aB, .int .i64 aC, .int .i64 aT, .int .i64 aU, .int .i64 aK, .int .i64 aL, .int .i64 aQ, .string aY, .string aV, .int .i64 aZ, .slice aA an ac, .int .i64 aE, .int .i64 aG] #[.int .i64 bR, .int .i64 bN, .int .i64 bS, .int .i64 bB, .int .i64 bC, .int .i64 bT, .int .i64 bU, .int .i64 bK, .int .i64 bL, .int .i64 bQ, .string bY, .string bV, .int .i64 bZ, .slice bA bn bc, .int .i64 bE, .int .i64 bG]
  have HKa := Lib.hid k1
  have HKb := Lib.hid k2
  have HB := Lib.hid hbb
  have HRa := Lib.hid (ha.below hbb)
  have HRb := Lib.hid (hb.below hbb)
  clear hbb k1 k2 ha hb
  obtain ⟨T, hT⟩ : ∃ T, rsame ⟨(aR, aN), aS, (aB, aC), (aT, aU), ⟨aK, aL, aQ, aY, aV, aZ⟩, ⟨al, aE, aG⟩⟩ ⟨(bR, bN), bS, (bB, bC), (bT, bU), ⟨bK, bL, bQ, bY, bV, bZ⟩, ⟨bl, bE, bG⟩⟩ = T := ⟨_, rfl⟩
  rw [hT]
  unfold rsame at hT
  simp only at hT
  have e1 := fun w => eql_id (aR, aN) (bR, bN) w
  have e2 := fun w => Bal.eql_bal (aB, aC) (bB, bC) w
  have e3 := fun w => Bal.eql_bal (aT, aU) (bT, bU) w
  simp only at e1 e2 e3
  generalize decide (((aR, aN) : Int × Int) = (bR, bN)) = r1 at e1 hT
  generalize decide (((aB, aC) : Int × Int) = (bB, bC)) = r2 at e2 hT
  generalize decide (((aT, aU) : Int × Int) = (bT, bU)) = r3 at e3 hT
  have H1 := Lib.hid (fun w (h : Rs w aA an ac al) (h' : Rs w bA bn bc bl) => offer_any aR aN aS aB aC aT aU aK aL aQ aY aV aZ aA an ac aE aG al bR bN bS bB bC bT bU bK bL bQ bY bV bZ bA bn bc bE bG bl w h h')
  generalize offer ⟨(aR, aN), aS, (aB, aC), (aT, aU), ⟨aK, aL, aQ, aY, aV, aZ⟩, ⟨al, aE, aG⟩⟩ ⟨(bR, bN), bS, (bB, bC), (bT, bU), ⟨bK, bL, bQ, bY, bV, bZ⟩, ⟨bl, bE, bG⟩⟩ = r5 at H1 hT
  have HT := Lib.hid hT
  clear hT
  cases r1 with
  | false =>
    go_enter Tryz.func20, Tryz.ntmps20
    go_wp2_with fail
    go_ret
    exact ⟨by rw [← HT.out]; first | rfl | (simp; done), HB.out⟩
  | true =>
    by_cases hS : aS = bS
    · subst hS
      cases r2 with
      | false =>
        go_enter Tryz.func20, Tryz.ntmps20
        go_wp2_with fail
        go_ret
        exact ⟨by rw [← HT.out]; first | rfl | (simp; done), HB.out⟩
      | true =>
        cases r3 with
        | false =>
          go_enter Tryz.func20, Tryz.ntmps20
          go_wp2_with fail
          go_ret
          exact ⟨by rw [← HT.out]; first | rfl | (simp; done), HB.out⟩
        | true =>
          go_enter Tryz.func20, Tryz.ntmps20
          go_wp2_with fail
          refine (H1.out _ HRa.out HRb.out).mono ?_
          rintro e u1 ⟨rfl, hb1⟩
          replace HB := Lib.hid (bel_trans HB.out hb1)
          replace HKa := Lib.hid (HKa.out.bel hb1)
          replace HKb := Lib.hid (HKb.out.bel hb1)
          replace HRa := Lib.hid (HRa.out.below hb1)
          replace HRb := Lib.hid (HRb.out.below hb1)
          clear hb1 
          cases r5
          all_goals
            go_wp2_with fail
            go_ret
            exact ⟨by rw [← HT.out]; first | rfl | (simp; done), HB.out⟩
    · have b1 : (aS == bS) = false := beq_false_of_ne hS
      go_enter Tryz.func20, Tryz.ntmps20
      go_wp2_with fail
      go_ret
      exact ⟨by rw [← HT.out]; simp [hS], HB.out⟩
set_option maxRecDepth 10000 in
set_option maxHeartbeats 4000000 in
theorem refrsame_any (aR aN aS aB aC aT aU aK aL aQ : Int) (aY aV : ByteArray) (aZ : Int) (aA : Option Addr) (an ac : Nat) (aE aG : Int) (al : List (Int × Int)) (bR bN bS bB bC bT bU bK bL bQ : Int) (bY bV : ByteArray) (bZ : Int) (bA : Option Addr) (bn bc : Nat) (bE bG : Int) (bl : List (Int × Int)) (w : World) (ha : Rs w aA an ac al) (hb : Rs w bA bn bc bl) :
    Calls Tryz.prog 12 #[.agg #[.int .i64 aR, .int .i64 aN, .int .i64 aS, .int .i64 aB, .int .i64 aC, .int .i64 aT, .int .i64 aU, .int .i64 aK, .int .i64 aL, .int .i64 aQ, .string aY, .string aV, .int .i64 aZ, .slice aA an ac, .int .i64 aE, .int .i64 aG], .agg #[.int .i64 bR, .int .i64 bN, .int .i64 bS, .int .i64 bB, .int .i64 bC, .int .i64 bT, .int .i64 bU, .int .i64 bK, .int .i64 bL, .int .i64 bQ, .string bY, .string bV, .int .i64 bZ, .slice bA bn bc, .int .i64 bE, .int .i64 bG]] w (Tells (rsame ⟨(aR, aN), aS, (aB, aC), (aT, aU), ⟨aK, aL, aQ, aY, aV, aZ⟩, ⟨al, aE, aG⟩⟩ ⟨(bR, bN), bS, (bB, bC), (bT, bU), ⟨bK, bL, bQ, bY, bV, bZ⟩, ⟨bl, bE, bG⟩⟩) w) := by
  obtain ⟨k1, k2, hbb⟩ := two_boxes w 32 #[.int .i64 aR, .int .i64 aN, .int .i64 aS, .int .i64 aB, .int .i64 aC, .int .i64 aT, .int .i64 aU, .int .i64 aK, .int .i64 aL, .int .i64 aQ, .string aY, .string aV, .int .i64 aZ, .slice aA an ac, .int .i64 aE, .int .i64 aG] #[.int .i64 bR, .int .i64 bN, .int .i64 bS, .int .i64 bB, .int .i64 bC, .int .i64 bT, .int .i64 bU, .int .i64 bK, .int .i64 bL, .int .i64 bQ, .string bY, .string bV, .int .i64 bZ, .slice bA bn bc, .int .i64 bE, .int .i64 bG]
  have HKa := Lib.hid k1
  have HKb := Lib.hid k2
  have HB := Lib.hid hbb
  have HRa := Lib.hid (ha.below hbb)
  have HRb := Lib.hid (hb.below hbb)
  clear hbb k1 k2 ha hb
  obtain ⟨T, hT⟩ : ∃ T, rsame ⟨(aR, aN), aS, (aB, aC), (aT, aU), ⟨aK, aL, aQ, aY, aV, aZ⟩, ⟨al, aE, aG⟩⟩ ⟨(bR, bN), bS, (bB, bC), (bT, bU), ⟨bK, bL, bQ, bY, bV, bZ⟩, ⟨bl, bE, bG⟩⟩ = T := ⟨_, rfl⟩
  rw [hT]
  unfold rsame at hT
  unfold offer at hT
  simp only at hT
  have e1 := fun w => eql_id (aR, aN) (bR, bN) w
  have e2 := fun w => Bal.eql_bal (aB, aC) (bB, bC) w
  have e3 := fun w => Bal.eql_bal (aT, aU) (bT, bU) w
  simp only at e1 e2 e3
  generalize decide (((aR, aN) : Int × Int) = (bR, bN)) = r1 at e1 hT
  generalize decide (((aB, aC) : Int × Int) = (bB, bC)) = r2 at e2 hT
  generalize decide (((aT, aU) : Int × Int) = (bT, bU)) = r3 at e3 hT
  have e4 := fun w => Cw.eql_cmd aK aL aQ aY aV aZ bK bL bQ bY bV bZ w
  have H1 := Lib.hid (fun w (h : Rs w aA an ac al) (h' : Rs w bA bn bc bl) => refasame_any al aE aG aA an ac bl bE bG bA bn bc w h h')
  generalize Cmd.eqv ⟨aK, aL, aQ, aY, aV, aZ⟩ ⟨bK, bL, bQ, bY, bV, bZ⟩ = r4 at e4 hT
  generalize asame ⟨al, aE, aG⟩ ⟨bl, bE, bG⟩ = r5 at H1 hT
  have HT := Lib.hid hT
  clear hT
  cases r1 with
  | false =>
    go_enter Tryz.func12, Tryz.ntmps12
    go_wp2_with fail
    go_ret
    exact ⟨by rw [← HT.out]; first | rfl | (simp; done), HB.out⟩
  | true =>
    by_cases hS : aS = bS
    · subst hS
      cases r2 with
      | false =>
        go_enter Tryz.func12, Tryz.ntmps12
        go_wp2_with fail
        go_ret
        exact ⟨by rw [← HT.out]; first | rfl | (simp; done), HB.out⟩
      | true =>
        cases r3 with
        | false =>
          go_enter Tryz.func12, Tryz.ntmps12
          go_wp2_with fail
          go_ret
          exact ⟨by rw [← HT.out]; first | rfl | (simp; done), HB.out⟩
        | true =>
          cases r4 with
          | false =>
            go_enter Tryz.func12, Tryz.ntmps12
            go_wp2_with fail
            go_ret
            exact ⟨by rw [← HT.out]; first | rfl | (simp; done), HB.out⟩
          | true =>
            go_enter Tryz.func12, Tryz.ntmps12
            go_wp2_with fail
            refine (H1.out _ HRa.out HRb.out).mono ?_
            rintro e u1 ⟨rfl, hb1⟩
            replace HB := Lib.hid (bel_trans HB.out hb1)
            replace HKa := Lib.hid (HKa.out.bel hb1)
            replace HKb := Lib.hid (HKb.out.bel hb1)
            replace HRa := Lib.hid (HRa.out.below hb1)
            replace HRb := Lib.hid (HRb.out.below hb1)
            clear hb1 
            cases r5
            all_goals
              go_wp2_with fail
              go_ret
              exact ⟨by rw [← HT.out]; first | rfl | (simp; done), HB.out⟩
    · have b1 : (aS == bS) = false := beq_false_of_ne hS
      go_enter Tryz.func12, Tryz.ntmps12
      go_wp2_with fail
      go_ret
      exact ⟨by rw [← HT.out]; simp [hS], HB.out⟩
set_option maxRecDepth 10000 in
set_option maxHeartbeats 4000000 in
theorem great_any (aR aN aS aB aC aT aU aK aL aQ : Int) (aY aV : ByteArray) (aZ : Int) (aA : Option Addr) (an ac : Nat) (aE aG : Int) (al : List (Int × Int)) (w : World) (ha : Rs w aA an ac al) :
    Calls Tryz.prog 4 #[.agg #[.int .i64 aR, .int .i64 aN, .int .i64 aS, .int .i64 aB, .int .i64 aC, .int .i64 aT, .int .i64 aU, .int .i64 aK, .int .i64 aL, .int .i64 aQ, .string aY, .string aV, .int .i64 aZ, .slice aA an ac, .int .i64 aE, .int .i64 aG]] w (Tells (decide (al.length > 60) || Cmd.great ⟨aK, aL, aQ, aY, aV, aZ⟩) w) := by
  obtain ⟨k1, hbb⟩ := box1 w 32 #[.int .i64 aR, .int .i64 aN, .int .i64 aS, .int .i64 aB, .int .i64 aC, .int .i64 aT, .int .i64 aU, .int .i64 aK, .int .i64 aL, .int .i64 aQ, .string aY, .string aV, .int .i64 aZ, .slice aA an ac, .int .i64 aE, .int .i64 aG]
  have HKa := Lib.hid k1
  have HB := Lib.hid hbb
  have HRa := Lib.hid (ha.below hbb)
  clear hbb k1 ha
  obtain ⟨T, hT⟩ : ∃ T, (decide (al.length > 60) || Cmd.great ⟨aK, aL, aQ, aY, aV, aZ⟩) = T := ⟨_, rfl⟩
  rw [hT]
  have H1 := Lib.hid (fun w => Cw.great_any aK aL aQ aY aV aZ w)
  generalize Cmd.great ⟨aK, aL, aQ, aY, aV, aZ⟩ = r1 at H1 hT
  rw [HRa.out.len] at hT
  have HT := Lib.hid hT
  clear hT
  go_enter Tryz.func4, Tryz.ntmps4
  by_cases hn : an > 60
  · have b1 : decide (60 < (an : Int)) = true := decide_eq_true (by omega)
    go_wp2_with fail
    go_ret
    exact ⟨by rw [← HT.out]; simp; omega, HB.out⟩
  · have b1 : decide (60 < (an : Int)) = false := decide_eq_false (by omega)
    go_wp2_with fail
    refine (H1.out _).mono ?_
    rintro e u1 ⟨rfl, hb1⟩
    replace HB := Lib.hid (bel_trans HB.out hb1)
    replace HKa := Lib.hid (HKa.out.bel hb1)
    replace HRa := Lib.hid (HRa.out.below hb1)
    clear hb1 
    go_wp2_with fail
    go_ret
    exact ⟨by rw [← HT.out]; rw [decide_eq_false hn]; rfl, HB.out⟩
end Go.Proofs.YtbjooblaamjppaaGreat.Rk
