/-
  Texts of earlier layers, as one.
-/
import Derived.Test.YtjfpfbagckckkaaGreatDoorRecSmall
/- rec.Check, Same and GoesOn, and the document's Right, Same and GoesOn. -/
namespace Go.Proofs.YtjfpfbagckckkaaGreatDoor.Rk
open Go.RowKit Mem Ids Att
set_option maxRecDepth 10000 in
set_option maxHeartbeats 4000000 in
theorem rcheck_any (aR aN aS aB aC aT aU aK aL aQ : Int) (aY aV : ByteArray) (aZ : Int) (aA : Option Addr) (an ac : Nat) (aE aG : Int) (al : List (Int × Int)) (w : World) (ha : Rs w aA an ac al) :
 Calls Tryz.prog 64 #[.agg #[.int .i64 aR, .int .i64 aN, .int .i64 aS, .int .i64 aB, .int .i64 aC, .int .i64 aT, .int .i64 aU, .int .i64 aK, .int .i64 aL, .int .i64 aQ, .string aY, .string aV, .int .i64 aZ, .slice aA an ac, .int .i64 aE, .int .i64 aG]] w (Checks (rchk ⟨(aR, aN), aS, (aB, aC), (aT, aU), ⟨aK, aL, aQ, aY, aV, aZ⟩, ⟨al, aE, aG⟩⟩) w) := by
 obtain ⟨k1, hbb⟩ := box1 w 66 #[.int .i64 aR, .int .i64 aN, .int .i64 aS, .int .i64 aB, .int .i64 aC, .int .i64 aT, .int .i64 aU, .int .i64 aK, .int .i64 aL, .int .i64 aQ, .string aY, .string aV, .int .i64 aZ, .slice aA an ac, .int .i64 aE, .int .i64 aG]
 have HKa := Lib.hid k1
 have HB := Lib.hid hbb
 have HRa := Lib.hid (ha.below hbb)
 clear hbb k1 ha
 obtain ⟨T, hT⟩ : ∃ T, rchk ⟨(aR, aN), aS, (aB, aC), (aT, aU), ⟨aK, aL, aQ, aY, aV, aZ⟩, ⟨al, aE, aG⟩⟩ = T := ⟨_, rfl⟩
 rw [hT]
 unfold rchk rgt at hT
 simp only at hT
 have H1 := Lib.hid (fun w => right_any (aR, aN) w)
 have H2 := Lib.hid (fun w => promised_any (aB, aC) (aT, aU) w)
 have H3 := Lib.hid (fun w (h : Rs w aA an ac al) => filled_any aR aN aS aB aC aT aU aK aL aQ aY aV aZ aA an ac aE aG al w h)
 generalize right (aR, aN) = r1 at H1 hT
 generalize promised (aB, aC) (aT, aU) = r2 at H2 hT
 generalize filled ⟨(aR, aN), aS, (aB, aC), (aT, aU), ⟨aK, aL, aQ, aY, aV, aZ⟩, ⟨al, aE, aG⟩⟩ = r3 at H3 hT
 have HT := Lib.hid hT
 clear hT
 go_enter Tryz.func64, Tryz.ntmps64
 go_wp2_with fail
 refine (H1.out _).mono ?_
 rintro e u1 ⟨rfl, hb1⟩
 replace HB := Lib.hid (bel_trans HB.out hb1)
 replace HKa := Lib.hid (HKa.out.bel hb1)
 replace HRa := Lib.hid (HRa.out.below hb1)
 clear hb1 
 cases r1 with
 | false =>
   go_wp2_with fail
   go_ret
   exact ⟨by rw [← HT.out]; first | rfl | (simp; done), HB.out⟩
 | true =>
   obtain ⟨xa0, xa1, xa2, xa3, xa4, xa5, xa6, xa7, xa8, xa9, xa10, xa11, xa12, xa13, xa14, xa15⟩ := blk16 HKa.out
   go_wp2_with fail
   refine (H2.out _).mono ?_
   rintro e u2 ⟨rfl, hb1⟩
   replace HB := Lib.hid (bel_trans HB.out hb1)
   replace HKa := Lib.hid (HKa.out.bel hb1)
   replace HRa := Lib.hid (HRa.out.below hb1)
   clear hb1 xa0 xa1 xa2 xa3 xa4 xa5 xa6 xa7 xa8 xa9 xa10 xa11 xa12 xa13 xa14 xa15
   cases r2 with
   | false =>
     go_wp2_with fail
     go_ret
     exact ⟨by rw [← HT.out]; first | rfl | (simp; done), HB.out⟩
   | true =>
     obtain ⟨xa0, xa1, xa2, xa3, xa4, xa5, xa6, xa7, xa8, xa9, xa10, xa11, xa12, xa13, xa14, xa15⟩ := blk16 HKa.out
     go_wp2_with fail
     refine (H3.out _ HRa.out).mono ?_
     rintro e u3 ⟨rfl, hb1⟩
     replace HB := Lib.hid (bel_trans HB.out hb1)
     replace HKa := Lib.hid (HKa.out.bel hb1)
     replace HRa := Lib.hid (HRa.out.below hb1)
     clear hb1 xa0 xa1 xa2 xa3 xa4 xa5 xa6 xa7 xa8 xa9 xa10 xa11 xa12 xa13 xa14 xa15
     cases r3 with
     | false =>
       go_wp2_with fail
       go_ret
       exact ⟨by rw [← HT.out]; first | rfl | (simp; done), HB.out⟩
     | true =>
       go_wp2_with fail
       go_ret
       exact ⟨by rw [← HT.out]; first | rfl | (simp; done), HB.out⟩
end Go.Proofs.YtjfpfbagckckkaaGreatDoor.Rk
