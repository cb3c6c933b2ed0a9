/-
  Texts of earlier layers, as one.
-/
import Derived.Test.YthlhchaoedcdbaaGreatDoorRecSmall
/- The document's Right of a record. -/
namespace Go.Proofs.YthlhchaoedcdbaaGreatDoor.Rk
open Lib (hid)
open Go.RowKit Mem Ids Att
set_option maxRecDepth 10000 in
set_option maxHeartbeats 4000000 in
theorem refright_any (aR aN aS aB aC aT aU aK aL aQ : Int) (aY aV : ByteArray) (aZ : Int) (aA : Option Addr) (an ac : Nat) (aE aG : Int) (al : List (Int × Int)) (w : World) (ha : Rs w aA an ac al) (hy : aY.size ≤ 1073741824) :
 Calls Tryz.prog 58 #[.agg #[.int .i64 aR, .int .i64 aN, .int .i64 aS, .int .i64 aB, .int .i64 aC, .int .i64 aT, .int .i64 aU, .int .i64 aK, .int .i64 aL, .int .i64 aQ, .string aY, .string aV, .int .i64 aZ, .slice aA an ac, .int .i64 aE, .int .i64 aG]] w (Tells (rgt ⟨(aR, aN), aS, (aB, aC), (aT, aU), ⟨aK, aL, aQ, aY, aV, aZ⟩, ⟨al, aE, aG⟩⟩) w) := by
 obtain ⟨k1, hbb⟩ := box1 w 92 #[.int .i64 aR, .int .i64 aN, .int .i64 aS, .int .i64 aB, .int .i64 aC, .int .i64 aT, .int .i64 aU, .int .i64 aK, .int .i64 aL, .int .i64 aQ, .string aY, .string aV, .int .i64 aZ, .slice aA an ac, .int .i64 aE, .int .i64 aG];have HKa := hid k1;have HB := hid hbb;have HRa := hid (ha.below hbb);clear hbb k1 ha;obtain ⟨T, hT⟩ : ∃ T, rgt ⟨(aR, aN), aS, (aB, aC), (aT, aU), ⟨aK, aL, aQ, aY, aV, aZ⟩, ⟨al, aE, aG⟩⟩ = T := ⟨_, rfl⟩
 rw [hT];unfold rgt promised at hT;simp only at hT;have H1 := hid (fun w => Go.Proofs.YthlhchaoedcdbaaGreatDoor.refright_any (aR, aN) w);have H2 := hid (fun w => Bal.refright_any (aB, aC) w);have H3 := hid (fun w => Bal.refright_any (aT, aU) w);have H4 := hid (fun w => Bal.refless_any (aB, aC) (aT, aU) w);generalize right (aR, aN) = r1 at H1 hT;generalize Bal.right (aB, aC) = r2 at H2 hT;generalize Bal.right (aT, aU) = r3 at H3 hT;generalize Bal.less (aB, aC) (aT, aU) = r4 at H4 hT
 have ef : ¬ (0 ≤ aS ∧ aS ≤ 3) → filled ⟨(aR, aN), aS, (aB, aC), (aT, aU), ⟨aK, aL, aQ, aY, aV, aZ⟩, ⟨al, aE, aG⟩⟩ = false := by
  intro h;unfold filled;rw [if_neg (by show ¬ aS = 0; omega), if_neg (by show ¬ (aS = 1 ∨ aS = 2 ∨ aS = 3); omega)]
 have H5 := hid (fun w => Cw.refcheck_any aK aL aQ aY aV aZ w hy);have H6 := hid (fun w (h : Rs w aA an ac al) => refacheck_any al aE aG aA an ac w h);have H7 := hid (fun w (h : Rs w aA an ac al) => refhas_any al (aR, aN) aA an ac w h)
 have e0 : filled ⟨(aR, aN), 0, (aB, aC), (aT, aU), ⟨aK, aL, aQ, aY, aV, aZ⟩, ⟨al, aE, aG⟩⟩ = (decide ((aT, aU) = ((0, 0) : Int × Int)) && Cmd.eqv ⟨aK, aL, aQ, aY, aV, aZ⟩ ⟨0, 0, 0, ⟨#[]⟩, ⟨#[]⟩, 0⟩ && (decide (al = []) && decide (aE = 0) && decide (aG = 0))) := by
  unfold filled;rw [if_pos (show (0 : Int) = 0 from rfl)];rw [Bool.eq_iff_iff];simp only [Bool.and_eq_true, decide_eq_true_eq, offer_iff, Cmd.eqv_iff];constructor
  · rintro ⟨h1, h2, h3⟩
    have h4 : (⟨al, aE, aG⟩ : At) = ⟨[], 0, 0⟩ := h3;injection h4 with p q r;exact ⟨⟨h1, h2⟩, ⟨p, q⟩, r⟩
  · rintro ⟨⟨h1, h2⟩, ⟨p, q⟩, r⟩
    exact ⟨h1, h2, by show (⟨al, aE, aG⟩ : At) = ⟨[], 0, 0⟩; rw [p, q, r]⟩
 have e3 : ∀ s, s = 1 ∨ s = 2 ∨ s = 3 → filled ⟨(aR, aN), s, (aB, aC), (aT, aU), ⟨aK, aL, aQ, aY, aV, aZ⟩, ⟨al, aE, aG⟩⟩ = (decide (Cmd.chk ⟨aK, aL, aQ, aY, aV, aZ⟩ = 0) && decide (achk ⟨al, aE, aG⟩ = 0) && !decide ((aR, aN) ∈ al)) := by
  intro s hs;unfold filled;rw [if_neg (by show ¬ s = 0; omega), if_pos hs]
 have HL := hid (HRa.out.len);have q1 := fun w => Bal.eql_bal (aT, aU) (0, 0) w;have q2 := fun w => Cw.eql_cmd aK aL aQ aY aV aZ 0 0 0 ⟨#[]⟩ ⟨#[]⟩ 0 w;simp only at q1;generalize decide ((aT, aU) = ((0, 0) : Int × Int)) = s1 at q1 e0;generalize Cmd.eqv ⟨aK, aL, aQ, aY, aV, aZ⟩ ⟨0, 0, 0, ⟨#[]⟩, ⟨#[]⟩, 0⟩ = s2 at q2 e0;generalize decide ((aR, aN) ∈ al) = t3 at H7 e3;generalize achk ⟨al, aE, aG⟩ = v2 at H6 e3;generalize Cmd.chk ⟨aK, aL, aQ, aY, aV, aZ⟩ = v1 at H5 e3;have HT := hid hT;have EF := hid ef;have E0 := hid e0;have E3 := hid e3;clear hT ef e0 e3 hy;go_enter Tryz.func58, Tryz.ntmps58
 go_wp2_with fail
 refine (H1.out _).mono ?_;rintro e u1 ⟨rfl, hb1⟩;replace HB := hid (bel_trans HB.out hb1);replace HKa := hid (HKa.out.bel hb1);replace HRa := hid (HRa.out.below hb1);clear hb1 ;cases r1 with
 | false =>
   go_wp2_with fail
   go_ret;exact ⟨by rw [← HT.out]; first | rfl | (simp; done), HB.out⟩
 | true =>
   by_cases hs0 : aS < 0
   · have b1 : decide (aS < 0) = true := decide_eq_true hs0
     obtain ⟨xa0, xa1, xa2, xa3, xa4, xa5, xa6, xa7, xa8, xa9, xa10, xa11, xa12, xa13, xa14, xa15⟩ := blk16 HKa.out;go_wp2_with fail
     go_ret;exact ⟨by rw [← HT.out]; rw [EF.out (by omega)]; cases r2 <;> cases r3 <;> cases r4 <;> rfl, HB.out⟩
   · have b1 : decide (aS < 0) = false := decide_eq_false hs0
     by_cases hs3 : 3 < aS
     · have b2 : decide (3 < aS) = true := decide_eq_true hs3
       obtain ⟨xa0, xa1, xa2, xa3, xa4, xa5, xa6, xa7, xa8, xa9, xa10, xa11, xa12, xa13, xa14, xa15⟩ := blk16 HKa.out;go_wp2_with fail
       go_ret;exact ⟨by rw [← HT.out]; rw [EF.out (by omega)]; cases r2 <;> cases r3 <;> cases r4 <;> rfl, HB.out⟩
     · have b2 : decide (3 < aS) = false := decide_eq_false hs3
       obtain ⟨xa0, xa1, xa2, xa3, xa4, xa5, xa6, xa7, xa8, xa9, xa10, xa11, xa12, xa13, xa14, xa15⟩ := blk16 HKa.out;go_wp2_with fail
       refine (H2.out _).mono ?_;rintro e u2 ⟨rfl, hb1⟩;replace HB := hid (bel_trans HB.out hb1);replace HKa := hid (HKa.out.bel hb1);replace HRa := hid (HRa.out.below hb1);clear hb1 xa0 xa1 xa2 xa3 xa4 xa5 xa6 xa7 xa8 xa9 xa10 xa11 xa12 xa13 xa14 xa15;cases r2 with
       | false =>
         go_wp2_with fail
         go_ret;exact ⟨by rw [← HT.out]; first | rfl | (simp; done), HB.out⟩
       | true =>
         obtain ⟨xa0, xa1, xa2, xa3, xa4, xa5, xa6, xa7, xa8, xa9, xa10, xa11, xa12, xa13, xa14, xa15⟩ := blk16 HKa.out;go_wp2_with fail
         refine (H3.out _).mono ?_;rintro e u3 ⟨rfl, hb1⟩;replace HB := hid (bel_trans HB.out hb1);replace HKa := hid (HKa.out.bel hb1);replace HRa := hid (HRa.out.below hb1);clear hb1 xa0 xa1 xa2 xa3 xa4 xa5 xa6 xa7 xa8 xa9 xa10 xa11 xa12 xa13 xa14 xa15;cases r3 with
         | false =>
           go_wp2_with fail
           go_ret;exact ⟨by rw [← HT.out]; first | rfl | (simp; done), HB.out⟩
         | true =>
           obtain ⟨xa0, xa1, xa2, xa3, xa4, xa5, xa6, xa7, xa8, xa9, xa10, xa11, xa12, xa13, xa14, xa15⟩ := blk16 HKa.out;go_wp2_with fail
           refine (H4.out _).mono ?_;rintro e u4 ⟨rfl, hb1⟩;replace HB := hid (bel_trans HB.out hb1);replace HKa := hid (HKa.out.bel hb1);replace HRa := hid (HRa.out.below hb1);clear hb1 xa0 xa1 xa2 xa3 xa4 xa5 xa6 xa7 xa8 xa9 xa10 xa11 xa12 xa13 xa14 xa15;cases r4 with
           | false =>
             by_cases h0 : aS = 0
             · subst h0
               replace HT := hid (by have h := HT.out; rw [E0.out] at h; exact h);obtain ⟨xa0, xa1, xa2, xa3, xa4, xa5, xa6, xa7, xa8, xa9, xa10, xa11, xa12, xa13, xa14, xa15⟩ := blk16 HKa.out;cases s1 with
               | false =>
                 go_wp2_with fail
                 go_ret;exact ⟨by rw [← HT.out]; first | rfl | (simp; done), HB.out⟩
               | true =>
                 cases s2 with
                 | false =>
                   go_wp2_with fail
                   go_ret;exact ⟨by rw [← HT.out]; first | rfl | (simp; done), HB.out⟩
                 | true =>
                   by_cases hn : an = 0
                   · subst hn
                     have hl : al = [] := List.eq_nil_of_length_eq_zero HL.out;subst hl;by_cases hE : aE = 0
                     · subst hE
                       by_cases hG : aG = 0
                       · subst hG
                         go_wp2_with fail
                         go_ret;exact ⟨by rw [← HT.out]; first | rfl | (simp; done), HB.out⟩
                       · have b1 : (aG == 0) = false := beq_false_of_ne hG
                         go_wp2_with fail
                         go_ret;exact ⟨by rw [← HT.out]; simp [hG], HB.out⟩
                     · have b1 : (aE == 0) = false := beq_false_of_ne hE
                       go_wp2_with fail
                       go_ret;exact ⟨by rw [← HT.out]; simp [hE], HB.out⟩
                   · have b1 : ((an : Int) == 0) = false := beq_false_of_ne (by omega)
                     have hl : ¬ al = [] := fun e => hn (by rw [← HL.out, e]; rfl);have HLL := hid hl;clear hl;go_wp2_with fail
                     go_ret;exact ⟨by rw [← HT.out]; simp [HLL.out], HB.out⟩
             · have h3 : aS = 1 ∨ aS = 2 ∨ aS = 3 := by omega
               replace HT := hid (by have h := HT.out; rw [E3.out _ h3] at h; exact h);have b0 : (aS == 0) = false := beq_false_of_ne h0;clear h3 h0;obtain ⟨xa0, xa1, xa2, xa3, xa4, xa5, xa6, xa7, xa8, xa9, xa10, xa11, xa12, xa13, xa14, xa15⟩ := blk16 HKa.out;go_wp2_with fail
               refine (H5.out _).mono ?_;rintro e u5 ⟨rfl, hb1⟩;replace HB := hid (bel_trans HB.out hb1);replace HKa := hid (HKa.out.bel hb1);replace HRa := hid (HRa.out.below hb1);clear hb1 xa0 xa1 xa2 xa3 xa4 xa5 xa6 xa7 xa8 xa9 xa10 xa11 xa12 xa13 xa14 xa15;by_cases hv1 : v1 = 0
               · subst hv1
                 obtain ⟨xa0, xa1, xa2, xa3, xa4, xa5, xa6, xa7, xa8, xa9, xa10, xa11, xa12, xa13, xa14, xa15⟩ := blk16 HKa.out;go_wp2_with fail
                 refine (H6.out _ HRa.out).mono ?_;rintro e u6 ⟨rfl, hb1⟩;replace HB := hid (bel_trans HB.out hb1);replace HKa := hid (HKa.out.bel hb1);replace HRa := hid (HRa.out.below hb1);clear hb1 xa0 xa1 xa2 xa3 xa4 xa5 xa6 xa7 xa8 xa9 xa10 xa11 xa12 xa13 xa14 xa15;by_cases hv2 : v2 = 0
                 · subst hv2
                   obtain ⟨xa0, xa1, xa2, xa3, xa4, xa5, xa6, xa7, xa8, xa9, xa10, xa11, xa12, xa13, xa14, xa15⟩ := blk16 HKa.out;go_wp2_with fail
                   refine (H7.out _ HRa.out).mono ?_;rintro e u7 ⟨rfl, hb1⟩;replace HB := hid (bel_trans HB.out hb1);replace HKa := hid (HKa.out.bel hb1);replace HRa := hid (HRa.out.below hb1);clear hb1 xa0 xa1 xa2 xa3 xa4 xa5 xa6 xa7 xa8 xa9 xa10 xa11 xa12 xa13 xa14 xa15;cases t3
                   all_goals
                    go_wp2_with fail
                    go_ret;exact ⟨by rw [← HT.out]; first | rfl | (simp; done), HB.out⟩
                 · have hv : (v2 == 0) = false := beq_false_of_ne hv2
                   go_wp2_with fail
                   go_ret;exact ⟨by rw [← HT.out]; simp [hv2], HB.out⟩
               · have hv : (v1 == 0) = false := beq_false_of_ne hv1
                 go_wp2_with fail
                 go_ret;exact ⟨by rw [← HT.out]; simp [hv1], HB.out⟩
           | true =>
             go_wp2_with fail
             go_ret;exact ⟨by rw [← HT.out]; first | rfl | (simp; done), HB.out⟩
end Go.Proofs.YthlhchaoedcdbaaGreatDoor.Rk
