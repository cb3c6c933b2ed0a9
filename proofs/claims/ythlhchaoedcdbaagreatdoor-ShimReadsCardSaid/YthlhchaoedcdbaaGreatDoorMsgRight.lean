/-
  Texts of earlier layers, as one.
-/
import Derived.Test.YthlhchaoedcdbaaGreatDoorMsgBase
import Derived.Test.YthlhchaoedcdbaaGreatDoorRecRight
/- The document's Right of a message. -/
namespace Go.Proofs.YthlhchaoedcdbaaGreatDoor.Mg
open Lib (hid)
open Go.RowKit Mem Ids Att Rk
set_option maxRecDepth 100000 in
set_option maxHeartbeats 8000000 in
theorem refmright_any (aM aR aN aB aC aT aU aS aK aL aQ : Int) (aY aV : ByteArray) (aZ : Int) (aA : Option Addr) (an ac : Nat) (aE aG aW : Int) (al : List (Int × Int)) (w : World) (ha : Rs w aA an ac al) (hy : aY.size ≤ 1073741824) :
 Calls Tryz.prog 25 #[.agg #[.int .i64 aM, .int .i64 aR, .int .i64 aN, .int .i64 aB, .int .i64 aC, .int .i64 aT, .int .i64 aU, .int .i64 aS, .int .i64 aK, .int .i64 aL, .int .i64 aQ, .string aY, .string aV, .int .i64 aZ, .slice aA an ac, .int .i64 aE, .int .i64 aG, .int .i64 aW]] w (Tells (mright ⟨aM, (aR, aN), (aB, aC), (aT, aU), aS, ⟨aK, aL, aQ, aY, aV, aZ⟩, ⟨al, aE, aG⟩, aW⟩) w) := by
 obtain ⟨k1, hbb⟩ := box1 w 32 #[.int .i64 aM, .int .i64 aR, .int .i64 aN, .int .i64 aB, .int .i64 aC, .int .i64 aT, .int .i64 aU, .int .i64 aS, .int .i64 aK, .int .i64 aL, .int .i64 aQ, .string aY, .string aV, .int .i64 aZ, .slice aA an ac, .int .i64 aE, .int .i64 aG, .int .i64 aW];obtain ⟨W, hW⟩ : ∃ v, w.alloc (.cells #[.int .i64 aM, .int .i64 aR, .int .i64 aN, .int .i64 aB, .int .i64 aC, .int .i64 aT, .int .i64 aU, .int .i64 aS, .int .i64 aK, .int .i64 aL, .int .i64 aQ, .string aY, .string aV, .int .i64 aZ, .slice aA an ac, .int .i64 aE, .int .i64 aG, .int .i64 aW] 32) = v := ⟨_, rfl⟩
 rw [hW] at k1 hbb;have HKa := hid k1;have HB := hid hbb;have HW := hid hW;have HC := hid (Below.refl W.heap.size W);have HRa := hid (ha.below hbb);obtain ⟨T, hT⟩ : ∃ T, mright ⟨aM, (aR, aN), (aB, aC), (aT, aU), aS, ⟨aK, aL, aQ, aY, aV, aZ⟩, ⟨al, aE, aG⟩, aW⟩ = T := ⟨_, rfl⟩
 rw [hT];unfold mright at hT;simp only at hT
 have f1 : (decide (aM < 1) || decide (9 < aM)) = false → hId ⟨aM, (aR, aN), (aB, aC), (aT, aU), aS, ⟨aK, aL, aQ, aY, aV, aZ⟩, ⟨al, aE, aG⟩, aW⟩ = false → (!decide (aM = 9)) = false ∧ (!decide (aM = 7)) = true ∧ hBal ⟨aM, (aR, aN), (aB, aC), (aT, aU), aS, ⟨aK, aL, aQ, aY, aV, aZ⟩, ⟨al, aE, aG⟩, aW⟩ = false ∧ hCmd ⟨aM, (aR, aN), (aB, aC), (aT, aU), aS, ⟨aK, aL, aQ, aY, aV, aZ⟩, ⟨al, aE, aG⟩, aW⟩ = false := by
  intro h1 h2;unfold hId at h2;simp at h1 h2;have h9 : aM = 9 := by omega
  subst h9;exact ⟨rfl, rfl, rfl, rfl⟩
 have f2 : hId ⟨aM, (aR, aN), (aB, aC), (aT, aU), aS, ⟨aK, aL, aQ, aY, aV, aZ⟩, ⟨al, aE, aG⟩, aW⟩ = true → (!decide (aM = 9)) = true := by
  intro h2;unfold hId at h2;simp at h2 ⊢;omega
 have f3 : hId ⟨aM, (aR, aN), (aB, aC), (aT, aU), aS, ⟨aK, aL, aQ, aY, aV, aZ⟩, ⟨al, aE, aG⟩, aW⟩ = true → hBal ⟨aM, (aR, aN), (aB, aC), (aT, aU), aS, ⟨aK, aL, aQ, aY, aV, aZ⟩, ⟨al, aE, aG⟩, aW⟩ = false → hCmd ⟨aM, (aR, aN), (aB, aC), (aT, aU), aS, ⟨aK, aL, aQ, aY, aV, aZ⟩, ⟨al, aE, aG⟩, aW⟩ = true ∧ (!decide (aM = 7)) = true := by
  intro h1 h2;unfold hBal at h2;rw [h1] at h2;simp at h2;subst h2;exact ⟨rfl, rfl⟩
 obtain ⟨u1, p1⟩ : ∃ t, decide (aM < 1) = t := ⟨_, rfl⟩
 obtain ⟨u2, p2⟩ : ∃ t, decide (9 < aM) = t := ⟨_, rfl⟩
 rw [p1, p2] at hT f1;obtain ⟨r1, h1⟩ : ∃ t, (u1 || u2) = t := ⟨_, rfl⟩
 obtain ⟨r3, h3⟩ : ∃ t, more ⟨aM, (aR, aN), (aB, aC), (aT, aU), aS, ⟨aK, aL, aQ, aY, aV, aZ⟩, ⟨al, aE, aG⟩, aW⟩ = t := ⟨_, rfl⟩
 obtain ⟨r5, h5⟩ : ∃ t, hung ⟨aM, (aR, aN), (aB, aC), (aT, aU), aS, ⟨aK, aL, aQ, aY, aV, aZ⟩, ⟨al, aE, aG⟩, aW⟩ = t := ⟨_, rfl⟩
 obtain ⟨r7, h7⟩ : ∃ t, wrong ⟨aM, (aR, aN), (aB, aC), (aT, aU), aS, ⟨aK, aL, aQ, aY, aV, aZ⟩, ⟨al, aE, aG⟩, aW⟩ = t := ⟨_, rfl⟩
 obtain ⟨r9, h9⟩ : ∃ t, wrongAt ⟨aM, (aR, aN), (aB, aC), (aT, aU), aS, ⟨aK, aL, aQ, aY, aV, aZ⟩, ⟨al, aE, aG⟩, aW⟩ = t := ⟨_, rfl⟩
 rw [h1, h3, h5, h7, h9] at hT;rw [h1] at f1;unfold more at h3;unfold hung at h5;unfold wrong at h7;unfold wrongAt at h9;simp only at h3 h5 h7 h9;rw [HRa.out.len] at h5;have C1 := hid (fun w => id_any aM aR aN aB aC aT aU aS aK aL aQ aY aV aZ aA an ac aE aG aW al w);have C2 := hid (fun w => bal_any aM aR aN aB aC aT aU aS aK aL aQ aY aV aZ aA an ac aE aG aW al w);have C3 := hid (fun w => command_any aM aR aN aB aC aT aU aS aK aL aQ aY aV aZ aA an ac aE aG aW al w);have C4 := hid (fun w => hangs_any aM aR aN aB aC aT aU aS aK aL aQ aY aV aZ aA an ac aE aG aW al w);have C5 := hid (fun w => Go.Proofs.YthlhchaoedcdbaaGreatDoor.refright_any (aR, aN) w);have C6 := hid (fun w => Bal.refright_any (aB, aC) w);have C7 := hid (fun w => Cw.refcheck_any aK aL aQ aY aV aZ w hy);have C8 := hid (fun w (h : Rs w aA an ac al) => refacheck_any al aE aG aA an ac w h);have C9 := hid (fun w (h : Rs w aA an ac al) => refhas_any al (aR, aN) aA an ac w h);have C0 := hid (fun w (h : Rs w aA an ac al) => Rk.refright_any aR aN aS aB aC aT aU aK aL aQ aY aV aZ aA an ac aE aG al w h hy);have q1 := fun w => neq_id (aR, aN) (0, 0) w;have q2 := fun w => Bal.neq_bal (aB, aC) (0, 0) w;have q3 := fun w => Bal.neq_bal (aT, aU) (0, 0) w;have q4 : ∀ w, Sem.run Tryz.prog (binOp .neq 27 (.agg #[.int .i64 aK, .int .i64 aL, .int .i64 aQ, .string aY, .string aV, .int .i64 aZ]) (.agg #[.int .i64 0, .int .i64 0, .int .i64 0, .string ⟨#[]⟩, .string ⟨#[]⟩, .int .i64 0])) w = .ok (.bool (!Cmd.eqv ⟨aK, aL, aQ, aY, aV, aZ⟩ Cmd.zeroCm)) w := fun w => Cw.neq_cmd aK aL aQ aY aV aZ 0 0 0 ⟨#[]⟩ ⟨#[]⟩ 0 w;have q5 : (aM != 7) = !decide (aM = 7) := rfl;have q6 : (aS != 0) = !decide (aS = 0) := rfl;have q7 : (aM != 9) = !decide (aM = 9) := rfl;have q8 : (aW != 0) = !decide (aW = 0) := rfl;have q9 : (aE != 0) = !decide (aE = 0) := rfl;have q10 : (aG != 0) = !decide (aG = 0) := rfl;obtain ⟨d0, q11⟩ : ∃ t, decide (0 < an) = t := ⟨_, rfl⟩
 rw [q11] at h5;have q14 : decide ((0 : Int) < (an : Int)) = d0 := by rw [← q11]; by_cases h : 0 < an <;> simp [h] <;> omega
 have q12 : (Cmd.chk ⟨aK, aL, aQ, aY, aV, aZ⟩ != 0) = !decide (Cmd.chk ⟨aK, aL, aQ, aY, aV, aZ⟩ = 0) := rfl;have q13 : (achk ⟨al, aE, aG⟩ != 0) = !decide (achk ⟨al, aE, aG⟩ = 0) := rfl;simp only at q1 q2 q3;generalize hId ⟨aM, (aR, aN), (aB, aC), (aT, aU), aS, ⟨aK, aL, aQ, aY, aV, aZ⟩, ⟨al, aE, aG⟩, aW⟩ = ti at C1 h3 h7 f1 f2 f3;generalize hBal ⟨aM, (aR, aN), (aB, aC), (aT, aU), aS, ⟨aK, aL, aQ, aY, aV, aZ⟩, ⟨al, aE, aG⟩, aW⟩ = tb at C2 h3 h7 f1 f3;generalize hCmd ⟨aM, (aR, aN), (aB, aC), (aT, aU), aS, ⟨aK, aL, aQ, aY, aV, aZ⟩, ⟨al, aE, aG⟩, aW⟩ = tc at C3 h3 h7 f1 f3;generalize hAt ⟨aM, (aR, aN), (aB, aC), (aT, aU), aS, ⟨aK, aL, aQ, aY, aV, aZ⟩, ⟨al, aE, aG⟩, aW⟩ = th at C4 h5 h9;generalize right (aR, aN) = ri at C5 h7;generalize Bal.right (aB, aC) = rb at C6 h7;generalize (!decide (((aR, aN) : Int × Int) = (0, 0))) = e1 at q1 h3;generalize (!decide (((aB, aC) : Int × Int) = (0, 0))) = e2 at q2 h3;generalize (!decide (((aT, aU) : Int × Int) = (0, 0))) = e3 at q3 h3;generalize (!Cmd.eqv ⟨aK, aL, aQ, aY, aV, aZ⟩ Cmd.zeroCm) = e4 at q4 h3;generalize (!decide (aM = 7)) = k7 at q5 h3 f1 f3;generalize (!decide (aS = 0)) = s0 at q6 h3;generalize (!decide (aM = 9)) = k9 at q7 h3 f1 f2;generalize (!decide (aW = 0)) = v0 at q8 h3;generalize (!decide (aE = 0)) = d1 at q9 h5;generalize (!decide (aG = 0)) = d2 at q10 h5;generalize Cmd.chk ⟨aK, aL, aQ, aY, aV, aZ⟩ = cc at C7 q12 h7;generalize (!decide (cc = 0)) = e5 at q12 h7;generalize achk ⟨al, aE, aG⟩ = ca at C8 q13 h9;generalize (!decide (ca = 0)) = e6 at q13 h9;generalize decide ((aR, aN) ∈ al) = tm at C9 h9;have HT := hid hT;have HF1 := hid f1;have HF2 := hid f2;have HF3 := hid f3;have H3 := hid h3;have H5 := hid h5;have H7 := hid h7;have H9 := hid h9;have H1 := hid h1;clear hbb hW k1 ha hy hT h1 h3 h5 h7 h9 f1 f2 f3;go_enter Tryz.func25, Tryz.ntmps25
 go_upto_region 1 with fail
 rw [HW.out];go_cut [10] from 3 (fun cv wx => cv = .bool r1 ∧ Below W.heap.size W wx)
 case first =>
  as_aux_lemma =>
   cases u1 with
   | false =>
     cases u2 with
     | false =>
       have xa0 := (HKa.out.bel HC.out).cell 0;simp at xa0;go_wp2_with fail
       go_meet
       case rel => exact ⟨congrArg Value.bool H1.out, HC.out⟩
     | true =>
       have xa0 := (HKa.out.bel HC.out).cell 0;simp at xa0;go_wp2_with fail
       go_meet
       case rel => exact ⟨congrArg Value.bool H1.out, HC.out⟩
   | true =>
     have xa0 := (HKa.out.bel HC.out).cell 0;simp at xa0;go_wp2_with fail
     go_meet
     case rel => exact ⟨congrArg Value.bool H1.out, HC.out⟩
 case rest =>
  obtain ⟨rfl, hbx⟩ := hcut;generalize wc = Wx at hbx ⊢;replace HC := hid hbx;clear hbx H1;cases r1 with
  | false =>
    go_upto_region 3 with fail
    go_cut [67] from 3 (fun cv wx => cv = .bool r3 ∧ Below W.heap.size W wx)
    case first =>
     as_aux_lemma =>
      obtain ⟨xa0, xa1, xa2, xa3, xa4, xa5, xa6, xa7, xa8, xa9, xa10, xa11, xa12, xa13, -, -, -, xa17⟩ := blk18 (HKa.out.bel HC.out);go_wp2_with (first | (with_reducible refine wpList_load_blk_w 32 _ rfl w.heap.size 32 _ _ ?_ ?_ (HKa.out.bel HC.out) Tryz.underlying32 ?_ ?_ ?_; (focus kernel_rfl); (focus kernel_rfl); (focus rfl); (focus kernel_rfl)))
      refine (C1.out _).mono ?_;rintro e u1 ⟨rfl, hb1⟩;replace HC := hid (bel_trans HC.out hb1);clear hb1;clear xa0 xa1 xa2 xa3 xa4 xa5 xa6 xa7 xa8 xa9 xa10 xa11 xa12 xa13 xa17;cases ti with
      | false =>
        obtain ⟨e9, e7, eb, ec⟩ := HF1.out (by simp) (by simp);subst e9 e7 eb ec;cases e1 with
        | false =>
          obtain ⟨xa0, xa1, xa2, xa3, xa4, xa5, xa6, xa7, xa8, xa9, xa10, xa11, xa12, xa13, -, -, -, xa17⟩ := blk18 (HKa.out.bel HC.out);go_wp2_with (first | (with_reducible refine wpList_load_blk_w 32 _ rfl w.heap.size 32 _ _ ?_ ?_ (HKa.out.bel HC.out) Tryz.underlying32 ?_ ?_ ?_; (focus kernel_rfl); (focus kernel_rfl); (focus rfl); (focus kernel_rfl)))
          refine (C2.out _).mono ?_;rintro e u2 ⟨rfl, hb1⟩;replace HC := hid (bel_trans HC.out hb1);clear hb1;clear xa0 xa1 xa2 xa3 xa4 xa5 xa6 xa7 xa8 xa9 xa10 xa11 xa12 xa13 xa17;cases e2 with
          | false =>
            cases s0 with
            | false =>
              cases e3 with
              | false =>
                obtain ⟨xa0, xa1, xa2, xa3, xa4, xa5, xa6, xa7, xa8, xa9, xa10, xa11, xa12, xa13, -, -, -, xa17⟩ := blk18 (HKa.out.bel HC.out);go_wp2_with (first | (with_reducible refine wpList_load_blk_w 32 _ rfl w.heap.size 32 _ _ ?_ ?_ (HKa.out.bel HC.out) Tryz.underlying32 ?_ ?_ ?_; (focus kernel_rfl); (focus kernel_rfl); (focus rfl); (focus kernel_rfl)))
                refine (C3.out _).mono ?_;rintro e u3 ⟨rfl, hb1⟩;replace HC := hid (bel_trans HC.out hb1);clear hb1;clear xa0 xa1 xa2 xa3 xa4 xa5 xa6 xa7 xa8 xa9 xa10 xa11 xa12 xa13 xa17;cases e4 with
                | false =>
                  obtain ⟨xa0, xa1, xa2, xa3, xa4, xa5, xa6, xa7, xa8, xa9, xa10, xa11, xa12, xa13, -, -, -, xa17⟩ := blk18 (HKa.out.bel HC.out);go_wp2_with fail
                  go_meet
                  case rel => exact ⟨congrArg Value.bool H3.out, HC.out⟩
                | true =>
                  obtain ⟨xa0, xa1, xa2, xa3, xa4, xa5, xa6, xa7, xa8, xa9, xa10, xa11, xa12, xa13, -, -, -, xa17⟩ := blk18 (HKa.out.bel HC.out);go_wp2_with fail
                  go_meet
                  case rel => exact ⟨congrArg Value.bool H3.out, HC.out⟩
              | true =>
                obtain ⟨xa0, xa1, xa2, xa3, xa4, xa5, xa6, xa7, xa8, xa9, xa10, xa11, xa12, xa13, -, -, -, xa17⟩ := blk18 (HKa.out.bel HC.out);go_wp2_with fail
                go_meet
                case rel => exact ⟨congrArg Value.bool H3.out, HC.out⟩
            | true =>
              obtain ⟨xa0, xa1, xa2, xa3, xa4, xa5, xa6, xa7, xa8, xa9, xa10, xa11, xa12, xa13, -, -, -, xa17⟩ := blk18 (HKa.out.bel HC.out);go_wp2_with fail
              go_meet
              case rel => exact ⟨congrArg Value.bool H3.out, HC.out⟩
          | true =>
            obtain ⟨xa0, xa1, xa2, xa3, xa4, xa5, xa6, xa7, xa8, xa9, xa10, xa11, xa12, xa13, -, -, -, xa17⟩ := blk18 (HKa.out.bel HC.out);go_wp2_with fail
            go_meet
            case rel => exact ⟨congrArg Value.bool H3.out, HC.out⟩
        | true =>
          obtain ⟨xa0, xa1, xa2, xa3, xa4, xa5, xa6, xa7, xa8, xa9, xa10, xa11, xa12, xa13, -, -, -, xa17⟩ := blk18 (HKa.out.bel HC.out);go_wp2_with fail
          go_meet
          case rel => exact ⟨congrArg Value.bool H3.out, HC.out⟩
      | true =>
        have e9 := HF2.out (by simp);subst e9;obtain ⟨xa0, xa1, xa2, xa3, xa4, xa5, xa6, xa7, xa8, xa9, xa10, xa11, xa12, xa13, -, -, -, xa17⟩ := blk18 (HKa.out.bel HC.out);go_wp2_with (first | (with_reducible refine wpList_load_blk_w 32 _ rfl w.heap.size 32 _ _ ?_ ?_ (HKa.out.bel HC.out) Tryz.underlying32 ?_ ?_ ?_; (focus kernel_rfl); (focus kernel_rfl); (focus rfl); (focus kernel_rfl)))
        refine (C2.out _).mono ?_;rintro e u2 ⟨rfl, hb1⟩;replace HC := hid (bel_trans HC.out hb1);clear hb1;clear xa0 xa1 xa2 xa3 xa4 xa5 xa6 xa7 xa8 xa9 xa10 xa11 xa12 xa13 xa17;cases tb with
        | false =>
          obtain ⟨ec, e7⟩ := HF3.out (by simp) (by simp);subst ec e7
          as_aux_lemma =>
           cases e2 with
           | false =>
             cases s0 with
             | false =>
               cases e3 with
               | false =>
                 obtain ⟨xa0, xa1, xa2, xa3, xa4, xa5, xa6, xa7, xa8, xa9, xa10, xa11, xa12, xa13, -, -, -, xa17⟩ := blk18 (HKa.out.bel HC.out);go_wp2_with (first | (with_reducible refine wpList_load_blk_w 32 _ rfl w.heap.size 32 _ _ ?_ ?_ (HKa.out.bel HC.out) Tryz.underlying32 ?_ ?_ ?_; (focus kernel_rfl); (focus kernel_rfl); (focus rfl); (focus kernel_rfl)))
                 refine (C3.out _).mono ?_;rintro e u3 ⟨rfl, hb1⟩;replace HC := hid (bel_trans HC.out hb1);clear hb1;clear xa0 xa1 xa2 xa3 xa4 xa5 xa6 xa7 xa8 xa9 xa10 xa11 xa12 xa13 xa17;cases v0 with
                 | false =>
                   obtain ⟨xa0, xa1, xa2, xa3, xa4, xa5, xa6, xa7, xa8, xa9, xa10, xa11, xa12, xa13, -, -, -, xa17⟩ := blk18 (HKa.out.bel HC.out);go_wp2_with fail
                   go_meet
                   case rel => exact ⟨congrArg Value.bool H3.out, HC.out⟩
                 | true =>
                   obtain ⟨xa0, xa1, xa2, xa3, xa4, xa5, xa6, xa7, xa8, xa9, xa10, xa11, xa12, xa13, -, -, -, xa17⟩ := blk18 (HKa.out.bel HC.out);go_wp2_with fail
                   go_meet
                   case rel => exact ⟨congrArg Value.bool H3.out, HC.out⟩
               | true =>
                 obtain ⟨xa0, xa1, xa2, xa3, xa4, xa5, xa6, xa7, xa8, xa9, xa10, xa11, xa12, xa13, -, -, -, xa17⟩ := blk18 (HKa.out.bel HC.out);go_wp2_with fail
                 go_meet
                 case rel => exact ⟨congrArg Value.bool H3.out, HC.out⟩
             | true =>
               obtain ⟨xa0, xa1, xa2, xa3, xa4, xa5, xa6, xa7, xa8, xa9, xa10, xa11, xa12, xa13, -, -, -, xa17⟩ := blk18 (HKa.out.bel HC.out);go_wp2_with fail
               go_meet
               case rel => exact ⟨congrArg Value.bool H3.out, HC.out⟩
           | true =>
             obtain ⟨xa0, xa1, xa2, xa3, xa4, xa5, xa6, xa7, xa8, xa9, xa10, xa11, xa12, xa13, -, -, -, xa17⟩ := blk18 (HKa.out.bel HC.out);go_wp2_with fail
             go_meet
             case rel => exact ⟨congrArg Value.bool H3.out, HC.out⟩
        | true =>
          as_aux_lemma =>
           cases k7 with
           | false =>
             obtain ⟨xa0, xa1, xa2, xa3, xa4, xa5, xa6, xa7, xa8, xa9, xa10, xa11, xa12, xa13, -, -, -, xa17⟩ := blk18 (HKa.out.bel HC.out);go_wp2_with (first | (with_reducible refine wpList_load_blk_w 32 _ rfl w.heap.size 32 _ _ ?_ ?_ (HKa.out.bel HC.out) Tryz.underlying32 ?_ ?_ ?_; (focus kernel_rfl); (focus kernel_rfl); (focus rfl); (focus kernel_rfl)))
             refine (C3.out _).mono ?_;rintro e u3 ⟨rfl, hb1⟩;replace HC := hid (bel_trans HC.out hb1);clear hb1;clear xa0 xa1 xa2 xa3 xa4 xa5 xa6 xa7 xa8 xa9 xa10 xa11 xa12 xa13 xa17;cases tc with
             | false =>
               cases e4 with
               | false =>
                 cases v0 with
                 | false =>
                   obtain ⟨xa0, xa1, xa2, xa3, xa4, xa5, xa6, xa7, xa8, xa9, xa10, xa11, xa12, xa13, -, -, -, xa17⟩ := blk18 (HKa.out.bel HC.out);go_wp2_with fail
                   go_meet
                   case rel => exact ⟨congrArg Value.bool H3.out, HC.out⟩
                 | true =>
                   obtain ⟨xa0, xa1, xa2, xa3, xa4, xa5, xa6, xa7, xa8, xa9, xa10, xa11, xa12, xa13, -, -, -, xa17⟩ := blk18 (HKa.out.bel HC.out);go_wp2_with fail
                   go_meet
                   case rel => exact ⟨congrArg Value.bool H3.out, HC.out⟩
               | true =>
                 obtain ⟨xa0, xa1, xa2, xa3, xa4, xa5, xa6, xa7, xa8, xa9, xa10, xa11, xa12, xa13, -, -, -, xa17⟩ := blk18 (HKa.out.bel HC.out);go_wp2_with fail
                 go_meet
                 case rel => exact ⟨congrArg Value.bool H3.out, HC.out⟩
             | true =>
               cases v0 with
               | false =>
                 obtain ⟨xa0, xa1, xa2, xa3, xa4, xa5, xa6, xa7, xa8, xa9, xa10, xa11, xa12, xa13, -, -, -, xa17⟩ := blk18 (HKa.out.bel HC.out);go_wp2_with fail
                 go_meet
                 case rel => exact ⟨congrArg Value.bool H3.out, HC.out⟩
               | true =>
                 obtain ⟨xa0, xa1, xa2, xa3, xa4, xa5, xa6, xa7, xa8, xa9, xa10, xa11, xa12, xa13, -, -, -, xa17⟩ := blk18 (HKa.out.bel HC.out);go_wp2_with fail
                 go_meet
                 case rel => exact ⟨congrArg Value.bool H3.out, HC.out⟩
           | true =>
             cases s0 with
             | false =>
               cases e3 with
               | false =>
                 obtain ⟨xa0, xa1, xa2, xa3, xa4, xa5, xa6, xa7, xa8, xa9, xa10, xa11, xa12, xa13, -, -, -, xa17⟩ := blk18 (HKa.out.bel HC.out);go_wp2_with (first | (with_reducible refine wpList_load_blk_w 32 _ rfl w.heap.size 32 _ _ ?_ ?_ (HKa.out.bel HC.out) Tryz.underlying32 ?_ ?_ ?_; (focus kernel_rfl); (focus kernel_rfl); (focus rfl); (focus kernel_rfl)))
                 refine (C3.out _).mono ?_;rintro e u3 ⟨rfl, hb1⟩;replace HC := hid (bel_trans HC.out hb1);clear hb1;clear xa0 xa1 xa2 xa3 xa4 xa5 xa6 xa7 xa8 xa9 xa10 xa11 xa12 xa13 xa17;cases tc with
                 | false =>
                   cases e4 with
                   | false =>
                     cases v0 with
                     | false =>
                       obtain ⟨xa0, xa1, xa2, xa3, xa4, xa5, xa6, xa7, xa8, xa9, xa10, xa11, xa12, xa13, -, -, -, xa17⟩ := blk18 (HKa.out.bel HC.out);go_wp2_with fail
                       go_meet
                       case rel => exact ⟨congrArg Value.bool H3.out, HC.out⟩
                     | true =>
                       obtain ⟨xa0, xa1, xa2, xa3, xa4, xa5, xa6, xa7, xa8, xa9, xa10, xa11, xa12, xa13, -, -, -, xa17⟩ := blk18 (HKa.out.bel HC.out);go_wp2_with fail
                       go_meet
                       case rel => exact ⟨congrArg Value.bool H3.out, HC.out⟩
                   | true =>
                     obtain ⟨xa0, xa1, xa2, xa3, xa4, xa5, xa6, xa7, xa8, xa9, xa10, xa11, xa12, xa13, -, -, -, xa17⟩ := blk18 (HKa.out.bel HC.out);go_wp2_with fail
                     go_meet
                     case rel => exact ⟨congrArg Value.bool H3.out, HC.out⟩
                 | true =>
                   cases v0 with
                   | false =>
                     obtain ⟨xa0, xa1, xa2, xa3, xa4, xa5, xa6, xa7, xa8, xa9, xa10, xa11, xa12, xa13, -, -, -, xa17⟩ := blk18 (HKa.out.bel HC.out);go_wp2_with fail
                     go_meet
                     case rel => exact ⟨congrArg Value.bool H3.out, HC.out⟩
                   | true =>
                     obtain ⟨xa0, xa1, xa2, xa3, xa4, xa5, xa6, xa7, xa8, xa9, xa10, xa11, xa12, xa13, -, -, -, xa17⟩ := blk18 (HKa.out.bel HC.out);go_wp2_with fail
                     go_meet
                     case rel => exact ⟨congrArg Value.bool H3.out, HC.out⟩
               | true =>
                 obtain ⟨xa0, xa1, xa2, xa3, xa4, xa5, xa6, xa7, xa8, xa9, xa10, xa11, xa12, xa13, -, -, -, xa17⟩ := blk18 (HKa.out.bel HC.out);go_wp2_with fail
                 go_meet
                 case rel => exact ⟨congrArg Value.bool H3.out, HC.out⟩
             | true =>
               obtain ⟨xa0, xa1, xa2, xa3, xa4, xa5, xa6, xa7, xa8, xa9, xa10, xa11, xa12, xa13, -, -, -, xa17⟩ := blk18 (HKa.out.bel HC.out);go_wp2_with fail
               go_meet
               case rel => exact ⟨congrArg Value.bool H3.out, HC.out⟩
    case rest =>
     obtain ⟨rfl, hbx⟩ := hcut;generalize wc = Wx at hbx ⊢;replace HC := hid hbx;clear hbx H3;cases r3 with
     | false =>
       go_upto_region 5 with fail
       go_cut [89] from 3 (fun cv wx => cv = .bool r5 ∧ Below W.heap.size W wx)
       case first =>
        as_aux_lemma =>
         obtain ⟨-, -, -, -, -, -, -, -, -, -, -, -, -, -, xa14, xa15, xa16, -⟩ := blk18 (HKa.out.bel HC.out);go_wp2_with (first | (with_reducible refine wpList_load_blk_w 32 _ rfl w.heap.size 32 _ _ ?_ ?_ (HKa.out.bel HC.out) Tryz.underlying32 ?_ ?_ ?_; (focus kernel_rfl); (focus kernel_rfl); (focus rfl); (focus kernel_rfl)))
         refine (C4.out _).mono ?_;rintro e u1 ⟨rfl, hb1⟩;replace HC := hid (bel_trans HC.out hb1);clear hb1;clear xa14 xa15 xa16;cases th with
         | false =>
           cases d0 with
           | false =>
             have hz : an = 0 := (by have := of_decide_eq_false q11; omega);subst hz;cases d1 with
             | false =>
               cases d2 with
               | false =>
                 obtain ⟨-, -, -, -, -, -, -, -, -, -, -, -, -, -, xa14, xa15, xa16, -⟩ := blk18 (HKa.out.bel HC.out);go_wp2_with fail
                 go_meet
                 case rel => exact ⟨congrArg Value.bool H5.out, HC.out⟩
               | true =>
                 obtain ⟨-, -, -, -, -, -, -, -, -, -, -, -, -, -, xa14, xa15, xa16, -⟩ := blk18 (HKa.out.bel HC.out);go_wp2_with fail
                 go_meet
                 case rel => exact ⟨congrArg Value.bool H5.out, HC.out⟩
             | true =>
               obtain ⟨-, -, -, -, -, -, -, -, -, -, -, -, -, -, xa14, xa15, xa16, -⟩ := blk18 (HKa.out.bel HC.out);go_wp2_with fail
               go_meet
               case rel => exact ⟨congrArg Value.bool H5.out, HC.out⟩
           | true =>
             have hp : 0 < an := of_decide_eq_true q11;have hne : ¬ an = 0 := (by omega);obtain ⟨-, -, -, -, -, -, -, -, -, -, -, -, -, -, xa14, xa15, xa16, -⟩ := blk18 (HKa.out.bel HC.out);go_wp2_with fail
             go_meet
             case rel => exact ⟨congrArg Value.bool H5.out, HC.out⟩
         | true =>
           obtain ⟨-, -, -, -, -, -, -, -, -, -, -, -, -, -, xa14, xa15, xa16, -⟩ := blk18 (HKa.out.bel HC.out);go_wp2_with fail
           go_meet
           case rel => exact ⟨congrArg Value.bool H5.out, HC.out⟩
       case rest =>
        obtain ⟨rfl, hbx⟩ := hcut;generalize wc = Wx at hbx ⊢;replace HC := hid hbx;clear hbx H5;cases r5 with
        | false =>
          go_upto_region 7 with fail
          go_cut [117] from 3 (fun cv wx => cv = .bool r7 ∧ Below W.heap.size W wx)
          case first =>
           as_aux_lemma =>
            obtain ⟨-, xa1, xa2, xa3, xa4, -, -, -, xa8, xa9, xa10, xa11, xa12, xa13, -, -, -, -⟩ := blk18 (HKa.out.bel HC.out);go_wp2_with (first | (with_reducible refine wpList_load_blk_w 32 _ rfl w.heap.size 32 _ _ ?_ ?_ (HKa.out.bel HC.out) Tryz.underlying32 ?_ ?_ ?_; (focus kernel_rfl); (focus kernel_rfl); (focus rfl); (focus kernel_rfl)))
            refine (C1.out _).mono ?_;rintro e u1 ⟨rfl, hb1⟩;replace HC := hid (bel_trans HC.out hb1);clear hb1;clear xa1 xa2 xa3 xa4 xa8 xa9 xa10 xa11 xa12 xa13;cases ti with
            | false =>
              obtain ⟨e9, e7, eb, ec⟩ := HF1.out (by simp) (by simp);subst e9 e7 eb ec;obtain ⟨-, xa1, xa2, xa3, xa4, -, -, -, xa8, xa9, xa10, xa11, xa12, xa13, -, -, -, -⟩ := blk18 (HKa.out.bel HC.out);go_wp2_with (first | (with_reducible refine wpList_load_blk_w 32 _ rfl w.heap.size 32 _ _ ?_ ?_ (HKa.out.bel HC.out) Tryz.underlying32 ?_ ?_ ?_; (focus kernel_rfl); (focus kernel_rfl); (focus rfl); (focus kernel_rfl)))
              refine (C2.out _).mono ?_;rintro e u2 ⟨rfl, hb1⟩;replace HC := hid (bel_trans HC.out hb1);clear hb1;clear xa1 xa2 xa3 xa4 xa8 xa9 xa10 xa11 xa12 xa13;obtain ⟨-, xa1, xa2, xa3, xa4, -, -, -, xa8, xa9, xa10, xa11, xa12, xa13, -, -, -, -⟩ := blk18 (HKa.out.bel HC.out);go_wp2_with (first | (with_reducible refine wpList_load_blk_w 32 _ rfl w.heap.size 32 _ _ ?_ ?_ (HKa.out.bel HC.out) Tryz.underlying32 ?_ ?_ ?_; (focus kernel_rfl); (focus kernel_rfl); (focus rfl); (focus kernel_rfl)))
              refine (C3.out _).mono ?_;rintro e u3 ⟨rfl, hb1⟩;replace HC := hid (bel_trans HC.out hb1);clear hb1;clear xa1 xa2 xa3 xa4 xa8 xa9 xa10 xa11 xa12 xa13;obtain ⟨-, xa1, xa2, xa3, xa4, -, -, -, xa8, xa9, xa10, xa11, xa12, xa13, -, -, -, -⟩ := blk18 (HKa.out.bel HC.out);go_wp2_with fail
              go_meet
              case rel => exact ⟨congrArg Value.bool H7.out, HC.out⟩
            | true =>
              have e9 := HF2.out (by simp);subst e9;obtain ⟨-, xa1, xa2, xa3, xa4, -, -, -, xa8, xa9, xa10, xa11, xa12, xa13, -, -, -, -⟩ := blk18 (HKa.out.bel HC.out);go_wp2_with fail
              refine (C5.out _).mono ?_;rintro e u2 ⟨rfl, hb1⟩;replace HC := hid (bel_trans HC.out hb1);clear hb1;clear xa1 xa2 xa3 xa4 xa8 xa9 xa10 xa11 xa12 xa13;cases ri with
              | false =>
                obtain ⟨-, xa1, xa2, xa3, xa4, -, -, -, xa8, xa9, xa10, xa11, xa12, xa13, -, -, -, -⟩ := blk18 (HKa.out.bel HC.out);go_wp2_with fail
                go_meet
                case rel => exact ⟨congrArg Value.bool H7.out, HC.out⟩
              | true =>
                obtain ⟨-, xa1, xa2, xa3, xa4, -, -, -, xa8, xa9, xa10, xa11, xa12, xa13, -, -, -, -⟩ := blk18 (HKa.out.bel HC.out);go_wp2_with (first | (with_reducible refine wpList_load_blk_w 32 _ rfl w.heap.size 32 _ _ ?_ ?_ (HKa.out.bel HC.out) Tryz.underlying32 ?_ ?_ ?_; (focus kernel_rfl); (focus kernel_rfl); (focus rfl); (focus kernel_rfl)))
                refine (C2.out _).mono ?_;rintro e u3 ⟨rfl, hb1⟩;replace HC := hid (bel_trans HC.out hb1);clear hb1;clear xa1 xa2 xa3 xa4 xa8 xa9 xa10 xa11 xa12 xa13;cases tb with
                | false =>
                  obtain ⟨ec, e7⟩ := HF3.out (by simp) (by simp);subst ec e7
                  as_aux_lemma =>
                   obtain ⟨-, xa1, xa2, xa3, xa4, -, -, -, xa8, xa9, xa10, xa11, xa12, xa13, -, -, -, -⟩ := blk18 (HKa.out.bel HC.out);go_wp2_with (first | (with_reducible refine wpList_load_blk_w 32 _ rfl w.heap.size 32 _ _ ?_ ?_ (HKa.out.bel HC.out) Tryz.underlying32 ?_ ?_ ?_; (focus kernel_rfl); (focus kernel_rfl); (focus rfl); (focus kernel_rfl)))
                   refine (C3.out _).mono ?_;rintro e u4 ⟨rfl, hb1⟩;replace HC := hid (bel_trans HC.out hb1);clear hb1;clear xa1 xa2 xa3 xa4 xa8 xa9 xa10 xa11 xa12 xa13;obtain ⟨-, xa1, xa2, xa3, xa4, -, -, -, xa8, xa9, xa10, xa11, xa12, xa13, -, -, -, -⟩ := blk18 (HKa.out.bel HC.out);go_wp2_with fail
                   refine (C7.out _).mono ?_;rintro e u5 ⟨rfl, hb1⟩;replace HC := hid (bel_trans HC.out hb1);clear hb1;clear xa1 xa2 xa3 xa4 xa8 xa9 xa10 xa11 xa12 xa13;cases e5 with
                   | false =>
                     obtain ⟨-, xa1, xa2, xa3, xa4, -, -, -, xa8, xa9, xa10, xa11, xa12, xa13, -, -, -, -⟩ := blk18 (HKa.out.bel HC.out);go_wp2_with fail
                     go_meet
                     case rel => exact ⟨congrArg Value.bool H7.out, HC.out⟩
                   | true =>
                     obtain ⟨-, xa1, xa2, xa3, xa4, -, -, -, xa8, xa9, xa10, xa11, xa12, xa13, -, -, -, -⟩ := blk18 (HKa.out.bel HC.out);go_wp2_with fail
                     go_meet
                     case rel => exact ⟨congrArg Value.bool H7.out, HC.out⟩
                | true =>
                  as_aux_lemma =>
                   obtain ⟨-, xa1, xa2, xa3, xa4, -, -, -, xa8, xa9, xa10, xa11, xa12, xa13, -, -, -, -⟩ := blk18 (HKa.out.bel HC.out);go_wp2_with fail
                   refine (C6.out _).mono ?_;rintro e u4 ⟨rfl, hb1⟩;replace HC := hid (bel_trans HC.out hb1);clear hb1;clear xa1 xa2 xa3 xa4 xa8 xa9 xa10 xa11 xa12 xa13;cases rb with
                   | false =>
                     obtain ⟨-, xa1, xa2, xa3, xa4, -, -, -, xa8, xa9, xa10, xa11, xa12, xa13, -, -, -, -⟩ := blk18 (HKa.out.bel HC.out);go_wp2_with fail
                     go_meet
                     case rel => exact ⟨congrArg Value.bool H7.out, HC.out⟩
                   | true =>
                     obtain ⟨-, xa1, xa2, xa3, xa4, -, -, -, xa8, xa9, xa10, xa11, xa12, xa13, -, -, -, -⟩ := blk18 (HKa.out.bel HC.out);go_wp2_with (first | (with_reducible refine wpList_load_blk_w 32 _ rfl w.heap.size 32 _ _ ?_ ?_ (HKa.out.bel HC.out) Tryz.underlying32 ?_ ?_ ?_; (focus kernel_rfl); (focus kernel_rfl); (focus rfl); (focus kernel_rfl)))
                     refine (C3.out _).mono ?_;rintro e u5 ⟨rfl, hb1⟩;replace HC := hid (bel_trans HC.out hb1);clear hb1;clear xa1 xa2 xa3 xa4 xa8 xa9 xa10 xa11 xa12 xa13;cases tc with
                     | false =>
                       obtain ⟨-, xa1, xa2, xa3, xa4, -, -, -, xa8, xa9, xa10, xa11, xa12, xa13, -, -, -, -⟩ := blk18 (HKa.out.bel HC.out);go_wp2_with fail
                       go_meet
                       case rel => exact ⟨congrArg Value.bool H7.out, HC.out⟩
                     | true =>
                       obtain ⟨-, xa1, xa2, xa3, xa4, -, -, -, xa8, xa9, xa10, xa11, xa12, xa13, -, -, -, -⟩ := blk18 (HKa.out.bel HC.out);go_wp2_with fail
                       refine (C7.out _).mono ?_;rintro e u6 ⟨rfl, hb1⟩;replace HC := hid (bel_trans HC.out hb1);clear hb1;clear xa1 xa2 xa3 xa4 xa8 xa9 xa10 xa11 xa12 xa13;cases e5 with
                       | false =>
                         obtain ⟨-, xa1, xa2, xa3, xa4, -, -, -, xa8, xa9, xa10, xa11, xa12, xa13, -, -, -, -⟩ := blk18 (HKa.out.bel HC.out);go_wp2_with fail
                         go_meet
                         case rel => exact ⟨congrArg Value.bool H7.out, HC.out⟩
                       | true =>
                         obtain ⟨-, xa1, xa2, xa3, xa4, -, -, -, xa8, xa9, xa10, xa11, xa12, xa13, -, -, -, -⟩ := blk18 (HKa.out.bel HC.out);go_wp2_with fail
                         go_meet
                         case rel => exact ⟨congrArg Value.bool H7.out, HC.out⟩
          case rest =>
           obtain ⟨rfl, hbx⟩ := hcut;generalize wc = Wx at hbx ⊢;replace HC := hid hbx;clear hbx H7;cases r7 with
           | false =>
             go_upto_region 9 with fail
             go_cut [133] from 3 (fun cv wx => cv = .bool r9 ∧ Below W.heap.size W wx)
             case first =>
              as_aux_lemma =>
               obtain ⟨-, xa1, xa2, -, -, -, -, -, -, -, -, -, -, -, xa14, xa15, xa16, -⟩ := blk18 (HKa.out.bel HC.out);go_wp2_with (first | (with_reducible refine wpList_load_blk_w 32 _ rfl w.heap.size 32 _ _ ?_ ?_ (HKa.out.bel HC.out) Tryz.underlying32 ?_ ?_ ?_; (focus kernel_rfl); (focus kernel_rfl); (focus rfl); (focus kernel_rfl)))
               refine (C4.out _).mono ?_;rintro e u1 ⟨rfl, hb1⟩;replace HC := hid (bel_trans HC.out hb1);clear hb1;clear xa1 xa2 xa14 xa15 xa16;cases th with
               | false =>
                 obtain ⟨-, xa1, xa2, -, -, -, -, -, -, -, -, -, -, -, xa14, xa15, xa16, -⟩ := blk18 (HKa.out.bel HC.out);go_wp2_with fail
                 go_meet
                 case rel => exact ⟨congrArg Value.bool H9.out, HC.out⟩
               | true =>
                 obtain ⟨-, xa1, xa2, -, -, -, -, -, -, -, -, -, -, -, xa14, xa15, xa16, -⟩ := blk18 (HKa.out.bel HC.out);go_wp2_with fail
                 refine (C8.out _ (HRa.out.below HC.out)).mono ?_;rintro e u2 ⟨rfl, hb1⟩;replace HC := hid (bel_trans HC.out hb1);clear hb1;clear xa1 xa2 xa14 xa15 xa16;cases e6 with
                 | false =>
                   obtain ⟨-, xa1, xa2, -, -, -, -, -, -, -, -, -, -, -, xa14, xa15, xa16, -⟩ := blk18 (HKa.out.bel HC.out);go_wp2_with fail
                   refine (C9.out _ (HRa.out.below HC.out)).mono ?_;rintro e u3 ⟨rfl, hb1⟩;replace HC := hid (bel_trans HC.out hb1);clear hb1;clear xa1 xa2 xa14 xa15 xa16;cases tm with
                   | false =>
                     obtain ⟨-, xa1, xa2, -, -, -, -, -, -, -, -, -, -, -, xa14, xa15, xa16, -⟩ := blk18 (HKa.out.bel HC.out);go_wp2_with fail
                     go_meet
                     case rel => exact ⟨congrArg Value.bool H9.out, HC.out⟩
                   | true =>
                     obtain ⟨-, xa1, xa2, -, -, -, -, -, -, -, -, -, -, -, xa14, xa15, xa16, -⟩ := blk18 (HKa.out.bel HC.out);go_wp2_with fail
                     go_meet
                     case rel => exact ⟨congrArg Value.bool H9.out, HC.out⟩
                 | true =>
                   obtain ⟨-, xa1, xa2, -, -, -, -, -, -, -, -, -, -, -, xa14, xa15, xa16, -⟩ := blk18 (HKa.out.bel HC.out);go_wp2_with fail
                   go_meet
                   case rel => exact ⟨congrArg Value.bool H9.out, HC.out⟩
             case rest =>
              obtain ⟨rfl, hbx⟩ := hcut;generalize wc = Wx at hbx ⊢;replace HC := hid hbx;clear hbx H9;cases r9 with
              | false =>
                go_upto_region 11 with fail
                by_cases h7 : aM = 7
                · have HT2 := hid (show rgt ⟨(aR, aN), aS, (aB, aC), (aT, aU), ⟨aK, aL, aQ, aY, aV, aZ⟩, ⟨al, aE, aG⟩⟩ = T by have h := HT.out; rw [if_neg (by simp), if_neg (by simp), if_neg (by simp), if_neg (by simp), if_neg (by simp), if_pos h7] at h; exact h)
                  have b1 : (aM == 7) = true := beq_iff_eq.2 h7;obtain ⟨xa0, xa1, xa2, xa3, xa4, xa5, xa6, xa7, xa8, xa9, xa10, xa11, xa12, xa13, xa14, xa15, xa16, xa17⟩ := blk18 (HKa.out.bel HC.out);go_wp2_with fail
                  refine (C0.out _ (HRa.out.below HC.out)).mono ?_;rintro e u1 ⟨rfl, hb1⟩;replace HC := hid (bel_trans HC.out hb1);clear hb1;go_wp2_with fail
                  go_ret;exact ⟨congrArg (fun b => Ending.returned (.bool b)) HT2.out, HB.out.trans (HC.out.mono HB.out.size)⟩
                · have b1 : (aM == 7) = false := beq_false_of_ne h7
                  have ht2 : (!decide (aM = 9) || (decide (aW = 1) || decide (aW = 2))) = T := (by have h := HT.out; rw [if_neg (by simp), if_neg (by simp), if_neg (by simp), if_neg (by simp), if_neg (by simp), if_neg h7] at h; exact h);have b2 : (aM != 9) = !decide (aM = 9) := rfl;have b3 : (aW == 1) = decide (aW = 1) := rfl;have b4 : (aW == 2) = decide (aW = 2) := rfl;clear q5 q7 q8;generalize (!decide (aM = 9)) = z1 at b2 ht2;generalize decide (aW = 1) = z2 at b3 ht2;generalize decide (aW = 2) = z3 at b4 ht2;have HT2 := hid ht2;clear ht2 HT;cases z1 with
                  | false =>
                    cases z2 with
                    | false =>
                      cases z3 with
                      | false =>
                        have xa0 := (HKa.out.bel HC.out).cell 0;have xa17 := (HKa.out.bel HC.out).cell 17;simp at xa0 xa17;go_wp2_with fail
                        go_ret;exact ⟨congrArg (fun b => Ending.returned (.bool b)) HT2.out, HB.out.trans (HC.out.mono HB.out.size)⟩
                      | true =>
                        have xa0 := (HKa.out.bel HC.out).cell 0;have xa17 := (HKa.out.bel HC.out).cell 17;simp at xa0 xa17;go_wp2_with fail
                        go_ret;exact ⟨congrArg (fun b => Ending.returned (.bool b)) HT2.out, HB.out.trans (HC.out.mono HB.out.size)⟩
                    | true =>
                      have xa0 := (HKa.out.bel HC.out).cell 0;have xa17 := (HKa.out.bel HC.out).cell 17;simp at xa0 xa17;go_wp2_with fail
                      go_ret;exact ⟨congrArg (fun b => Ending.returned (.bool b)) HT2.out, HB.out.trans (HC.out.mono HB.out.size)⟩
                  | true =>
                    have xa0 := (HKa.out.bel HC.out).cell 0;have xa17 := (HKa.out.bel HC.out).cell 17;simp at xa0 xa17;go_wp2_with fail
                    go_ret;exact ⟨congrArg (fun b => Ending.returned (.bool b)) HT2.out, HB.out.trans (HC.out.mono HB.out.size)⟩
              | true =>
                go_wp2_with fail
                go_ret;exact ⟨congrArg (fun b => Ending.returned (.bool b)) (show false = T from HT.out), HB.out.trans (HC.out.mono HB.out.size)⟩
           | true =>
             go_wp2_with fail
             go_ret;exact ⟨congrArg (fun b => Ending.returned (.bool b)) (show false = T from HT.out), HB.out.trans (HC.out.mono HB.out.size)⟩
        | true =>
          go_wp2_with fail
          go_ret;exact ⟨congrArg (fun b => Ending.returned (.bool b)) (show false = T from HT.out), HB.out.trans (HC.out.mono HB.out.size)⟩
     | true =>
       go_wp2_with fail
       go_ret;exact ⟨congrArg (fun b => Ending.returned (.bool b)) (show false = T from HT.out), HB.out.trans (HC.out.mono HB.out.size)⟩
  | true =>
    go_wp2_with fail
    go_ret;exact ⟨congrArg (fun b => Ending.returned (.bool b)) (show false = T from HT.out), HB.out.trans (HC.out.mono HB.out.size)⟩
end Go.Proofs.YthlhchaoedcdbaaGreatDoor.Mg
