/-
  Texts of earlier layers, as one.
-/
import Derived.Test.YthlhchaoedcdbaaGreatDoorMsgOw
/- The program's Same of messages. -/
namespace Go.Proofs.YthlhchaoedcdbaaGreatDoor.Mg
open Lib (hid)
open Go.RowKit Mem Ids Att Rk
set_option maxRecDepth 20000 in
set_option maxHeartbeats 4000000 in
theorem ownsame_any (aM aR aN aB aC aT aU aS aK aL aQ : Int) (aY aV : ByteArray) (aZ : Int) (aA : Option Addr) (an ac : Nat) (aE aG aW : Int) (al : List (Int × Int)) (bM bR bN bB bC bT bU bS bK bL bQ : Int) (bY bV : ByteArray) (bZ : Int) (bA : Option Addr) (bn bc : Nat) (bE bG bW : Int) (bl : List (Int × Int)) (w : World) (ha : Rs w aA an ac al) (hb : Rs w bA bn bc bl) :
 Calls Tryz.prog 13 #[.agg #[.int .i64 aM, .int .i64 aR, .int .i64 aN, .int .i64 aB, .int .i64 aC, .int .i64 aT, .int .i64 aU, .int .i64 aS, .int .i64 aK, .int .i64 aL, .int .i64 aQ, .string aY, .string aV, .int .i64 aZ, .slice aA an ac, .int .i64 aE, .int .i64 aG, .int .i64 aW], .agg #[.int .i64 bM, .int .i64 bR, .int .i64 bN, .int .i64 bB, .int .i64 bC, .int .i64 bT, .int .i64 bU, .int .i64 bS, .int .i64 bK, .int .i64 bL, .int .i64 bQ, .string bY, .string bV, .int .i64 bZ, .slice bA bn bc, .int .i64 bE, .int .i64 bG, .int .i64 bW]] w (Tells (msame ⟨aM, (aR, aN), (aB, aC), (aT, aU), aS, ⟨aK, aL, aQ, aY, aV, aZ⟩, ⟨al, aE, aG⟩, aW⟩ ⟨bM, (bR, bN), (bB, bC), (bT, bU), bS, ⟨bK, bL, bQ, bY, bV, bZ⟩, ⟨bl, bE, bG⟩, bW⟩) w) := by
 obtain ⟨k1, k2, hbb⟩ := two_boxes w 32 #[.int .i64 aM, .int .i64 aR, .int .i64 aN, .int .i64 aB, .int .i64 aC, .int .i64 aT, .int .i64 aU, .int .i64 aS, .int .i64 aK, .int .i64 aL, .int .i64 aQ, .string aY, .string aV, .int .i64 aZ, .slice aA an ac, .int .i64 aE, .int .i64 aG, .int .i64 aW] #[.int .i64 bM, .int .i64 bR, .int .i64 bN, .int .i64 bB, .int .i64 bC, .int .i64 bT, .int .i64 bU, .int .i64 bS, .int .i64 bK, .int .i64 bL, .int .i64 bQ, .string bY, .string bV, .int .i64 bZ, .slice bA bn bc, .int .i64 bE, .int .i64 bG, .int .i64 bW];obtain ⟨W, hW⟩ : ∃ v, (w.alloc (.cells #[.int .i64 aM, .int .i64 aR, .int .i64 aN, .int .i64 aB, .int .i64 aC, .int .i64 aT, .int .i64 aU, .int .i64 aS, .int .i64 aK, .int .i64 aL, .int .i64 aQ, .string aY, .string aV, .int .i64 aZ, .slice aA an ac, .int .i64 aE, .int .i64 aG, .int .i64 aW] 32)).alloc (.cells #[.int .i64 bM, .int .i64 bR, .int .i64 bN, .int .i64 bB, .int .i64 bC, .int .i64 bT, .int .i64 bU, .int .i64 bS, .int .i64 bK, .int .i64 bL, .int .i64 bQ, .string bY, .string bV, .int .i64 bZ, .slice bA bn bc, .int .i64 bE, .int .i64 bG, .int .i64 bW] 32) = v := ⟨_, rfl⟩
 rw [hW] at k1 k2 hbb;have HKa := hid k1;have HKb := hid k2;have HB := hid hbb;have HW := hid hW;have HC := hid (Below.refl W.heap.size W);have HRa := hid (ha.below hbb);have HRb := hid (hb.below hbb);clear hbb hW k1 k2 ha hb;obtain ⟨T, hT⟩ : ∃ T, msame ⟨aM, (aR, aN), (aB, aC), (aT, aU), aS, ⟨aK, aL, aQ, aY, aV, aZ⟩, ⟨al, aE, aG⟩, aW⟩ ⟨bM, (bR, bN), (bB, bC), (bT, bU), bS, ⟨bK, bL, bQ, bY, bV, bZ⟩, ⟨bl, bE, bG⟩, bW⟩ = T := ⟨_, rfl⟩
 rw [hT];unfold msame at hT;simp only at hT;have c0 : (aM == bM) = decide (aM = bM) := rfl;have c4 : (aS == bS) = decide (aS = bS) := rfl;have c7 : (aW == bW) = decide (aW = bW) := rfl;have c1 := fun w => eql_id (aR, aN) (bR, bN) w;have c2 := fun w => Bal.eql_bal (aB, aC) (bB, bC) w;have c3 := fun w => Bal.eql_bal (aT, aU) (bT, bU) w;simp only at c1 c2 c3;have c5 := fun w => Cw.eql_cmd aK aL aQ aY aV aZ bK bL bQ bY bV bZ w;have H1 := hid (fun w (h : Rs w aA an ac al) (h' : Rs w bA bn bc bl) => asame_any al aE aG aA an ac bl bE bG bA bn bc w h h');generalize decide (aM = bM) = t0 at hT c0;generalize decide (((aR, aN) : Int × Int) = (bR, bN)) = t1 at c1 hT;generalize decide (((aB, aC) : Int × Int) = (bB, bC)) = t2 at c2 hT;generalize decide (((aT, aU) : Int × Int) = (bT, bU)) = t3 at c3 hT;generalize decide (aS = bS) = t4 at hT c4;generalize Cmd.eqv ⟨aK, aL, aQ, aY, aV, aZ⟩ ⟨bK, bL, bQ, bY, bV, bZ⟩ = t5 at c5 hT;generalize asame ⟨al, aE, aG⟩ ⟨bl, bE, bG⟩ = t6 at H1 hT;generalize decide (aW = bW) = t7 at hT c7;have HT := hid hT;clear hT;go_enter Tryz.func13, Tryz.ntmps13
 go_upto_region 1 with fail
 rw [HW.out];cases t0 with
 | false =>
   obtain ⟨xa0, xa1, xa2, xa3, xa4, xa5, xa6, xa7, xa8, xa9, xa10, xa11, xa12, xa13, xa14, xa15, xa16, xa17⟩ := blk18 (HKa.out.bel HC.out);obtain ⟨xb0, xb1, xb2, xb3, xb4, xb5, xb6, xb7, xb8, xb9, xb10, xb11, xb12, xb13, xb14, xb15, xb16, xb17⟩ := blk18 (HKb.out.bel HC.out);go_wp2_with fail
   go_ret;exact ⟨congrArg (fun b => Ending.returned (.bool b)) HT.out, HB.out.trans (HC.out.mono HB.out.size)⟩
 | true =>
   cases t1 with
   | false =>
     obtain ⟨xa0, xa1, xa2, xa3, xa4, xa5, xa6, xa7, xa8, xa9, xa10, xa11, xa12, xa13, xa14, xa15, xa16, xa17⟩ := blk18 (HKa.out.bel HC.out);obtain ⟨xb0, xb1, xb2, xb3, xb4, xb5, xb6, xb7, xb8, xb9, xb10, xb11, xb12, xb13, xb14, xb15, xb16, xb17⟩ := blk18 (HKb.out.bel HC.out);go_wp2_with fail
     go_ret;exact ⟨congrArg (fun b => Ending.returned (.bool b)) HT.out, HB.out.trans (HC.out.mono HB.out.size)⟩
   | true =>
     cases t2 with
     | false =>
       obtain ⟨xa0, xa1, xa2, xa3, xa4, xa5, xa6, xa7, xa8, xa9, xa10, xa11, xa12, xa13, xa14, xa15, xa16, xa17⟩ := blk18 (HKa.out.bel HC.out);obtain ⟨xb0, xb1, xb2, xb3, xb4, xb5, xb6, xb7, xb8, xb9, xb10, xb11, xb12, xb13, xb14, xb15, xb16, xb17⟩ := blk18 (HKb.out.bel HC.out);go_wp2_with fail
       go_ret;exact ⟨congrArg (fun b => Ending.returned (.bool b)) HT.out, HB.out.trans (HC.out.mono HB.out.size)⟩
     | true =>
       cases t3 with
       | false =>
         obtain ⟨xa0, xa1, xa2, xa3, xa4, xa5, xa6, xa7, xa8, xa9, xa10, xa11, xa12, xa13, xa14, xa15, xa16, xa17⟩ := blk18 (HKa.out.bel HC.out);obtain ⟨xb0, xb1, xb2, xb3, xb4, xb5, xb6, xb7, xb8, xb9, xb10, xb11, xb12, xb13, xb14, xb15, xb16, xb17⟩ := blk18 (HKb.out.bel HC.out);go_wp2_with fail
         go_ret;exact ⟨congrArg (fun b => Ending.returned (.bool b)) HT.out, HB.out.trans (HC.out.mono HB.out.size)⟩
       | true =>
         cases t4 with
         | false =>
           obtain ⟨xa0, xa1, xa2, xa3, xa4, xa5, xa6, xa7, xa8, xa9, xa10, xa11, xa12, xa13, xa14, xa15, xa16, xa17⟩ := blk18 (HKa.out.bel HC.out);obtain ⟨xb0, xb1, xb2, xb3, xb4, xb5, xb6, xb7, xb8, xb9, xb10, xb11, xb12, xb13, xb14, xb15, xb16, xb17⟩ := blk18 (HKb.out.bel HC.out);go_wp2_with fail
           go_ret;exact ⟨congrArg (fun b => Ending.returned (.bool b)) HT.out, HB.out.trans (HC.out.mono HB.out.size)⟩
         | true =>
           cases t5 with
           | false =>
             obtain ⟨xa0, xa1, xa2, xa3, xa4, xa5, xa6, xa7, xa8, xa9, xa10, xa11, xa12, xa13, xa14, xa15, xa16, xa17⟩ := blk18 (HKa.out.bel HC.out);obtain ⟨xb0, xb1, xb2, xb3, xb4, xb5, xb6, xb7, xb8, xb9, xb10, xb11, xb12, xb13, xb14, xb15, xb16, xb17⟩ := blk18 (HKb.out.bel HC.out);go_wp2_with fail
             go_ret;exact ⟨congrArg (fun b => Ending.returned (.bool b)) HT.out, HB.out.trans (HC.out.mono HB.out.size)⟩
           | true =>
             obtain ⟨xa0, xa1, xa2, xa3, xa4, xa5, xa6, xa7, xa8, xa9, xa10, xa11, xa12, xa13, xa14, xa15, xa16, xa17⟩ := blk18 (HKa.out.bel HC.out);obtain ⟨xb0, xb1, xb2, xb3, xb4, xb5, xb6, xb7, xb8, xb9, xb10, xb11, xb12, xb13, xb14, xb15, xb16, xb17⟩ := blk18 (HKb.out.bel HC.out);go_wp2_with fail
             refine (H1.out _ (HRa.out.below HC.out) (HRb.out.below HC.out)).mono ?_;rintro e u1 ⟨rfl, hb1⟩;replace HC := hid (bel_trans HC.out hb1);clear hb1;clear xa0 xa1 xa2 xa3 xa4 xa5 xa6 xa7 xa8 xa9 xa10 xa11 xa12 xa13 xa14 xa15 xa16 xa17;clear xb0 xb1 xb2 xb3 xb4 xb5 xb6 xb7 xb8 xb9 xb10 xb11 xb12 xb13 xb14 xb15 xb16 xb17;cases t6 with
             | false =>
               obtain ⟨xa0, xa1, xa2, xa3, xa4, xa5, xa6, xa7, xa8, xa9, xa10, xa11, xa12, xa13, xa14, xa15, xa16, xa17⟩ := blk18 (HKa.out.bel HC.out);obtain ⟨xb0, xb1, xb2, xb3, xb4, xb5, xb6, xb7, xb8, xb9, xb10, xb11, xb12, xb13, xb14, xb15, xb16, xb17⟩ := blk18 (HKb.out.bel HC.out);go_wp2_with fail
               go_ret;exact ⟨congrArg (fun b => Ending.returned (.bool b)) HT.out, HB.out.trans (HC.out.mono HB.out.size)⟩
             | true =>
               cases t7 with
               | false =>
                 obtain ⟨xa0, xa1, xa2, xa3, xa4, xa5, xa6, xa7, xa8, xa9, xa10, xa11, xa12, xa13, xa14, xa15, xa16, xa17⟩ := blk18 (HKa.out.bel HC.out);obtain ⟨xb0, xb1, xb2, xb3, xb4, xb5, xb6, xb7, xb8, xb9, xb10, xb11, xb12, xb13, xb14, xb15, xb16, xb17⟩ := blk18 (HKb.out.bel HC.out);go_wp2_with fail
                 go_ret;exact ⟨congrArg (fun b => Ending.returned (.bool b)) HT.out, HB.out.trans (HC.out.mono HB.out.size)⟩
               | true =>
                 obtain ⟨xa0, xa1, xa2, xa3, xa4, xa5, xa6, xa7, xa8, xa9, xa10, xa11, xa12, xa13, xa14, xa15, xa16, xa17⟩ := blk18 (HKa.out.bel HC.out);obtain ⟨xb0, xb1, xb2, xb3, xb4, xb5, xb6, xb7, xb8, xb9, xb10, xb11, xb12, xb13, xb14, xb15, xb16, xb17⟩ := blk18 (HKb.out.bel HC.out);go_wp2_with fail
                 go_ret;exact ⟨congrArg (fun b => Ending.returned (.bool b)) HT.out, HB.out.trans (HC.out.mono HB.out.size)⟩
end Go.Proofs.YthlhchaoedcdbaaGreatDoor.Mg
/- The program's bare: a message without what its kind doesn't name. -/
namespace Go.Proofs.YthlhchaoedcdbaaGreatDoor.Mg
open Lib (hid)
open Go.RowKit Mem Ids Att Rk Cod
def GivesMg (w : World) (m : Mg) (e : Ending) (w' : World) : Prop :=
 ∃ V n c, e = .returned (.agg #[.int .i64 m.kd, .int .i64 m.id.1, .int .i64 m.id.2, .int .i64 m.bl.1, .int .i64 m.bl.2, .int .i64 m.tk.1, .int .i64 m.tk.2, .int .i64 m.st, .int .i64 m.cm.kd, .int .i64 m.cm.cl, .int .i64 m.cm.sq, .string m.cm.ky, .string m.cm.vl, .int .i64 m.cm.rv, .slice V n c, .int .i64 m.at_.sq, .int .i64 m.at_.tg, .int .i64 m.vn]) ∧ Rs w' V n c m.at_.dp ∧ Below w.heap.size w w'
set_option maxRecDepth 100000 in
set_option maxHeartbeats 8000000 in
theorem bare_any (aM aR aN aB aC aT aU aS aK aL aQ : Int) (aY aV : ByteArray) (aZ : Int) (aA : Option Addr) (an ac : Nat) (aE aG aW : Int) (al : List (Int × Int)) (w : World) (ha : Rs w aA an ac al) (hn : Nam w) :
 Calls Tryz.prog 39 #[.agg #[.int .i64 aM, .int .i64 aR, .int .i64 aN, .int .i64 aB, .int .i64 aC, .int .i64 aT, .int .i64 aU, .int .i64 aS, .int .i64 aK, .int .i64 aL, .int .i64 aQ, .string aY, .string aV, .int .i64 aZ, .slice aA an ac, .int .i64 aE, .int .i64 aG, .int .i64 aW]] w (GivesMg w (bare ⟨aM, (aR, aN), (aB, aC), (aT, aU), aS, ⟨aK, aL, aQ, aY, aV, aZ⟩, ⟨al, aE, aG⟩, aW⟩)) := by
 obtain ⟨W, hW⟩ : ∃ W, (w.alloc (.cells #[.int .i64 aM, .int .i64 aR, .int .i64 aN, .int .i64 aB, .int .i64 aC, .int .i64 aT, .int .i64 aU, .int .i64 aS, .int .i64 aK, .int .i64 aL, .int .i64 aQ, .string aY, .string aV, .int .i64 aZ, .slice aA an ac, .int .i64 aE, .int .i64 aG, .int .i64 aW] 32)).alloc (.cells #[.int .i64 0, .int .i64 0, .int .i64 0, .int .i64 0, .int .i64 0, .int .i64 0, .int .i64 0, .int .i64 0, .int .i64 0, .int .i64 0, .int .i64 0, .string ⟨#[]⟩, .string ⟨#[]⟩, .int .i64 0, .slice none 0 0, .int .i64 0, .int .i64 0, .int .i64 0] 32) = W := ⟨_, rfl⟩
 obtain ⟨k1, k2, kb, hsW⟩ := two_kinds w _ _ _ _ W hW;have HKa := hid k1;have HZ := hid k2;have HB := hid kb;have HW := hid hW;have HSW := hid hsW;have HRa := hid ha;have HRN := hid (hn.below kb);have C1 := hid (fun w h => has_id aM aR aN aB aC aT aU aS aK aL aQ aY aV aZ aA an ac aE aG aW al w h);have C2 := hid (fun w h => has_bal aM aR aN aB aC aT aU aS aK aL aQ aY aV aZ aA an ac aE aG aW al w h);have C4 := hid (fun w h => has_state aM aR aN aB aC aT aU aS aK aL aQ aY aV aZ aA an ac aE aG aW al w h);have C8 := hid (fun w h => has_cmd aM aR aN aB aC aT aU aS aK aL aQ aY aV aZ aA an ac aE aG aW al w h);have C16 := hid (fun w h => has_at aM aR aN aB aC aT aU aS aK aL aQ aY aV aZ aA an ac aE aG aW al w h);have C32 := hid (fun w h => has_vn aM aR aN aB aC aT aU aS aK aL aQ aY aV aZ aA an ac aE aG aW al w h);obtain ⟨B, hB⟩ : ∃ B, bare ⟨aM, (aR, aN), (aB, aC), (aT, aU), aS, ⟨aK, aL, aQ, aY, aV, aZ⟩, ⟨al, aE, aG⟩, aW⟩ = B := ⟨_, rfl⟩
 rw [hB];unfold bare at hB;simp only at hB;have p7 : (if aM = 7 then ((aT, aU) : Int × Int) else (0, 0)) = if decide (aM = 7) = true then (aT, aU) else (0, 0) := by simp
 have p7' : (if aM = 7 then aS else 0) = if decide (aM = 7) = true then aS else 0 := by simp
 have p9 : (if aM = 9 then aW else 0) = if decide (aM = 9) = true then aW else 0 := by simp
 rw [p7, p7', p9] at hB;generalize hId ⟨aM, (aR, aN), (aB, aC), (aT, aU), aS, ⟨aK, aL, aQ, aY, aV, aZ⟩, ⟨al, aE, aG⟩, aW⟩ = ti at C1 hB;generalize hBal ⟨aM, (aR, aN), (aB, aC), (aT, aU), aS, ⟨aK, aL, aQ, aY, aV, aZ⟩, ⟨al, aE, aG⟩, aW⟩ = tb at C2 hB;generalize decide (aM = 7) = k7 at C4 hB;generalize hCmd ⟨aM, (aR, aN), (aB, aC), (aT, aU), aS, ⟨aK, aL, aQ, aY, aV, aZ⟩, ⟨al, aE, aG⟩, aW⟩ = tc at C8 hB;generalize hAt ⟨aM, (aR, aN), (aB, aC), (aT, aU), aS, ⟨aK, aL, aQ, aY, aV, aZ⟩, ⟨al, aE, aG⟩, aW⟩ = th at C16 hB;generalize decide (aM = 9) = k9 at C32 hB;have HBE := hid hB;clear k1 k2 kb hW hsW ha hn hB p7 p7' p9;go_enter Tryz.func39, Tryz.ntmps39
 go_upto_region 1 with fail
 rw [HW.out];have x0 := HKa.out.cell 0;simp at x0;have HN0 := hid (Blk.new W 32 #[.int .i64 0, .int .i64 0, .int .i64 0, .int .i64 0, .int .i64 0, .int .i64 0, .int .i64 0, .int .i64 0, .int .i64 0, .int .i64 0, .int .i64 0, .string ⟨#[]⟩, .string ⟨#[]⟩, .int .i64 0, .slice none 0 0, .int .i64 0, .int .i64 0, .int .i64 0]);have HA0 := hid (bel_alloc (Below.refl W.heap.size W) (.cells #[.int .i64 0, .int .i64 0, .int .i64 0, .int .i64 0, .int .i64 0, .int .i64 0, .int .i64 0, .int .i64 0, .int .i64 0, .int .i64 0, .int .i64 0, .string ⟨#[]⟩, .string ⟨#[]⟩, .int .i64 0, .slice none 0 0, .int .i64 0, .int .i64 0, .int .i64 0] 32));go_upto_region 2 with (first | fail | ((with_reducible refine wpList_store_blk rfl 32 _ _ rfl W.heap.size 32 _ #[.int .i64 aM, .int .i64 0, .int .i64 0, .int .i64 0, .int .i64 0, .int .i64 0, .int .i64 0, .int .i64 0, .int .i64 0, .int .i64 0, .int .i64 0, .string ⟨#[]⟩, .string ⟨#[]⟩, .int .i64 0, .slice none 0 0, .int .i64 0, .int .i64 0, .int .i64 0] ?_ ?_ HN0.out ?_ ?_ ?_ ?_); (focus rfl); (focus rfl); (focus kernel_rfl); (focus rfl); (focus kernel_rfl); intro w9 hblk hgr))
 have hbl := gr_below hgr HA0.out.size (fun b hb => by injection hb with hb; omega);have hbw := HA0.out.trans hbl;clear x0 HN0 HA0 hbl hgr;simp only [Act.put];generalize w9 = X0 at hblk hbw ⊢;have HG := hid (And.intro hblk hbw);have HC := hid (Below.refl X0.heap.size X0);clear hblk hbw;go_cut [8] from 4 (fun cv wx => cv = .bool ti ∧ Blk wx W.heap.size 32 #[.int .i64 aM, .int .i64 0, .int .i64 0, .int .i64 0, .int .i64 0, .int .i64 0, .int .i64 0, .int .i64 0, .int .i64 0, .int .i64 0, .int .i64 0, .string ⟨#[]⟩, .string ⟨#[]⟩, .int .i64 0, .slice none 0 0, .int .i64 0, .int .i64 0, .int .i64 0] ∧ Below W.heap.size W wx)
 case first =>
  have hkw := HKa.out.bel HG.out.2;have hnw := HRN.out.below HG.out.2;have HKw := hid hkw;have HNw := hid hnw;clear hkw hnw;go_wp2_with (with_reducible refine wpList_load_blk_w 32 _ rfl w.heap.size 32 _ _ ?_ ?_ HKw.out Tryz.underlying32 ?_ ?_ ?_; (focus kernel_rfl); (focus kernel_rfl); (focus rfl); (focus kernel_rfl))
  refine (C1.out _ HNw.out).mono ?_;rintro e u1 ⟨rfl, hb1⟩;go_wp2_with fail
  go_meet
  case rel => exact ⟨rfl, HG.out.1.bel hb1, HG.out.2.trans (hb1.mono HG.out.2.size)⟩
 case rest =>
  obtain ⟨rfl, hG⟩ := hcut;clear HG HC;generalize wc = Y0 at hG ⊢;have HG := hid hG;have HC := hid (Below.refl Y0.heap.size Y0);clear hG;go_upto_if 8 with fail
  go_cut [] from 4 (fun wx => ∃ (vR : Int) (vN : Int), (((vR, vN) : Int × Int) = if ti = true then (aR, aN) else (0, 0)) ∧ Blk wx W.heap.size 32 #[.int .i64 aM, .int .i64 vR, .int .i64 vN, .int .i64 0, .int .i64 0, .int .i64 0, .int .i64 0, .int .i64 0, .int .i64 0, .int .i64 0, .int .i64 0, .string ⟨#[]⟩, .string ⟨#[]⟩, .int .i64 0, .slice none 0 0, .int .i64 0, .int .i64 0, .int .i64 0] ∧ Below W.heap.size W wx)
  case first =>
   cases ti with
   | false =>
     go_wp2_with fail
     go_meet
     case rel => exact ⟨0, 0, rfl, HG.out.1, HG.out.2⟩
   | true =>
     have hkw := HKa.out.bel HG.out.2;have hgg := HG.out.1;have x1 := hkw.cell 1;have c1 := hgg.cell 1;have z1 := hgg.soft 1;have x2 := hkw.cell 2;have c2 := hgg.cell 2;have z2 := hgg.soft 2;simp at x1 c1 x2 c2;have HKw := hid hkw;have HGG := hid hgg;clear hkw hgg;go_wp2_with fail
     go_meet
     case rel => exact ⟨aR, aN, rfl, by simpa using ((HGG.out.put 1 (.int .i64 aR)).put 2 (.int .i64 aN)), ((HG.out.2.setCell (p := ⟨W.heap.size, 1, none⟩) (Nat.le_refl _) (.int .i64 aR)).setCell (p := ⟨W.heap.size, 2, none⟩) (Nat.le_refl _) (.int .i64 aN))⟩
  case rest =>
   obtain ⟨vR, vN, hi1, hG⟩ := hcut;clear HG HC;generalize wc = X1 at hG ⊢;have HG := hid hG;have HC := hid (Below.refl X1.heap.size X1);clear hG;have E1 := hid hi1;clear hi1;go_upto_region 4 with fail
   go_cut [13] from 4 (fun cv wx => cv = .bool tb ∧ Blk wx W.heap.size 32 #[.int .i64 aM, .int .i64 vR, .int .i64 vN, .int .i64 0, .int .i64 0, .int .i64 0, .int .i64 0, .int .i64 0, .int .i64 0, .int .i64 0, .int .i64 0, .string ⟨#[]⟩, .string ⟨#[]⟩, .int .i64 0, .slice none 0 0, .int .i64 0, .int .i64 0, .int .i64 0] ∧ Below W.heap.size W wx)
   case first =>
    have hkw := HKa.out.bel HG.out.2;have hnw := HRN.out.below HG.out.2;have HKw := hid hkw;have HNw := hid hnw;clear hkw hnw;go_wp2_with (with_reducible refine wpList_load_blk_w 32 _ rfl w.heap.size 32 _ _ ?_ ?_ HKw.out Tryz.underlying32 ?_ ?_ ?_; (focus kernel_rfl); (focus kernel_rfl); (focus rfl); (focus kernel_rfl))
    refine (C2.out _ HNw.out).mono ?_;rintro e u1 ⟨rfl, hb1⟩;go_wp2_with fail
    go_meet
    case rel => exact ⟨rfl, HG.out.1.bel hb1, HG.out.2.trans (hb1.mono HG.out.2.size)⟩
   case rest =>
    obtain ⟨rfl, hG⟩ := hcut;clear HG HC;generalize wc = Y1 at hG ⊢;have HG := hid hG;have HC := hid (Below.refl Y1.heap.size Y1);clear hG;go_upto_if 13 with fail
    go_cut [] from 4 (fun wx => ∃ (vB : Int) (vC : Int), (((vB, vC) : Int × Int) = if tb = true then (aB, aC) else (0, 0)) ∧ Blk wx W.heap.size 32 #[.int .i64 aM, .int .i64 vR, .int .i64 vN, .int .i64 vB, .int .i64 vC, .int .i64 0, .int .i64 0, .int .i64 0, .int .i64 0, .int .i64 0, .int .i64 0, .string ⟨#[]⟩, .string ⟨#[]⟩, .int .i64 0, .slice none 0 0, .int .i64 0, .int .i64 0, .int .i64 0] ∧ Below W.heap.size W wx)
    case first =>
     cases tb with
     | false =>
       go_wp2_with fail
       go_meet
       case rel => exact ⟨0, 0, rfl, HG.out.1, HG.out.2⟩
     | true =>
       have hkw := HKa.out.bel HG.out.2;have hgg := HG.out.1;have x3 := hkw.cell 3;have c3 := hgg.cell 3;have z3 := hgg.soft 3;have x4 := hkw.cell 4;have c4 := hgg.cell 4;have z4 := hgg.soft 4;simp at x3 c3 x4 c4;have HKw := hid hkw;have HGG := hid hgg;clear hkw hgg;go_wp2_with fail
       go_meet
       case rel => exact ⟨aB, aC, rfl, by simpa using ((HGG.out.put 3 (.int .i64 aB)).put 4 (.int .i64 aC)), ((HG.out.2.setCell (p := ⟨W.heap.size, 3, none⟩) (Nat.le_refl _) (.int .i64 aB)).setCell (p := ⟨W.heap.size, 4, none⟩) (Nat.le_refl _) (.int .i64 aC))⟩
    case rest =>
     obtain ⟨vB, vC, hi2, hG⟩ := hcut;clear HG HC;generalize wc = X2 at hG ⊢;have HG := hid hG;have HC := hid (Below.refl X2.heap.size X2);clear hG;have E2 := hid hi2;clear hi2;go_upto_region 6 with fail
     go_cut [18] from 4 (fun cv wx => cv = .bool k7 ∧ Blk wx W.heap.size 32 #[.int .i64 aM, .int .i64 vR, .int .i64 vN, .int .i64 vB, .int .i64 vC, .int .i64 0, .int .i64 0, .int .i64 0, .int .i64 0, .int .i64 0, .int .i64 0, .string ⟨#[]⟩, .string ⟨#[]⟩, .int .i64 0, .slice none 0 0, .int .i64 0, .int .i64 0, .int .i64 0] ∧ Below W.heap.size W wx)
     case first =>
      have hkw := HKa.out.bel HG.out.2;have hnw := HRN.out.below HG.out.2;have HKw := hid hkw;have HNw := hid hnw;clear hkw hnw;go_wp2_with (with_reducible refine wpList_load_blk_w 32 _ rfl w.heap.size 32 _ _ ?_ ?_ HKw.out Tryz.underlying32 ?_ ?_ ?_; (focus kernel_rfl); (focus kernel_rfl); (focus rfl); (focus kernel_rfl))
      refine (C4.out _ HNw.out).mono ?_;rintro e u1 ⟨rfl, hb1⟩;go_wp2_with fail
      go_meet
      case rel => exact ⟨rfl, HG.out.1.bel hb1, HG.out.2.trans (hb1.mono HG.out.2.size)⟩
     case rest =>
      obtain ⟨rfl, hG⟩ := hcut;clear HG HC;generalize wc = Y2 at hG ⊢;have HG := hid hG;have HC := hid (Below.refl Y2.heap.size Y2);clear hG;go_upto_if 18 with fail
      go_cut [] from 4 (fun wx => ∃ (vT : Int) (vU : Int) (vS : Int), ((((vT, vU) : Int × Int) = if k7 = true then (aT, aU) else (0, 0)) ∧ vS = if k7 = true then aS else 0) ∧ Blk wx W.heap.size 32 #[.int .i64 aM, .int .i64 vR, .int .i64 vN, .int .i64 vB, .int .i64 vC, .int .i64 vT, .int .i64 vU, .int .i64 vS, .int .i64 0, .int .i64 0, .int .i64 0, .string ⟨#[]⟩, .string ⟨#[]⟩, .int .i64 0, .slice none 0 0, .int .i64 0, .int .i64 0, .int .i64 0] ∧ Below W.heap.size W wx)
      case first =>
       cases k7 with
       | false =>
         go_wp2_with fail
         go_meet
         case rel => exact ⟨0, 0, 0, ⟨rfl, rfl⟩, HG.out.1, HG.out.2⟩
       | true =>
         have hkw := HKa.out.bel HG.out.2;have hgg := HG.out.1;have x5 := hkw.cell 5;have c5 := hgg.cell 5;have z5 := hgg.soft 5;have x6 := hkw.cell 6;have c6 := hgg.cell 6;have z6 := hgg.soft 6;have x7 := hkw.cell 7;have c7 := hgg.cell 7;have z7 := hgg.soft 7;simp at x5 c5 x6 c6 x7 c7;have HKw := hid hkw;have HGG := hid hgg;clear hkw hgg;go_wp2_with fail
         go_region;all_goals (first | go_wp2_with fail | skip)
         all_goals go_meet
         all_goals (first | (exact ⟨aT, aU, aS, ⟨rfl, rfl⟩, by simpa using (((HGG.out.put 7 (.int .i64 aS)).put 5 (.int .i64 aT)).put 6 (.int .i64 aU)).drew, Below.drew (((HG.out.2.setCell (p := ⟨W.heap.size, 7, none⟩) (Nat.le_refl _) (.int .i64 aS)).setCell (p := ⟨W.heap.size, 5, none⟩) (Nat.le_refl _) (.int .i64 aT)).setCell (p := ⟨W.heap.size, 6, none⟩) (Nat.le_refl _) (.int .i64 aU))⟩) | (exact ⟨aT, aU, aS, ⟨rfl, rfl⟩, by simpa using (((HGG.out.put 5 (.int .i64 aT)).put 6 (.int .i64 aU)).put 7 (.int .i64 aS)).drew, Below.drew (((HG.out.2.setCell (p := ⟨W.heap.size, 5, none⟩) (Nat.le_refl _) (.int .i64 aT)).setCell (p := ⟨W.heap.size, 6, none⟩) (Nat.le_refl _) (.int .i64 aU)).setCell (p := ⟨W.heap.size, 7, none⟩) (Nat.le_refl _) (.int .i64 aS))⟩) | (trace_state; sorry))
      case rest =>
       obtain ⟨vT, vU, vS, hi3, hG⟩ := hcut;clear HG HC;generalize wc = X3 at hG ⊢;have HG := hid hG;have HC := hid (Below.refl X3.heap.size X3);clear hG;have E3 := hid hi3;clear hi3;go_upto_region 8 with fail
       go_cut [26] from 4 (fun cv wx => cv = .bool tc ∧ Blk wx W.heap.size 32 #[.int .i64 aM, .int .i64 vR, .int .i64 vN, .int .i64 vB, .int .i64 vC, .int .i64 vT, .int .i64 vU, .int .i64 vS, .int .i64 0, .int .i64 0, .int .i64 0, .string ⟨#[]⟩, .string ⟨#[]⟩, .int .i64 0, .slice none 0 0, .int .i64 0, .int .i64 0, .int .i64 0] ∧ Below W.heap.size W wx)
       case first =>
        have hkw := HKa.out.bel HG.out.2;have hnw := HRN.out.below HG.out.2;have HKw := hid hkw;have HNw := hid hnw;clear hkw hnw;go_wp2_with (with_reducible refine wpList_load_blk_w 32 _ rfl w.heap.size 32 _ _ ?_ ?_ HKw.out Tryz.underlying32 ?_ ?_ ?_; (focus kernel_rfl); (focus kernel_rfl); (focus rfl); (focus kernel_rfl))
        refine (C8.out _ HNw.out).mono ?_;rintro e u1 ⟨rfl, hb1⟩;go_wp2_with fail
        go_meet
        case rel => exact ⟨rfl, HG.out.1.bel hb1, HG.out.2.trans (hb1.mono HG.out.2.size)⟩
       case rest =>
        obtain ⟨rfl, hG⟩ := hcut;clear HG HC;generalize wc = Y3 at hG ⊢;have HG := hid hG;have HC := hid (Below.refl Y3.heap.size Y3);clear hG;go_upto_if 26 with fail
        go_cut [] from 4 (fun wx => ∃ (vK : Int) (vL : Int) (vQ : Int) (vY : ByteArray) (vV : ByteArray) (vZ : Int), ((⟨vK, vL, vQ, vY, vV, vZ⟩ : Cmd.Cm) = if tc = true then ⟨aK, aL, aQ, aY, aV, aZ⟩ else Cmd.zeroCm) ∧ Blk wx W.heap.size 32 #[.int .i64 aM, .int .i64 vR, .int .i64 vN, .int .i64 vB, .int .i64 vC, .int .i64 vT, .int .i64 vU, .int .i64 vS, .int .i64 vK, .int .i64 vL, .int .i64 vQ, .string vY, .string vV, .int .i64 vZ, .slice none 0 0, .int .i64 0, .int .i64 0, .int .i64 0] ∧ Below W.heap.size W wx)
        case first =>
         cases tc with
         | false =>
           go_wp2_with fail
           go_meet
           case rel => exact ⟨0, 0, 0, ⟨#[]⟩, ⟨#[]⟩, 0, rfl, HG.out.1, HG.out.2⟩
         | true =>
           have hkw := HKa.out.bel HG.out.2;have hgg := HG.out.1;have x8 := hkw.cell 8;have c8 := hgg.cell 8;have z8 := hgg.soft 8;have x9 := hkw.cell 9;have c9 := hgg.cell 9;have z9 := hgg.soft 9;have x10 := hkw.cell 10;have c10 := hgg.cell 10;have z10 := hgg.soft 10;have x11 := hkw.cell 11;have c11 := hgg.cell 11;have z11 := hgg.soft 11;have x12 := hkw.cell 12;have c12 := hgg.cell 12;have z12 := hgg.soft 12;have x13 := hkw.cell 13;have c13 := hgg.cell 13;have z13 := hgg.soft 13;simp at x8 c8 x9 c9 x10 c10 x11 c11 x12 c12 x13 c13;have HKw := hid hkw;have HGG := hid hgg;clear hkw hgg;go_wp2_with fail
           go_meet
           case rel => exact ⟨aK, aL, aQ, aY, aV, aZ, rfl, by simpa using ((((((HGG.out.put 8 (.int .i64 aK)).put 9 (.int .i64 aL)).put 10 (.int .i64 aQ)).put 11 (.string aY)).put 12 (.string aV)).put 13 (.int .i64 aZ)), ((((((HG.out.2.setCell (p := ⟨W.heap.size, 8, none⟩) (Nat.le_refl _) (.int .i64 aK)).setCell (p := ⟨W.heap.size, 9, none⟩) (Nat.le_refl _) (.int .i64 aL)).setCell (p := ⟨W.heap.size, 10, none⟩) (Nat.le_refl _) (.int .i64 aQ)).setCell (p := ⟨W.heap.size, 11, none⟩) (Nat.le_refl _) (.string aY)).setCell (p := ⟨W.heap.size, 12, none⟩) (Nat.le_refl _) (.string aV)).setCell (p := ⟨W.heap.size, 13, none⟩) (Nat.le_refl _) (.int .i64 aZ))⟩
        case rest =>
         obtain ⟨vK, vL, vQ, vY, vV, vZ, hi4, hG⟩ := hcut;clear HG HC;generalize wc = X4 at hG ⊢;have HG := hid hG;have HC := hid (Below.refl X4.heap.size X4);clear hG;have E4 := hid hi4;clear hi4;go_upto_region 10 with fail
         go_cut [31] from 4 (fun cv wx => cv = .bool th ∧ Blk wx W.heap.size 32 #[.int .i64 aM, .int .i64 vR, .int .i64 vN, .int .i64 vB, .int .i64 vC, .int .i64 vT, .int .i64 vU, .int .i64 vS, .int .i64 vK, .int .i64 vL, .int .i64 vQ, .string vY, .string vV, .int .i64 vZ, .slice none 0 0, .int .i64 0, .int .i64 0, .int .i64 0] ∧ Below W.heap.size W wx)
         case first =>
          have hkw := HKa.out.bel HG.out.2;have hnw := HRN.out.below HG.out.2;have HKw := hid hkw;have HNw := hid hnw;clear hkw hnw;go_wp2_with (with_reducible refine wpList_load_blk_w 32 _ rfl w.heap.size 32 _ _ ?_ ?_ HKw.out Tryz.underlying32 ?_ ?_ ?_; (focus kernel_rfl); (focus kernel_rfl); (focus rfl); (focus kernel_rfl))
          refine (C16.out _ HNw.out).mono ?_;rintro e u1 ⟨rfl, hb1⟩;go_wp2_with fail
          go_meet
          case rel => exact ⟨rfl, HG.out.1.bel hb1, HG.out.2.trans (hb1.mono HG.out.2.size)⟩
         case rest =>
          obtain ⟨rfl, hG⟩ := hcut;clear HG HC;generalize wc = Y4 at hG ⊢;have HG := hid hG;have HC := hid (Below.refl Y4.heap.size Y4);clear hG;go_upto_if 31 with fail
          go_cut [] from 4 (fun wx => ∃ (vD : Option Addr) (vn : Nat) (vc : Nat) (vE : Int) (vG : Int) (vl : List (Int × Int)), (((⟨vl, vE, vG⟩ : At) = if th = true then ⟨al, aE, aG⟩ else zeroAt) ∧ (vD = aA ∧ vn = an ∧ vc = ac ∧ vl = al ∨ vD = none ∧ vn = 0 ∧ vc = 0 ∧ vl = [])) ∧ Blk wx W.heap.size 32 #[.int .i64 aM, .int .i64 vR, .int .i64 vN, .int .i64 vB, .int .i64 vC, .int .i64 vT, .int .i64 vU, .int .i64 vS, .int .i64 vK, .int .i64 vL, .int .i64 vQ, .string vY, .string vV, .int .i64 vZ, .slice vD vn vc, .int .i64 vE, .int .i64 vG, .int .i64 0] ∧ Below W.heap.size W wx)
          case first =>
           cases th with
           | false =>
             go_wp2_with fail
             go_meet
             case rel => exact ⟨none, 0, 0, 0, 0, [], ⟨rfl, .inr ⟨rfl, rfl, rfl, rfl⟩⟩, HG.out.1, HG.out.2⟩
           | true =>
             have hkw := HKa.out.bel HG.out.2;have hgg := HG.out.1;have x14 := hkw.cell 14;have c14 := hgg.cell 14;have z14 := hgg.soft 14;have x15 := hkw.cell 15;have c15 := hgg.cell 15;have z15 := hgg.soft 15;have x16 := hkw.cell 16;have c16 := hgg.cell 16;have z16 := hgg.soft 16;simp at x14 c14 x15 c15 x16 c16;have HKw := hid hkw;have HGG := hid hgg;clear hkw hgg;go_wp2_with fail
             go_meet
             case rel => exact ⟨aA, an, ac, aE, aG, al, ⟨rfl, .inl ⟨rfl, rfl, rfl, rfl⟩⟩, by simpa using (((HGG.out.put 14 (.slice aA an ac)).put 15 (.int .i64 aE)).put 16 (.int .i64 aG)), (((HG.out.2.setCell (p := ⟨W.heap.size, 14, none⟩) (Nat.le_refl _) (.slice aA an ac)).setCell (p := ⟨W.heap.size, 15, none⟩) (Nat.le_refl _) (.int .i64 aE)).setCell (p := ⟨W.heap.size, 16, none⟩) (Nat.le_refl _) (.int .i64 aG))⟩
          case rest =>
           obtain ⟨vD, vn, vc, vE, vG, vl, hi5, hG⟩ := hcut;clear HG HC;generalize wc = X5 at hG ⊢;have HG := hid hG;have HC := hid (Below.refl X5.heap.size X5);clear hG;have E5 := hid hi5.1;have E6 := hid hi5.2;clear hi5;go_upto_region 12 with fail
           go_cut [36] from 4 (fun cv wx => cv = .bool k9 ∧ Blk wx W.heap.size 32 #[.int .i64 aM, .int .i64 vR, .int .i64 vN, .int .i64 vB, .int .i64 vC, .int .i64 vT, .int .i64 vU, .int .i64 vS, .int .i64 vK, .int .i64 vL, .int .i64 vQ, .string vY, .string vV, .int .i64 vZ, .slice vD vn vc, .int .i64 vE, .int .i64 vG, .int .i64 0] ∧ Below W.heap.size W wx)
           case first =>
            have hkw := HKa.out.bel HG.out.2;have hnw := HRN.out.below HG.out.2;have HKw := hid hkw;have HNw := hid hnw;clear hkw hnw;go_wp2_with (with_reducible refine wpList_load_blk_w 32 _ rfl w.heap.size 32 _ _ ?_ ?_ HKw.out Tryz.underlying32 ?_ ?_ ?_; (focus kernel_rfl); (focus kernel_rfl); (focus rfl); (focus kernel_rfl))
            refine (C32.out _ HNw.out).mono ?_;rintro e u1 ⟨rfl, hb1⟩;go_wp2_with fail
            go_meet
            case rel => exact ⟨rfl, HG.out.1.bel hb1, HG.out.2.trans (hb1.mono HG.out.2.size)⟩
           case rest =>
            obtain ⟨rfl, hG⟩ := hcut;clear HG HC;generalize wc = Y5 at hG ⊢;have HG := hid hG;have HC := hid (Below.refl Y5.heap.size Y5);clear hG;go_upto_if 36 with fail
            go_cut [] from 4 (fun wx => ∃ (vW : Int), (vW = if k9 = true then aW else 0) ∧ Blk wx W.heap.size 32 #[.int .i64 aM, .int .i64 vR, .int .i64 vN, .int .i64 vB, .int .i64 vC, .int .i64 vT, .int .i64 vU, .int .i64 vS, .int .i64 vK, .int .i64 vL, .int .i64 vQ, .string vY, .string vV, .int .i64 vZ, .slice vD vn vc, .int .i64 vE, .int .i64 vG, .int .i64 vW] ∧ Below W.heap.size W wx)
            case first =>
             cases k9 with
             | false =>
               go_wp2_with fail
               go_meet
               case rel => exact ⟨0, rfl, HG.out.1, HG.out.2⟩
             | true =>
               have hkw := HKa.out.bel HG.out.2;have hgg := HG.out.1;have x17 := hkw.cell 17;have c17 := hgg.cell 17;have z17 := hgg.soft 17;simp at x17 c17;have HKw := hid hkw;have HGG := hid hgg;clear hkw hgg;go_wp2_with fail
               go_meet
               case rel => exact ⟨aW, rfl, by simpa using (HGG.out.put 17 (.int .i64 aW)), (HG.out.2.setCell (p := ⟨W.heap.size, 17, none⟩) (Nat.le_refl _) (.int .i64 aW))⟩
            case rest =>
             obtain ⟨vW, hi7, hG⟩ := hcut;clear HG HC;generalize wc = X6 at hG ⊢;have HG := hid hG;have HC := hid (Below.refl X6.heap.size X6);clear hG;have E7 := hid hi7;clear hi7;go_upto_region 14 with fail
             have hG := HG.out;have hz9 := HZ.out.bel hG.2;have HH := hid hG.1;have HBW := hid hG.2;have HZ9 := hid hz9;clear hG hz9 HG HC;go_wp2_with (first | (with_reducible refine wpList_load_blk_w 32 _ rfl W.heap.size 32 _ _ ?_ ?_ HH.out Tryz.underlying32 ?_ ?_ ?_; (focus kernel_rfl); (focus kernel_rfl); (focus rfl); (focus kernel_rfl)) | ((with_reducible refine wpList_store_blk rfl 32 _ _ rfl (w.heap.size + 1) 32 _ #[.int .i64 aM, .int .i64 vR, .int .i64 vN, .int .i64 vB, .int .i64 vC, .int .i64 vT, .int .i64 vU, .int .i64 vS, .int .i64 vK, .int .i64 vL, .int .i64 vQ, .string vY, .string vV, .int .i64 vZ, .slice vD vn vc, .int .i64 vE, .int .i64 vG, .int .i64 vW] ?_ ?_ HZ9.out ?_ ?_ ?_ ?_); (focus rfl); (focus rfl); (focus kernel_rfl); (focus rfl); (focus kernel_rfl); intro w9 hblk2 hgr))
             refine bodyPost_ret (v := .agg _) (results_blk Tryz.results39 _ _ (w.heap.size + 1) 32 _ _ rfl hblk2 Tryz.underlying32 rfl (by kernel_rfl)) rfl ?_;have hbe := HB.out.trans (HBW.out.mono HB.out.size);have hsw := HSW.out;have hb9 := hbe.trans (gr_below hgr hbe.size fun b hb => by injection hb with hb; omega)
             have hval : B = ⟨aM, (vR, vN), (vB, vC), (vT, vU), vS, ⟨vK, vL, vQ, vY, vV, vZ⟩, ⟨vl, vE, vG⟩, vW⟩ := by
              rw [E1.out, E2.out, E3.out.1, E3.out.2, E4.out, E5.out, E7.out];exact HBE.out.symm
             rw [hval];refine ⟨vD, vn, vc, rfl, ?_, hb9⟩;rcases E6.out with ⟨rfl, rfl, rfl, rfl⟩ | ⟨rfl, rfl, rfl, rfl⟩
             · exact HRa.out.below hb9
             · exact Rs.nil_ _
end Go.Proofs.YthlhchaoedcdbaaGreatDoor.Mg
/- The program's sound: whether all that a message has is right. -/
namespace Go.Proofs.YthlhchaoedcdbaaGreatDoor.Mg
open Lib (hid)
open Go.RowKit Mem Ids Att Rk Cod
set_option maxRecDepth 100000 in
set_option maxHeartbeats 8000000 in
theorem sound_any (aM aR aN aB aC aT aU aS aK aL aQ : Int) (aY aV : ByteArray) (aZ : Int) (aA : Option Addr) (an ac : Nat) (aE aG aW : Int) (al : List (Int × Int)) (w : World) (ha : Rs w aA an ac al) (hn : Nam w) :
 Calls Tryz.prog 40 #[.agg #[.int .i64 aM, .int .i64 aR, .int .i64 aN, .int .i64 aB, .int .i64 aC, .int .i64 aT, .int .i64 aU, .int .i64 aS, .int .i64 aK, .int .i64 aL, .int .i64 aQ, .string aY, .string aV, .int .i64 aZ, .slice aA an ac, .int .i64 aE, .int .i64 aG, .int .i64 aW]] w (Tells (sound ⟨aM, (aR, aN), (aB, aC), (aT, aU), aS, ⟨aK, aL, aQ, aY, aV, aZ⟩, ⟨al, aE, aG⟩, aW⟩) w) := by
 obtain ⟨k1, hbb⟩ := box1 w 32 #[.int .i64 aM, .int .i64 aR, .int .i64 aN, .int .i64 aB, .int .i64 aC, .int .i64 aT, .int .i64 aU, .int .i64 aS, .int .i64 aK, .int .i64 aL, .int .i64 aQ, .string aY, .string aV, .int .i64 aZ, .slice aA an ac, .int .i64 aE, .int .i64 aG, .int .i64 aW];obtain ⟨W, hW⟩ : ∃ v, w.alloc (.cells #[.int .i64 aM, .int .i64 aR, .int .i64 aN, .int .i64 aB, .int .i64 aC, .int .i64 aT, .int .i64 aU, .int .i64 aS, .int .i64 aK, .int .i64 aL, .int .i64 aQ, .string aY, .string aV, .int .i64 aZ, .slice aA an ac, .int .i64 aE, .int .i64 aG, .int .i64 aW] 32) = v := ⟨_, rfl⟩
 rw [hW] at k1 hbb;have HKa := hid k1;have HB := hid hbb;have HW := hid hW;have HC := hid (Below.refl W.heap.size W);have HRa := hid (ha.below hbb);have HRN := hid (hn.below hbb);clear hbb hW k1 ha hn;obtain ⟨T, hT⟩ : ∃ T, sound ⟨aM, (aR, aN), (aB, aC), (aT, aU), aS, ⟨aK, aL, aQ, aY, aV, aZ⟩, ⟨al, aE, aG⟩, aW⟩ = T := ⟨_, rfl⟩
 rw [hT];unfold sound at hT;simp only at hT;have hro : recOf ⟨aM, (aR, aN), (aB, aC), (aT, aU), aS, ⟨aK, aL, aQ, aY, aV, aZ⟩, ⟨al, aE, aG⟩, aW⟩ = ⟨(aR, aN), aS, (aB, aC), (aT, aU), ⟨aK, aL, aQ, aY, aV, aZ⟩, ⟨al, aE, aG⟩⟩ := rfl;rw [hro] at hT;have p9 : ∀ x y : Bool, (if aM = 9 then x else y) = if decide (aM = 9) = true then x else y := fun x y => by simp
 have p7 : ∀ x y : Bool, (if aM = 7 then x else y) = if decide (aM = 7) = true then x else y := fun x y => by simp
 rw [p9, p7] at hT;have c1 : (aW == 1) = decide (aW = 1) := rfl;have c2 : (aW == 2) = decide (aW = 2) := rfl;have H1 := hid (fun w (h : Rs w aA an ac al) => rcheck_any aR aN aS aB aC aT aU aK aL aQ aY aV aZ aA an ac aE aG al w h);have c3 : (rchk ⟨(aR, aN), aS, (aB, aC), (aT, aU), ⟨aK, aL, aQ, aY, aV, aZ⟩, ⟨al, aE, aG⟩⟩ == 0) = rgt ⟨(aR, aN), aS, (aB, aC), (aT, aU), ⟨aK, aL, aQ, aY, aV, aZ⟩, ⟨al, aE, aG⟩⟩ := by unfold rchk; cases rgt ⟨(aR, aN), aS, (aB, aC), (aT, aU), ⟨aK, aL, aQ, aY, aV, aZ⟩, ⟨al, aE, aG⟩⟩ <;> rfl
 have H2 := hid (fun w => Cw.check_any aK aL aQ aY aV aZ w);have c4 : (Cmd.chk ⟨aK, aL, aQ, aY, aV, aZ⟩ != 0) = !decide (Cmd.chk ⟨aK, aL, aQ, aY, aV, aZ⟩ = 0) := rfl;have H3 := hid (fun w (h : Rs w aA an ac al) => acheck_any al aE aG aA an ac w h);have c5 : (achk ⟨al, aE, aG⟩ != 0) = !decide (achk ⟨al, aE, aG⟩ = 0) := rfl;have H4 := hid (fun w (h : Rs w aA an ac al) (hz : achk ⟨al, aE, aG⟩ = 0) => Go.Proofs.YthlhchaoedcdbaaGreatDoor.has_any al (aR, aN) aA an ac w h (of_decide_eq_true (achk_zero.1 hz).2.2).2.2 (by rw [← h.len]; have := (of_decide_eq_true (achk_zero.1 hz).2.2).1; simp only at this; omega));have H5 := hid (fun w => Go.Proofs.YthlhchaoedcdbaaGreatDoor.right_any (aR, aN) w);have H6 := hid (fun w => Bal.right_any (aB, aC) w);have C1 := hid (fun w h => has_id aM aR aN aB aC aT aU aS aK aL aQ aY aV aZ aA an ac aE aG aW al w h);have C2 := hid (fun w h => has_bal aM aR aN aB aC aT aU aS aK aL aQ aY aV aZ aA an ac aE aG aW al w h);have C4 := hid (fun w h => has_state aM aR aN aB aC aT aU aS aK aL aQ aY aV aZ aA an ac aE aG aW al w h);have C8 := hid (fun w h => has_cmd aM aR aN aB aC aT aU aS aK aL aQ aY aV aZ aA an ac aE aG aW al w h);have C16 := hid (fun w h => has_at aM aR aN aB aC aT aU aS aK aL aQ aY aV aZ aA an ac aE aG aW al w h);have C32 := hid (fun w h => has_vn aM aR aN aB aC aT aU aS aK aL aQ aY aV aZ aA an ac aE aG aW al w h);generalize decide (aW = 1) = v1 at c1 hT;generalize decide (aW = 2) = v2 at c2 hT;generalize rgt ⟨(aR, aN), aS, (aB, aC), (aT, aU), ⟨aK, aL, aQ, aY, aV, aZ⟩, ⟨al, aE, aG⟩⟩ = r at c3 hT;generalize rchk ⟨(aR, aN), aS, (aB, aC), (aT, aU), ⟨aK, aL, aQ, aY, aV, aZ⟩, ⟨al, aE, aG⟩⟩ = cr at H1 c3;generalize hBal ⟨aM, (aR, aN), (aB, aC), (aT, aU), aS, ⟨aK, aL, aQ, aY, aV, aZ⟩, ⟨al, aE, aG⟩, aW⟩ = tb at C2;generalize hCmd ⟨aM, (aR, aN), (aB, aC), (aT, aU), aS, ⟨aK, aL, aQ, aY, aV, aZ⟩, ⟨al, aE, aG⟩, aW⟩ = tc at C8 hT;generalize hAt ⟨aM, (aR, aN), (aB, aC), (aT, aU), aS, ⟨aK, aL, aQ, aY, aV, aZ⟩, ⟨al, aE, aG⟩, aW⟩ = th at C16 hT;generalize decide (aM = 7) = k7 at C4 hT;generalize decide (aM = 9) = k9 at C32 hT;generalize hz4 : (!decide (Cmd.chk ⟨aK, aL, aQ, aY, aV, aZ⟩ = 0)) = bu4 at c4 hT;clear hz4;generalize Cmd.chk ⟨aK, aL, aQ, aY, aV, aZ⟩ = cc at H2 c4;have hz5 : (!decide (achk ⟨al, aE, aG⟩ = 0)) = false → achk ⟨al, aE, aG⟩ = 0 := fun h => by simpa using h
 generalize (!decide (achk ⟨al, aE, aG⟩ = 0)) = bu5 at c5 hT hz5;have HZ5 := hid (fun h w hr => H4.out w hr (hz5 h));clear hz5 H4;generalize achk ⟨al, aE, aG⟩ = ca at H3 c5 HZ5;simp only at HZ5 H5 H6;generalize decide (((aR, aN) : Int × Int) ∈ al) = bu6 at HZ5 hT;generalize Ids.right (aR, aN) = ir at H5 hT;generalize Bal.right (aB, aC) = br at H6 hT;obtain ⟨bq5, hq5⟩ : ∃ s, (tc && bu4) = s := ⟨_, rfl⟩
 obtain ⟨bq7, hq7⟩ : ∃ s, (th && (bu5 || bu6)) = s := ⟨_, rfl⟩
 rw [hq5, hq7] at hT;have HS5 := hid hq5;have HS7 := hid hq7;have HT := hid hT;clear hT hq5 hq7 hro p7 p9 C1 C2;go_enter Tryz.func40, Tryz.ntmps40
 go_upto_region 1 with fail
 rw [HW.out];cases k9 with
 | false =>
   go_wp2_with (first | (with_reducible refine wpList_load_blk_w 32 _ rfl w.heap.size 32 _ _ ?_ ?_ (HKa.out.bel HC.out) Tryz.underlying32 ?_ ?_ ?_; (focus kernel_rfl); (focus kernel_rfl); (focus rfl); (focus kernel_rfl)))
   refine (C32.out _ (HRN.out.below HC.out)).mono ?_;rintro e u1 ⟨rfl, hb1⟩;replace HC := hid (bel_trans HC.out hb1);clear hb1;cases k7 with
   | false =>
     go_wp2_with (first | (with_reducible refine wpList_load_blk_w 32 _ rfl w.heap.size 32 _ _ ?_ ?_ (HKa.out.bel HC.out) Tryz.underlying32 ?_ ?_ ?_; (focus kernel_rfl); (focus kernel_rfl); (focus rfl); (focus kernel_rfl)))
     refine (C4.out _ (HRN.out.below HC.out)).mono ?_;rintro e u2 ⟨rfl, hb1⟩;replace HC := hid (bel_trans HC.out hb1);clear hb1;go_upto_region 5 with fail
     go_cut [32] from 3 (fun cv wx => cv = .bool bq5 ∧ Below W.heap.size W wx)
     case first =>
      go_wp2_with (first | (with_reducible refine wpList_load_blk_w 32 _ rfl w.heap.size 32 _ _ ?_ ?_ (HKa.out.bel HC.out) Tryz.underlying32 ?_ ?_ ?_; (focus kernel_rfl); (focus kernel_rfl); (focus rfl); (focus kernel_rfl)))
      refine (C8.out _ (HRN.out.below HC.out)).mono ?_;rintro e u3 ⟨rfl, hb1⟩;replace HC := hid (bel_trans HC.out hb1);clear hb1;cases tc with
      | false =>
        go_wp2_with fail
        go_meet
        case rel => exact ⟨congrArg Value.bool HS5.out, HC.out⟩
      | true =>
        obtain ⟨-, -, -, -, -, -, -, -, xa8, xa9, xa10, xa11, xa12, xa13, -, -, -, -⟩ := blk18 (HKa.out.bel HC.out);go_wp2_with fail
        refine (H2.out _).mono ?_;rintro e u4 ⟨rfl, hb1⟩;replace HC := hid (bel_trans HC.out hb1);clear hb1;go_wp2_with fail
        go_meet
        case rel => exact ⟨congrArg Value.bool HS5.out, HC.out⟩
     case rest =>
      obtain ⟨rfl, hbw⟩ := hcut;clear HC;have HC := hid hbw;clear hbw;generalize wc = Y1 at HC ⊢;cases bq5 with
      | false =>
        go_upto_region 7 with fail
        go_cut [41] from 3 (fun cv wx => cv = .bool bq7 ∧ Below W.heap.size W wx)
        case first =>
         go_wp2_with (first | (with_reducible refine wpList_load_blk_w 32 _ rfl w.heap.size 32 _ _ ?_ ?_ (HKa.out.bel HC.out) Tryz.underlying32 ?_ ?_ ?_; (focus kernel_rfl); (focus kernel_rfl); (focus rfl); (focus kernel_rfl)))
         refine (C16.out _ (HRN.out.below HC.out)).mono ?_;rintro e u3 ⟨rfl, hb1⟩;replace HC := hid (bel_trans HC.out hb1);clear hb1;cases th with
         | false =>
           go_wp2_with fail
           go_meet
           case rel => exact ⟨congrArg Value.bool HS7.out, HC.out⟩
         | true =>
           obtain ⟨-, -, -, -, -, -, -, -, -, -, -, -, -, -, xa14, xa15, xa16, -⟩ := blk18 (HKa.out.bel HC.out);go_wp2_with fail
           refine (H3.out _ (HRa.out.below HC.out)).mono ?_;rintro e u4 ⟨rfl, hb1⟩;replace HC := hid (bel_trans HC.out hb1);clear hb1;clear xa14 xa15 xa16;cases bu5 with
           | false =>
             obtain ⟨-, xa1, xa2, -, -, -, -, -, -, -, -, -, -, -, xa14, xa15, xa16, -⟩ := blk18 (HKa.out.bel HC.out);go_wp2_with fail
             refine (HZ5.out (by first | rfl | trivial) _ (HRa.out.below HC.out)).mono ?_;rintro e u5 ⟨rfl, hb1⟩;replace HC := hid (bel_trans HC.out hb1);clear hb1;go_wp2_with fail
             go_meet
             case rel => exact ⟨congrArg Value.bool HS7.out, HC.out⟩
           | true =>
             go_wp2_with fail
             go_meet
             case rel => exact ⟨congrArg Value.bool HS7.out, HC.out⟩
        case rest =>
         obtain ⟨rfl, hbw⟩ := hcut;clear HC;have HC := hid hbw;clear hbw;generalize wc = Y2 at HC ⊢;cases bq7 with
         | false =>
           have xa1 := (HKa.out.bel HC.out).cell 1;have xa2 := (HKa.out.bel HC.out).cell 2;simp at xa1 xa2;go_wp2_with fail
           refine (H5.out _).mono ?_;rintro e u3 ⟨rfl, hb1⟩;replace HC := hid (bel_trans HC.out hb1);clear hb1;clear xa1 xa2;cases ir with
           | false =>
             go_wp2_with fail
             go_ret;exact ⟨congrArg (fun b => Ending.returned (.bool b)) HT.out, HB.out.trans (HC.out.mono HB.out.size)⟩
           | true =>
             have xa3 := (HKa.out.bel HC.out).cell 3;have xa4 := (HKa.out.bel HC.out).cell 4;simp at xa3 xa4;go_wp2_with fail
             refine (H6.out _).mono ?_;rintro e u4 ⟨rfl, hb1⟩;replace HC := hid (bel_trans HC.out hb1);clear hb1;go_wp2_with fail
             go_ret;exact ⟨congrArg (fun b => Ending.returned (.bool b)) HT.out, HB.out.trans (HC.out.mono HB.out.size)⟩
         | true =>
           go_wp2_with fail
           go_ret;exact ⟨congrArg (fun b => Ending.returned (.bool b)) HT.out, HB.out.trans (HC.out.mono HB.out.size)⟩
      | true =>
        go_wp2_with fail
        go_ret;exact ⟨congrArg (fun b => Ending.returned (.bool b)) HT.out, HB.out.trans (HC.out.mono HB.out.size)⟩
   | true =>
     go_wp2_with (first | (with_reducible refine wpList_load_blk_w 32 _ rfl w.heap.size 32 _ _ ?_ ?_ (HKa.out.bel HC.out) Tryz.underlying32 ?_ ?_ ?_; (focus kernel_rfl); (focus kernel_rfl); (focus rfl); (focus kernel_rfl)))
     refine (C4.out _ (HRN.out.below HC.out)).mono ?_;rintro e u2 ⟨rfl, hb1⟩;replace HC := hid (bel_trans HC.out hb1);clear hb1;obtain ⟨xa0, xa1, xa2, xa3, xa4, xa5, xa6, xa7, xa8, xa9, xa10, xa11, xa12, xa13, xa14, xa15, xa16, xa17⟩ := blk18 (HKa.out.bel HC.out);go_wp2_with fail
     refine (H1.out _ (HRa.out.below HC.out)).mono ?_;rintro e u3 ⟨rfl, hb1⟩;replace HC := hid (bel_trans HC.out hb1);clear hb1;try rw [c3]
     go_wp2_with fail
     go_ret;exact ⟨congrArg (fun b => Ending.returned (.bool b)) HT.out, HB.out.trans (HC.out.mono HB.out.size)⟩
 | true =>
   go_wp2_with (first | (with_reducible refine wpList_load_blk_w 32 _ rfl w.heap.size 32 _ _ ?_ ?_ (HKa.out.bel HC.out) Tryz.underlying32 ?_ ?_ ?_; (focus kernel_rfl); (focus kernel_rfl); (focus rfl); (focus kernel_rfl)))
   refine (C32.out _ (HRN.out.below HC.out)).mono ?_;rintro e u1 ⟨rfl, hb1⟩;replace HC := hid (bel_trans HC.out hb1);clear hb1;have xa17 := (HKa.out.bel HC.out).cell 17;simp at xa17;cases v1 with
   | false =>
     cases v2 with
     | false =>
       go_wp2_with fail
       go_ret;exact ⟨congrArg (fun b => Ending.returned (.bool b)) HT.out, HB.out.trans (HC.out.mono HB.out.size)⟩
     | true =>
       go_wp2_with fail
       go_ret;exact ⟨congrArg (fun b => Ending.returned (.bool b)) HT.out, HB.out.trans (HC.out.mono HB.out.size)⟩
   | true =>
     go_wp2_with fail
     go_ret;exact ⟨congrArg (fun b => Ending.returned (.bool b)) HT.out, HB.out.trans (HC.out.mono HB.out.size)⟩
end Go.Proofs.YthlhchaoedcdbaaGreatDoor.Mg
