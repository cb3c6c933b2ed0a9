/-
  Texts of earlier layers, as one.
-/
import Derived.Test.YtjfpfbagckckkaaGreatDoorMsgAw
import Derived.Test.YtjfpfbagckckkaaGreatDoorMsgBS
import Derived.Test.YtjfpfbagckckkaaGreatDoorMsgBase
import Derived.Test.YtjfpfbagckckkaaGreatDoorMsgRight
import Derived.Test.YtjfpfbagckckkaaGreatDoorMsgItem
import Derived.Test.YtjfpfbagckckkaaGreatDoorRNum
import Derived.Deep.RegionHeld
import Derived.Deep.Cut
/- Whether any message is right, the same as another one, and its new form, are what the document says; it is taken as it was. -/
namespace Go.Proofs.YtjfpfbagckckkaaGreatDoor.Mg
open Go.RowKit Mem Ids Att Rk Cod
theorem great_small {m : Mg} (h : great m = false) : m.cm.ky.size ≤ 1073741824 := by
 unfold great at h
 obtain ⟨_, h⟩ := Bool.or_eq_false_iff.1 h
 simp only [Cmd.great, Bool.or_eq_false_iff, decide_eq_false_iff_not] at h
 omega
set_option maxRecDepth 100000 in
set_option maxHeartbeats 8000000 in
theorem msgputs_true (aM aR aN aB aC aT aU aS aK aL aQ : Int) (aY aV : ByteArray) (aZ : Int) (aA : Option Addr) (an ac : Nat) (aE aG aW : Int) (al : List (Int × Int)) (bM bR bN bB bC bT bU bS bK bL bQ : Int) (bY bV : ByteArray) (bZ : Int) (bA : Option Addr) (bn bc : Nat) (bE bG bW : Int) (bl : List (Int × Int)) (w : World) (hT : Glob w) (ha : Rs w aA an ac al) (hb : Rs w bA bn bc bl) :
 Calls Tryz.prog 3 #[.agg #[.int .i64 aM, .int .i64 aR, .int .i64 aN, .int .i64 aB, .int .i64 aC, .int .i64 aT, .int .i64 aU, .int .i64 aS, .int .i64 aK, .int .i64 aL, .int .i64 aQ, .string aY, .string aV, .int .i64 aZ, .slice aA an ac, .int .i64 aE, .int .i64 aG, .int .i64 aW], .agg #[.int .i64 bM, .int .i64 bR, .int .i64 bN, .int .i64 bB, .int .i64 bC, .int .i64 bT, .int .i64 bU, .int .i64 bS, .int .i64 bK, .int .i64 bL, .int .i64 bQ, .string bY, .string bV, .int .i64 bZ, .slice bA bn bc, .int .i64 bE, .int .i64 bG, .int .i64 bW]] w (Tells true w) := by
 obtain ⟨k1, k2, hbb⟩ := two_boxes w 32 #[.int .i64 aM, .int .i64 aR, .int .i64 aN, .int .i64 aB, .int .i64 aC, .int .i64 aT, .int .i64 aU, .int .i64 aS, .int .i64 aK, .int .i64 aL, .int .i64 aQ, .string aY, .string aV, .int .i64 aZ, .slice aA an ac, .int .i64 aE, .int .i64 aG, .int .i64 aW] #[.int .i64 bM, .int .i64 bR, .int .i64 bN, .int .i64 bB, .int .i64 bC, .int .i64 bT, .int .i64 bU, .int .i64 bS, .int .i64 bK, .int .i64 bL, .int .i64 bQ, .string bY, .string bV, .int .i64 bZ, .slice bA bn bc, .int .i64 bE, .int .i64 bG, .int .i64 bW]
 obtain ⟨W, hW⟩ : ∃ v, (w.alloc (.cells #[.int .i64 aM, .int .i64 aR, .int .i64 aN, .int .i64 aB, .int .i64 aC, .int .i64 aT, .int .i64 aU, .int .i64 aS, .int .i64 aK, .int .i64 aL, .int .i64 aQ, .string aY, .string aV, .int .i64 aZ, .slice aA an ac, .int .i64 aE, .int .i64 aG, .int .i64 aW] 32)).alloc (.cells #[.int .i64 bM, .int .i64 bR, .int .i64 bN, .int .i64 bB, .int .i64 bC, .int .i64 bT, .int .i64 bU, .int .i64 bS, .int .i64 bK, .int .i64 bL, .int .i64 bQ, .string bY, .string bV, .int .i64 bZ, .slice bA bn bc, .int .i64 bE, .int .i64 bG, .int .i64 bW] 32) = v := ⟨_, rfl⟩
 rw [hW] at k1 k2 hbb
 have HKa := Lib.hid k1
 have HKb := Lib.hid k2
 have HB := Lib.hid hbb
 have HW := Lib.hid hW
 have HC := Lib.hid (Below.refl W.heap.size W)
 have HRa := Lib.hid (ha.below hbb)
 have HRb := Lib.hid (hb.below hbb)
 have hTW := hT.below hbb
 have HGL := Lib.hid (fun (w' : World) (h : Below W.heap.size W w') => hTW.below h)
 have HAW := Lib.hid (fun (w' : World) (h : Below W.heap.size W w') => awake_any w' (hTW.below h))
 have HG1 := Lib.hid (fun w h => great_any aM aR aN aB aC aT aU aS aK aL aQ aY aV aZ aA an ac aE aG aW al w h)
 have HG2 := Lib.hid (fun w h => great_any bM bR bN bB bC bT bU bS bK bL bQ bY bV bZ bA bn bc bE bG bW bl w h)
 have hgr := great_small (m := ⟨aM, (aR, aN), (aB, aC), (aT, aU), aS, ⟨aK, aL, aQ, aY, aV, aZ⟩, ⟨al, aE, aG⟩, aW⟩)
 have hpa := fun (w' : World) (h : Below W.heap.size W w') => mput_any aM aR aN aB aC aT aU aS aK aL aQ aY aV aZ aA an ac aE aG aW al w' ((ha.below hbb).below h) (hTW.2.below h) (hTW.1.below h)
 have hck := fun (w' : World) (h : Below W.heap.size W w') => mcheck_any aM aR aN aB aC aT aU aS aK aL aQ aY aV aZ aA an ac aE aG aW al w' ((ha.below hbb).below h) (hTW.2.below h)
 have hrt := fun (w' : World) (h : Below W.heap.size W w') (hy : aY.size ≤ 1073741824) => refmright_any aM aR aN aB aC aT aU aS aK aL aQ aY aV aZ aA an ac aE aG aW al w' ((ha.below hbb).below h) hy
 have hit := fun (w' : World) (h : Below W.heap.size W w') hr => refmitem_any aM aR aN aB aC aT aU aS aK aL aQ aY aV aZ aA an ac aE aG aW al w' ((ha.below hbb).below h) hr
 have HSM := Lib.hid (fun w (h : Rs w aA an ac al) (h' : Rs w bA bn bc bl) => ownsame_any aM aR aN aB aC aT aU aS aK aL aQ aY aV aZ aA an ac aE aG aW al bM bR bN bB bC bT bU bS bK bL bQ bY bV bZ bA bn bc bE bG bW bl w h h')
 have HSR := Lib.hid (fun w (h : Rs w aA an ac al) (h' : Rs w bA bn bc bl) => refmsame_any aM aR aN aB aC aT aU aS aK aL aQ aY aV aZ aA an ac aE aG aW al bM bR bN bB bC bT bU bS bK bL bQ bY bV bZ bA bn bc bE bG bW bl w h h')
 have hss := fun V k9 c9 w (h : Rs w V k9 c9 al) (h' : Rs w aA an ac al) => refmsame_any aM aR aN aB aC aT aU aS aK aL aQ aY aV aZ V k9 c9 aE aG aW al aM aR aN aB aC aT aU aS aK aL aQ aY aV aZ aA an ac aE aG aW al w h h'
 rw [msame_refl] at hss
 have HSS := Lib.hid hss
 have htb := fun (h : mright ⟨aM, (aR, aN), (aB, aC), (aT, aU), aS, ⟨aK, aL, aQ, aY, aV, aZ⟩, ⟨al, aE, aG⟩, aW⟩ = true) (f : Fit (mgIt ⟨aM, (aR, aN), (aB, aC), (aT, aU), aS, ⟨aK, aL, aQ, aY, aV, aZ⟩, ⟨al, aE, aG⟩, aW⟩)) => taken_back h f
 have hlen := fun (h : mright ⟨aM, (aR, aN), (aB, aC), (aT, aU), aS, ⟨aK, aL, aQ, aY, aV, aZ⟩, ⟨al, aE, aG⟩, aW⟩ = true) (f : Fit (mgIt ⟨aM, (aR, aN), (aB, aC), (aT, aU), aS, ⟨aK, aL, aQ, aY, aV, aZ⟩, ⟨al, aE, aG⟩, aW⟩)) => And.intro (length_form_le _ f) (And.intro (wt_mg h) (Cp.form_bytes _ f))
 have hcx := chk_mg ⟨aM, (aR, aN), (aB, aC), (aT, aU), aS, ⟨aK, aL, aQ, aY, aV, aZ⟩, ⟨al, aE, aG⟩, aW⟩
 unfold PutsMg mchk at hpa
 unfold mchk at hck
 generalize great ⟨aM, (aR, aN), (aB, aC), (aT, aU), aS, ⟨aK, aL, aQ, aY, aV, aZ⟩, ⟨al, aE, aG⟩, aW⟩ = ga at HG1 hgr
 generalize great ⟨bM, (bR, bN), (bB, bC), (bT, bU), bS, ⟨bK, bL, bQ, bY, bV, bZ⟩, ⟨bl, bE, bG⟩, bW⟩ = gb at HG2
 generalize msame ⟨aM, (aR, aN), (aB, aC), (aT, aU), aS, ⟨aK, aL, aQ, aY, aV, aZ⟩, ⟨al, aE, aG⟩, aW⟩ ⟨bM, (bR, bN), (bB, bC), (bT, bU), bS, ⟨bK, bL, bQ, bY, bV, bZ⟩, ⟨bl, bE, bG⟩, bW⟩ = t at HSM HSR
 generalize hX : mgIt ⟨aM, (aR, aN), (aB, aC), (aT, aU), aS, ⟨aK, aL, aQ, aY, aV, aZ⟩, ⟨al, aE, aG⟩, aW⟩ = X at hpa hit htb hlen hcx
 generalize mright ⟨aM, (aR, aN), (aB, aC), (aT, aU), aS, ⟨aK, aL, aQ, aY, aV, aZ⟩, ⟨al, aE, aG⟩, aW⟩ = ra at hpa hck hrt hit htb hlen
 obtain ⟨ea, hea⟩ : ∃ e : Int, (if ra = true then (0 : Int) else 4) = e := ⟨_, rfl⟩
 rw [hea] at hpa hck
 have HEA := Lib.hid hea
 have HPA := Lib.hid hpa
 have HCK := Lib.hid hck
 have HRT := Lib.hid hrt
 have HIT := Lib.hid hit
 have HTB := Lib.hid htb
 have HLEN := Lib.hid hlen
 have HCX := Lib.hid hcx
 have HGR := Lib.hid hgr
 clear hpa hck hrt hit htb hlen hcx hgr hss k1 k2 hbb hW ha hb hT hTW hea hX
 go_enter Tryz.func3, Tryz.ntmps3
 go_upto_region 1 with fail
 rw [HW.out]
 go_wp2_with (first | ((with_reducible refine wpList_load_blk_w 32 _ rfl w.heap.size 32 #[.int .i64 aM, .int .i64 aR, .int .i64 aN, .int .i64 aB, .int .i64 aC, .int .i64 aT, .int .i64 aU, .int .i64 aS, .int .i64 aK, .int .i64 aL, .int .i64 aQ, .string aY, .string aV, .int .i64 aZ, .slice aA an ac, .int .i64 aE, .int .i64 aG, .int .i64 aW] _ ?_ ?_ (HKa.out.bel HC.out) Tryz.underlying32 ?_ ?_ ?_); (focus rfl); (focus kernel_rfl); (focus rfl); (focus kernel_rfl)) | ((with_reducible refine wpList_load_blk_w 32 _ rfl (w.heap.size + 1) 32 #[.int .i64 bM, .int .i64 bR, .int .i64 bN, .int .i64 bB, .int .i64 bC, .int .i64 bT, .int .i64 bU, .int .i64 bS, .int .i64 bK, .int .i64 bL, .int .i64 bQ, .string bY, .string bV, .int .i64 bZ, .slice bA bn bc, .int .i64 bE, .int .i64 bG, .int .i64 bW] _ ?_ ?_ (HKb.out.bel HC.out) Tryz.underlying32 ?_ ?_ ?_); (focus rfl); (focus kernel_rfl); (focus rfl); (focus kernel_rfl)))
 refine (HG1.out _ (HRa.out.below HC.out)).mono ?_
 rintro e u1 ⟨rfl, hb1⟩
 replace HC := Lib.hid (bel_trans HC.out hb1)
 clear hb1
 cases ga with
 | false =>
   go_wp2_with (first | ((with_reducible refine wpList_load_blk_w 32 _ rfl w.heap.size 32 #[.int .i64 aM, .int .i64 aR, .int .i64 aN, .int .i64 aB, .int .i64 aC, .int .i64 aT, .int .i64 aU, .int .i64 aS, .int .i64 aK, .int .i64 aL, .int .i64 aQ, .string aY, .string aV, .int .i64 aZ, .slice aA an ac, .int .i64 aE, .int .i64 aG, .int .i64 aW] _ ?_ ?_ (HKa.out.bel HC.out) Tryz.underlying32 ?_ ?_ ?_); (focus rfl); (focus kernel_rfl); (focus rfl); (focus kernel_rfl)) | ((with_reducible refine wpList_load_blk_w 32 _ rfl (w.heap.size + 1) 32 #[.int .i64 bM, .int .i64 bR, .int .i64 bN, .int .i64 bB, .int .i64 bC, .int .i64 bT, .int .i64 bU, .int .i64 bS, .int .i64 bK, .int .i64 bL, .int .i64 bQ, .string bY, .string bV, .int .i64 bZ, .slice bA bn bc, .int .i64 bE, .int .i64 bG, .int .i64 bW] _ ?_ ?_ (HKb.out.bel HC.out) Tryz.underlying32 ?_ ?_ ?_); (focus rfl); (focus kernel_rfl); (focus rfl); (focus kernel_rfl)))
   refine (HG2.out _ (HRb.out.below HC.out)).mono ?_
   rintro e u2 ⟨rfl, hb1⟩
   replace HC := Lib.hid (bel_trans HC.out hb1)
   clear hb1
   cases gb with
   | false =>
     have hgs := HGR.out (by first | rfl | trivial)
     have HGS := Lib.hid hgs
     clear hgs
     go_wp2_with (first | ((with_reducible refine wpList_load_blk_w 32 _ rfl w.heap.size 32 #[.int .i64 aM, .int .i64 aR, .int .i64 aN, .int .i64 aB, .int .i64 aC, .int .i64 aT, .int .i64 aU, .int .i64 aS, .int .i64 aK, .int .i64 aL, .int .i64 aQ, .string aY, .string aV, .int .i64 aZ, .slice aA an ac, .int .i64 aE, .int .i64 aG, .int .i64 aW] _ ?_ ?_ (HKa.out.bel HC.out) Tryz.underlying32 ?_ ?_ ?_); (focus rfl); (focus kernel_rfl); (focus rfl); (focus kernel_rfl)) | ((with_reducible refine wpList_load_blk_w 32 _ rfl (w.heap.size + 1) 32 #[.int .i64 bM, .int .i64 bR, .int .i64 bN, .int .i64 bB, .int .i64 bC, .int .i64 bT, .int .i64 bU, .int .i64 bS, .int .i64 bK, .int .i64 bL, .int .i64 bQ, .string bY, .string bV, .int .i64 bZ, .slice bA bn bc, .int .i64 bE, .int .i64 bG, .int .i64 bW] _ ?_ ?_ (HKb.out.bel HC.out) Tryz.underlying32 ?_ ?_ ?_); (focus rfl); (focus kernel_rfl); (focus rfl); (focus kernel_rfl)))
     refine (HRT.out _ HC.out HGS.out).mono ?_
     rintro e u3 ⟨rfl, hb1⟩
     replace HC := Lib.hid (bel_trans HC.out hb1)
     clear hb1
     go_upto_if 19 with fail
     go_cut [5] from 6 (fun v5 wx => v5 = .int .i64 ea ∧ Below W.heap.size W wx)
     case first =>
      cases ra with
      | false =>
        go_wp2_with fail
        go_meet
        case rel => exact ⟨congrArg (Value.int .i64) HEA.out, HC.out⟩
      | true =>
        go_wp2_with fail
        go_meet
        case rel => exact ⟨congrArg (Value.int .i64) HEA.out, HC.out⟩
     case rest =>
      obtain ⟨rfl, hbw⟩ := hcut
      clear HC
      have HC := Lib.hid hbw
      clear hbw
      generalize wc = Y3 at HC ⊢
      go_wp2_with (first | ((with_reducible refine wpList_load_blk_w 32 _ rfl w.heap.size 32 #[.int .i64 aM, .int .i64 aR, .int .i64 aN, .int .i64 aB, .int .i64 aC, .int .i64 aT, .int .i64 aU, .int .i64 aS, .int .i64 aK, .int .i64 aL, .int .i64 aQ, .string aY, .string aV, .int .i64 aZ, .slice aA an ac, .int .i64 aE, .int .i64 aG, .int .i64 aW] _ ?_ ?_ (HKa.out.bel HC.out) Tryz.underlying32 ?_ ?_ ?_); (focus rfl); (focus kernel_rfl); (focus rfl); (focus kernel_rfl)) | ((with_reducible refine wpList_load_blk_w 32 _ rfl (w.heap.size + 1) 32 #[.int .i64 bM, .int .i64 bR, .int .i64 bN, .int .i64 bB, .int .i64 bC, .int .i64 bT, .int .i64 bU, .int .i64 bS, .int .i64 bK, .int .i64 bL, .int .i64 bQ, .string bY, .string bV, .int .i64 bZ, .slice bA bn bc, .int .i64 bE, .int .i64 bG, .int .i64 bW] _ ?_ ?_ (HKb.out.bel HC.out) Tryz.underlying32 ?_ ?_ ?_); (focus rfl); (focus kernel_rfl); (focus rfl); (focus kernel_rfl)))
      refine (HPA.out _ HC.out).mono ?_
      rintro e u4 ⟨A1, n1, c1, rfl, hr1, hb1, hf1⟩
      have HR1 := Lib.hid hr1
      have HF1 := Lib.hid hf1
      replace HC := Lib.hid (bel_trans HC.out hb1)
      clear hr1 hf1 hb1
      go_upto_region 7 with fail
      have HBW := HC
      replace HKa := Lib.hid (HKa.out.bel HC.out)
      replace HKb := Lib.hid (HKb.out.bel HC.out)
      replace HRa := Lib.hid (HRa.out.below HC.out)
      replace HRb := Lib.hid (HRb.out.below HC.out)
      replace HCK := Lib.hid (fun (w' : World) (h : Below u4.heap.size u4 w') => HCK.out w' (HBW.out.trans (h.mono HBW.out.size)))
      clear HC
      have HC := Lib.hid (Below.drew (Below.refl u4.heap.size u4))
      refine wp_region_held_drew (S := (fun w' => Blk w' w.heap.size 32 #[.int .i64 aM, .int .i64 aR, .int .i64 aN, .int .i64 aB, .int .i64 aC, .int .i64 aT, .int .i64 aU, .int .i64 aS, .int .i64 aK, .int .i64 aL, .int .i64 aQ, .string aY, .string aV, .int .i64 aZ, .slice aA an ac, .int .i64 aE, .int .i64 aG, .int .i64 aW] ∧ Blk w' (w.heap.size + 1) 32 #[.int .i64 bM, .int .i64 bR, .int .i64 bN, .int .i64 bB, .int .i64 bC, .int .i64 bT, .int .i64 bU, .int .i64 bS, .int .i64 bK, .int .i64 bL, .int .i64 bQ, .string bY, .string bV, .int .i64 bZ, .slice bA bn bc, .int .i64 bE, .int .i64 bG, .int .i64 bW])) (by kernel_rfl) (by with_reducible exact ⟨HKa.out.bel HC.out, HKb.out.bel HC.out⟩) (fun hHeld => ?_)
      refine held_take (i := 0) (d := 25) (v := (.agg #[.int .i64 aM, .int .i64 aR, .int .i64 aN, .int .i64 aB, .int .i64 aC, .int .i64 aT, .int .i64 aU, .int .i64 aS, .int .i64 aK, .int .i64 aL, .int .i64 aQ, .string aY, .string aV, .int .i64 aZ, .slice aA an ac, .int .i64 aE, .int .i64 aG, .int .i64 aW])) rfl rfl (by kernel_rfl) (by kernel_rfl) (by kernel_rfl) (fun _ _ _ h => h) (by kernel_rfl) (run_load_blk 32 (.tmp 2) rfl w.heap.size 32 #[.int .i64 aM, .int .i64 aR, .int .i64 aN, .int .i64 aB, .int .i64 aC, .int .i64 aT, .int .i64 aU, .int .i64 aS, .int .i64 aK, .int .i64 aL, .int .i64 aQ, .string aY, .string aV, .int .i64 aZ, .slice aA an ac, .int .i64 aE, .int .i64 aG, .int .i64 aW] _ rfl (fun _ h => h.1) Tryz.underlying32 rfl (by kernel_rfl)) hHeld ?_
      try simp only [List.setIfInBounds_toArray, List.set_cons_zero, List.set_cons_succ]
      refine held_take (i := 2) (d := 27) (v := (.int .i64 ea)) rfl rfl (by kernel_rfl) (by kernel_rfl) (by kernel_rfl) (fun _ _ _ h => h) (by kernel_rfl) (fun w hSw => by (obtain hS := hSw); go_simp) hHeld ?_
      try simp only [List.setIfInBounds_toArray, List.set_cons_zero, List.set_cons_succ]
      refine wpAnyH_ready (rs := [1]) (by kernel_rfl) (by simp) ?_
      refine AllReadyH.cons rfl (fun K hK => ?_) AllReadyH.nil
      go_simp
      go_at_call 9
      refine (HCK.out _ HC.out).mono ?_
      rintro e uy ⟨rfl, hb1⟩
      replace HC := Lib.hid (bel_trans HC.out hb1)
      clear hb1
      refine hK.out _ _ (by with_reducible exact ⟨HKa.out.bel HC.out, HKb.out.bel HC.out⟩) (fun hHeld => ?_)
      clear hK K
      refine held_take (i := 3) (d := 28) (v := (.bool false)) rfl rfl (by kernel_rfl) (by kernel_rfl) (by kernel_rfl) (fun _ _ _ h => h) (by kernel_rfl) (fun w hSw => by (have q0 : (ea != ea) = false := bne_self_eq_false ea); go_simp) hHeld ?_
      try simp only [List.setIfInBounds_toArray, List.set_cons_zero, List.set_cons_succ]
      refine held_take (i := 4) (d := 29) (v := (.bool false)) rfl rfl (by kernel_rfl) (by kernel_rfl) (by kernel_rfl) (fun _ _ _ h => h) (by kernel_rfl) (fun w hSw => by (obtain hS := hSw); go_simp) hHeld ?_
      try simp only [List.setIfInBounds_toArray, List.set_cons_zero, List.set_cons_succ]
      refine held_take (i := 5) (d := 30) (v := (.int .i64 ea)) rfl rfl (by kernel_rfl) (by kernel_rfl) (by kernel_rfl) (fun _ _ _ h => h) (by kernel_rfl) (fun w hSw => by (obtain hS := hSw); go_simp) hHeld ?_
      try simp only [List.setIfInBounds_toArray, List.set_cons_zero, List.set_cons_succ]
      refine held_take (i := 6) (d := 31) (v := (.int .i64 ea)) rfl rfl (by kernel_rfl) (by kernel_rfl) (by kernel_rfl) (fun _ _ _ h => h) (by kernel_rfl) (fun w hSw => by (obtain hS := hSw); go_simp) hHeld ?_
      try simp only [List.setIfInBounds_toArray, List.set_cons_zero, List.set_cons_succ]
      refine held_take (i := 7) (d := 32) (v := (.bool false)) rfl rfl (by kernel_rfl) (by kernel_rfl) (by kernel_rfl) (fun _ _ _ h => h) (by kernel_rfl) (fun w hSw => by (have q0 : (ea != ea) = false := bne_self_eq_false ea); go_simp) hHeld ?_
      try simp only [List.setIfInBounds_toArray, List.set_cons_zero, List.set_cons_succ]
      refine held_take (i := 8) (d := 33) (v := (.bool false)) rfl rfl (by kernel_rfl) (by kernel_rfl) (by kernel_rfl) (fun _ _ _ h => h) (by kernel_rfl) (fun w hSw => by (obtain hS := hSw); go_simp) hHeld ?_
      try simp only [List.setIfInBounds_toArray, List.set_cons_zero, List.set_cons_succ]
      refine held_take (i := 9) (d := 34) (v := (.bool false)) rfl rfl (by kernel_rfl) (by kernel_rfl) (by kernel_rfl) (fun _ _ _ h => h) (by kernel_rfl) (fun w hSw => by (obtain hS := hSw); go_simp) hHeld ?_
      try simp only [List.setIfInBounds_toArray, List.set_cons_zero, List.set_cons_succ]
      refine held_take (i := 10) (d := 35) (v := (.agg #[.int .i64 aM, .int .i64 aR, .int .i64 aN, .int .i64 aB, .int .i64 aC, .int .i64 aT, .int .i64 aU, .int .i64 aS, .int .i64 aK, .int .i64 aL, .int .i64 aQ, .string aY, .string aV, .int .i64 aZ, .slice aA an ac, .int .i64 aE, .int .i64 aG, .int .i64 aW])) rfl rfl (by kernel_rfl) (by kernel_rfl) (by kernel_rfl) (fun _ _ _ h => h) (by kernel_rfl) (run_load_blk 32 (.tmp 2) rfl w.heap.size 32 #[.int .i64 aM, .int .i64 aR, .int .i64 aN, .int .i64 aB, .int .i64 aC, .int .i64 aT, .int .i64 aU, .int .i64 aS, .int .i64 aK, .int .i64 aL, .int .i64 aQ, .string aY, .string aV, .int .i64 aZ, .slice aA an ac, .int .i64 aE, .int .i64 aG, .int .i64 aW] _ rfl (fun _ h => h.1) Tryz.underlying32 rfl (by kernel_rfl)) hHeld ?_
      try simp only [List.setIfInBounds_toArray, List.set_cons_zero, List.set_cons_succ]
      refine held_take (i := 11) (d := 36) (v := (.agg #[.int .i64 bM, .int .i64 bR, .int .i64 bN, .int .i64 bB, .int .i64 bC, .int .i64 bT, .int .i64 bU, .int .i64 bS, .int .i64 bK, .int .i64 bL, .int .i64 bQ, .string bY, .string bV, .int .i64 bZ, .slice bA bn bc, .int .i64 bE, .int .i64 bG, .int .i64 bW])) rfl rfl (by kernel_rfl) (by kernel_rfl) (by kernel_rfl) (fun _ _ _ h => h) (by kernel_rfl) (run_load_blk 32 (.tmp 3) rfl (w.heap.size + 1) 32 #[.int .i64 bM, .int .i64 bR, .int .i64 bN, .int .i64 bB, .int .i64 bC, .int .i64 bT, .int .i64 bU, .int .i64 bS, .int .i64 bK, .int .i64 bL, .int .i64 bQ, .string bY, .string bV, .int .i64 bZ, .slice bA bn bc, .int .i64 bE, .int .i64 bG, .int .i64 bW] _ rfl (fun _ h => h.2) Tryz.underlying32 rfl (by kernel_rfl)) hHeld ?_
      try simp only [List.setIfInBounds_toArray, List.set_cons_zero, List.set_cons_succ]
      refine held_take (i := 13) (d := 38) (v := (.agg #[.int .i64 aM, .int .i64 aR, .int .i64 aN, .int .i64 aB, .int .i64 aC, .int .i64 aT, .int .i64 aU, .int .i64 aS, .int .i64 aK, .int .i64 aL, .int .i64 aQ, .string aY, .string aV, .int .i64 aZ, .slice aA an ac, .int .i64 aE, .int .i64 aG, .int .i64 aW])) rfl rfl (by kernel_rfl) (by kernel_rfl) (by kernel_rfl) (fun _ _ _ h => h) (by kernel_rfl) (run_load_blk 32 (.tmp 2) rfl w.heap.size 32 #[.int .i64 aM, .int .i64 aR, .int .i64 aN, .int .i64 aB, .int .i64 aC, .int .i64 aT, .int .i64 aU, .int .i64 aS, .int .i64 aK, .int .i64 aL, .int .i64 aQ, .string aY, .string aV, .int .i64 aZ, .slice aA an ac, .int .i64 aE, .int .i64 aG, .int .i64 aW] _ rfl (fun _ h => h.1) Tryz.underlying32 rfl (by kernel_rfl)) hHeld ?_
      try simp only [List.setIfInBounds_toArray, List.set_cons_zero, List.set_cons_succ]
      refine held_take (i := 14) (d := 39) (v := (.agg #[.int .i64 bM, .int .i64 bR, .int .i64 bN, .int .i64 bB, .int .i64 bC, .int .i64 bT, .int .i64 bU, .int .i64 bS, .int .i64 bK, .int .i64 bL, .int .i64 bQ, .string bY, .string bV, .int .i64 bZ, .slice bA bn bc, .int .i64 bE, .int .i64 bG, .int .i64 bW])) rfl rfl (by kernel_rfl) (by kernel_rfl) (by kernel_rfl) (fun _ _ _ h => h) (by kernel_rfl) (run_load_blk 32 (.tmp 3) rfl (w.heap.size + 1) 32 #[.int .i64 bM, .int .i64 bR, .int .i64 bN, .int .i64 bB, .int .i64 bC, .int .i64 bT, .int .i64 bU, .int .i64 bS, .int .i64 bK, .int .i64 bL, .int .i64 bQ, .string bY, .string bV, .int .i64 bZ, .slice bA bn bc, .int .i64 bE, .int .i64 bG, .int .i64 bW] _ rfl (fun _ h => h.2) Tryz.underlying32 rfl (by kernel_rfl)) hHeld ?_
      try simp only [List.setIfInBounds_toArray, List.set_cons_zero, List.set_cons_succ]
      refine wpAnyH_ready (rs := [12]) (by kernel_rfl) (by simp) ?_
      refine AllReadyH.cons rfl (fun K hK => ?_) AllReadyH.nil
      go_simp
      go_at_call 10
      refine (HSM.out _ (HRa.out.below HC.out) (HRb.out.below HC.out)).mono ?_
      rintro e uy ⟨rfl, hb1⟩
      replace HC := Lib.hid (bel_trans HC.out hb1)
      clear hb1
      refine hK.out _ _ (by with_reducible exact ⟨HKa.out.bel HC.out, HKb.out.bel HC.out⟩) (fun hHeld => ?_)
      clear hK K
      refine wpAnyH_ready (rs := [15]) (by kernel_rfl) (by simp) ?_
      refine AllReadyH.cons rfl (fun K hK => ?_) AllReadyH.nil
      go_simp
      go_at_call 11
      refine (HSR.out _ (HRa.out.below HC.out) (HRb.out.below HC.out)).mono ?_
      rintro e uy ⟨rfl, hb1⟩
      replace HC := Lib.hid (bel_trans HC.out hb1)
      clear hb1
      refine hK.out _ _ (by with_reducible exact ⟨HKa.out.bel HC.out, HKb.out.bel HC.out⟩) (fun hHeld => ?_)
      clear hK K
      refine held_take (i := 16) (d := 41) (v := (.bool false)) rfl rfl (by kernel_rfl) (by kernel_rfl) (by kernel_rfl) (fun _ _ _ h => h) (by kernel_rfl) (fun w hSw => by (have q0 : (t != t) = false := by (cases t <;> rfl)); go_simp) hHeld ?_
      try simp only [List.setIfInBounds_toArray, List.set_cons_zero, List.set_cons_succ]
      refine held_take (i := 17) (d := 42) (v := (.bool false)) rfl rfl (by kernel_rfl) (by kernel_rfl) (by kernel_rfl) (fun _ _ _ h => h) (by kernel_rfl) (fun w hSw => by (obtain hS := hSw); go_simp) hHeld ?_
      try simp only [List.setIfInBounds_toArray, List.set_cons_zero, List.set_cons_succ]
      refine wpAnyH_done (by kernel_rfl) ?_ _
      skip
      have HWC := Lib.hid (HBW.out.trans (HC.out.mono HBW.out.size))
      have hr1 := HR1.out.below HC.out
      cases ra with
      | false =>
        obtain rfl : (4 : Int) = ea := HEA.out
        simp only [Bool.false_eq_true, if_false] at hr1
        obtain rfl : 0 = n1 := hr1.len
        clear hr1
        replace HC := HWC
        go_wp2_with fail
        refine (HAW.out _ HC.out).mono ?_
        rintro e uz ⟨rfl, hb1⟩
        replace HC := Lib.hid (bel_trans HC.out hb1)
        clear hb1
        go_wp2_with fail
        go_ret
        exact ⟨rfl, HB.out.trans (HC.out.mono HB.out.size)⟩
      | true =>
        obtain rfl : (0 : Int) = ea := HEA.out
        simp only [if_true] at hr1
        have hfx := (HF1.out (by first | rfl | trivial)).1
        have htb := HTB.out (by first | rfl | trivial) hfx
        obtain ⟨l6, l7, hlt⟩ := HLEN.out (by first | rfl | trivial) hfx
        have hn1 : n1 = 5 + (form X).length := by
         have h := hr1.len
         rw [length_cs, length_frame] at h
         exact h.symm
        have hgl := HGL.out _ HWC.out
        have htk := mtake_any (frame 2 (form X)) A1 n1 c1 _ hgl.2 hgl.1 hr1 (frame_lt 2 (by decide) hlt) (by omega)
        rw [own_ref, htb] at htk
        have HTK := Lib.hid htk
        have HR2 := Lib.hid hr1
        have hfl : (form X).length ≤ 1000000 := by omega
        have HFL := Lib.hid hfl
        have HN1 := Lib.hid hn1
        clear htk hr1 hfx htb l6 l7 hlt hn1 hgl hfl
        go_wp2_with fail
        refine HTK.out.mono ?_
        rintro e u5 ⟨V, k9, c9, rfl, hrs, hb1⟩
        simp only
        have hc6 := bel_alloc (bel_trans HC.out hb1) (.cells #[.int .i64 aM, .int .i64 aR, .int .i64 aN, .int .i64 aB, .int .i64 aC, .int .i64 aT, .int .i64 aU, .int .i64 aS, .int .i64 aK, .int .i64 aL, .int .i64 aQ, .string aY, .string aV, .int .i64 aZ, .slice V k9 c9, .int .i64 aE, .int .i64 aG, .int .i64 aW] 32)
        have hkm := Blk.new u5 32 #[.int .i64 aM, .int .i64 aR, .int .i64 aN, .int .i64 aB, .int .i64 aC, .int .i64 aT, .int .i64 aU, .int .i64 aS, .int .i64 aK, .int .i64 aL, .int .i64 aQ, .string aY, .string aV, .int .i64 aZ, .slice V k9 c9, .int .i64 aE, .int .i64 aG, .int .i64 aW]
        have hrm := (show Rs u5 V k9 c9 al from hrs).alloc (.cells #[.int .i64 aM, .int .i64 aR, .int .i64 aN, .int .i64 aB, .int .i64 aC, .int .i64 aT, .int .i64 aU, .int .i64 aS, .int .i64 aK, .int .i64 aL, .int .i64 aQ, .string aY, .string aV, .int .i64 aZ, .slice V k9 c9, .int .i64 aE, .int .i64 aG, .int .i64 aW] 32)
        have hr6 := (HR2.out.below hb1).alloc (.cells #[.int .i64 aM, .int .i64 aR, .int .i64 aN, .int .i64 aB, .int .i64 aC, .int .i64 aT, .int .i64 aU, .int .i64 aS, .int .i64 aK, .int .i64 aL, .int .i64 aQ, .string aY, .string aV, .int .i64 aZ, .slice V k9 c9, .int .i64 aE, .int .i64 aG, .int .i64 aW] 32)
        obtain ⟨gm, hgm⟩ : ∃ g, u5.heap.size = g := ⟨_, rfl⟩
        obtain ⟨M, hM⟩ : ∃ v, u5.alloc (.cells #[.int .i64 aM, .int .i64 aR, .int .i64 aN, .int .i64 aB, .int .i64 aC, .int .i64 aT, .int .i64 aU, .int .i64 aS, .int .i64 aK, .int .i64 aL, .int .i64 aQ, .string aY, .string aV, .int .i64 aZ, .slice V k9 c9, .int .i64 aE, .int .i64 aG, .int .i64 aW] 32) = v := ⟨_, rfl⟩
        rw [hM] at hc6 hkm hrm hr6
        rw [hgm] at hkm
        have HMM := Lib.hid hM
        have HGM := Lib.hid hgm
        replace HKa := Lib.hid (HKa.out.bel hc6)
        have HKm := Lib.hid hkm
        replace HRa := Lib.hid (HRa.out.below hc6)
        have HRm := Lib.hid hrm
        have HR6 := Lib.hid hr6
        have HWM := Lib.hid (HBW.out.trans (hc6.mono HBW.out.size))
        clear hc6 hkm hrm hr6 hM hgm hrs hb1 HTK HR2 HC HKb HRb
        have HC := Lib.hid (Below.refl M.heap.size M)
        go_upto_region 12 with fail
        rw [HMM.out, HGM.out]
        go_wp2_with (first | ((with_reducible refine wpList_load_blk_w 32 _ rfl w.heap.size 32 #[.int .i64 aM, .int .i64 aR, .int .i64 aN, .int .i64 aB, .int .i64 aC, .int .i64 aT, .int .i64 aU, .int .i64 aS, .int .i64 aK, .int .i64 aL, .int .i64 aQ, .string aY, .string aV, .int .i64 aZ, .slice aA an ac, .int .i64 aE, .int .i64 aG, .int .i64 aW] _ ?_ ?_ (HKa.out.bel HC.out) Tryz.underlying32 ?_ ?_ ?_); (focus rfl); (focus kernel_rfl); (focus rfl); (focus kernel_rfl)) | ((with_reducible refine wpList_load_blk_w 32 _ rfl gm 32 #[.int .i64 aM, .int .i64 aR, .int .i64 aN, .int .i64 aB, .int .i64 aC, .int .i64 aT, .int .i64 aU, .int .i64 aS, .int .i64 aK, .int .i64 aL, .int .i64 aQ, .string aY, .string aV, .int .i64 aZ, .slice V k9 c9, .int .i64 aE, .int .i64 aG, .int .i64 aW] _ ?_ ?_ (HKm.out.bel HC.out) Tryz.underlying32 ?_ ?_ ?_); (focus rfl); (focus kernel_rfl); (focus rfl); (focus kernel_rfl)))
        refine (HIT.out _ (HWM.out.trans (HC.out.mono HWM.out.size)) (by first | rfl | trivial)).mono ?_
        rintro e u6 ⟨D, d, rfl, hl, hb1⟩
        replace HC := Lib.hid (bel_trans HC.out hb1)
        have HFR := Lib.hid (refframe_any 2 X D d _ u6 (by decide) HCX.out HFL.out hl (fun b hb => hb.2))
        clear hb1 hl
        go_wp2_with fail
        refine HFR.out.mono ?_
        rintro e u7 ⟨A5, c5, rfl, hr5, hb1⟩
        replace HC := Lib.hid (bel_trans HC.out hb1)
        have HQ := Lib.hid (Cp.same_tells A1 A5 n1 _ c1 c5 _ _ true _ (HR6.out.below HC.out) hr5 (by simp))
        clear hb1 hr5 HFR
        go_wp2_with fail
        refine HQ.out.mono ?_
        rintro e u8 ⟨rfl, hb1⟩
        replace HC := Lib.hid (bel_trans HC.out hb1)
        clear hb1 HQ
        go_wp2_with (first | ((with_reducible refine wpList_load_blk_w 32 _ rfl w.heap.size 32 #[.int .i64 aM, .int .i64 aR, .int .i64 aN, .int .i64 aB, .int .i64 aC, .int .i64 aT, .int .i64 aU, .int .i64 aS, .int .i64 aK, .int .i64 aL, .int .i64 aQ, .string aY, .string aV, .int .i64 aZ, .slice aA an ac, .int .i64 aE, .int .i64 aG, .int .i64 aW] _ ?_ ?_ (HKa.out.bel HC.out) Tryz.underlying32 ?_ ?_ ?_); (focus rfl); (focus kernel_rfl); (focus rfl); (focus kernel_rfl)) | ((with_reducible refine wpList_load_blk_w 32 _ rfl gm 32 #[.int .i64 aM, .int .i64 aR, .int .i64 aN, .int .i64 aB, .int .i64 aC, .int .i64 aT, .int .i64 aU, .int .i64 aS, .int .i64 aK, .int .i64 aL, .int .i64 aQ, .string aY, .string aV, .int .i64 aZ, .slice V k9 c9, .int .i64 aE, .int .i64 aG, .int .i64 aW] _ ?_ ?_ (HKm.out.bel HC.out) Tryz.underlying32 ?_ ?_ ?_); (focus rfl); (focus kernel_rfl); (focus rfl); (focus kernel_rfl)))
        refine (HSS.out V k9 c9 _ (HRm.out.below HC.out) (HRa.out.below HC.out)).mono ?_
        rintro e u9 ⟨rfl, hb1⟩
        replace HC := Lib.hid (bel_trans HC.out hb1)
        clear hb1
        go_wp2_with fail
        refine (HAW.out _ (HWM.out.trans (HC.out.mono HWM.out.size))).mono ?_
        rintro e uz ⟨rfl, hb1⟩
        replace HC := Lib.hid (bel_trans HC.out hb1)
        clear hb1
        go_wp2_with fail
        go_ret
        exact ⟨rfl, HB.out.trans ((HWM.out.trans (HC.out.mono HWM.out.size)).mono HB.out.size)⟩
   | true =>
     go_wp2_with fail
     refine (HAW.out _ HC.out).mono ?_
     rintro e uz ⟨rfl, hb1⟩
     replace HC := Lib.hid (bel_trans HC.out hb1)
     clear hb1
     go_wp2_with fail
     go_ret
     exact ⟨rfl, HB.out.trans (HC.out.mono HB.out.size)⟩
 | true =>
   go_wp2_with fail
   refine (HAW.out _ HC.out).mono ?_
   rintro e uz ⟨rfl, hb1⟩
   replace HC := Lib.hid (bel_trans HC.out hb1)
   clear hb1
   go_wp2_with fail
   go_ret
   exact ⟨rfl, HB.out.trans (HC.out.mono HB.out.size)⟩
end Go.Proofs.YtjfpfbagckckkaaGreatDoor.Mg
