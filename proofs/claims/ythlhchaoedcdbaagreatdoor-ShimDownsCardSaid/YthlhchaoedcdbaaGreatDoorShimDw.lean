/-
  Texts of earlier layers, as one.
-/
import Derived.Test.YthlhchaoedcdbaaGreatDoorShimHv
import Derived.Test.YthlhchaoedcdbaaGreatDoorShimSt
import Derived.Test.YthlhchaoedcdbaaGreatDoorRAtt
import Derived.Test.YthlhchaoedcdbaaGreatDoorMsgFO
import Derived.Test.YthlhchaoedcdbaaGreatDoorMsgCP
import Derived.Test.YthlhchaoedcdbaaGreatDoorRBase
import Derived.Deep.RegionHeld
import Derived.Deep.Cut
/- The program's Down: the old form of a message, made out of its new one. -/
namespace Go.Proofs.YthlhchaoedcdbaaGreatDoor.Mg
open Go.RowKit Mem Ids Att Rk Cod
set_option maxRecDepth 100000 in
set_option maxHeartbeats 8000000 in
theorem has_down : HasDown := by
 intro aM aR aN aB aC aT aU aS aK aL aQ aY aV aZ aA an ac aE aG aW al w hT ha
 obtain ⟨k1, hbb⟩ := box1 w 32 #[.int .i64 aM, .int .i64 aR, .int .i64 aN, .int .i64 aB, .int .i64 aC, .int .i64 aT, .int .i64 aU, .int .i64 aS, .int .i64 aK, .int .i64 aL, .int .i64 aQ, .string aY, .string aV, .int .i64 aZ, .slice aA an ac, .int .i64 aE, .int .i64 aG, .int .i64 aW]
 obtain ⟨W, hW⟩ : ∃ v, w.alloc (.cells #[.int .i64 aM, .int .i64 aR, .int .i64 aN, .int .i64 aB, .int .i64 aC, .int .i64 aT, .int .i64 aU, .int .i64 aS, .int .i64 aK, .int .i64 aL, .int .i64 aQ, .string aY, .string aV, .int .i64 aZ, .slice aA an ac, .int .i64 aE, .int .i64 aG, .int .i64 aW] 32) = v := ⟨_, rfl⟩
 rw [hW] at k1 hbb
 have HKa := Lib.hid k1
 have HB := Lib.hid hbb
 have HW := Lib.hid hW
 have HC := Lib.hid (Below.refl W.heap.size W)
 have HRa := Lib.hid (ha.below hbb)
 have HG := Lib.hid (hT.below hbb)
 clear hbb hW k1 ha hT
 have h1 := fun w h hn => mcheck_any aM aR aN aB aC aT aU aS aK aL aQ aY aV aZ aA an ac aE aG aW al w h hn
 have h2 := fun w h hn ht => mput_any aM aR aN aB aC aT aU aS aK aL aQ aY aV aZ aA an ac aE aG aW al w h hn ht
 have h3 := fun w h => attold_any al aE aG aA an ac w h
 have h4 := fun w => onlynew_any aM aR aN aB aC aT aU aS aK aL aQ aY aV aZ aA an ac aE aG aW al w
 have hno := down_no (m := ⟨aM, (aR, aN), (aB, aC), (aT, aU), aS, ⟨aK, aL, aQ, aY, aV, aZ⟩, ⟨al, aE, aG⟩, aW⟩)
 have hnn := down_none (m := ⟨aM, (aR, aN), (aB, aC), (aT, aU), aS, ⟨aK, aL, aQ, aY, aV, aZ⟩, ⟨al, aE, aG⟩, aW⟩)
 have hyes := down_yes (m := ⟨aM, (aR, aN), (aB, aC), (aT, aU), aS, ⟨aK, aL, aQ, aY, aV, aZ⟩, ⟨al, aE, aG⟩, aW⟩)
 have hsw := down_swap (m := ⟨aM, (aR, aN), (aB, aC), (aT, aU), aS, ⟨aK, aL, aQ, aY, aV, aZ⟩, ⟨al, aE, aG⟩, aW⟩)
 have hwx : mright ⟨aM, (aR, aN), (aB, aC), (aT, aU), aS, ⟨aK, aL, aQ, aY, aV, aZ⟩, ⟨al, aE, aG⟩, aW⟩ = true → Fit (mgIt ⟨aM, (aR, aN), (aB, aC), (aT, aU), aS, ⟨aK, aL, aQ, aY, aV, aZ⟩, ⟨al, aE, aG⟩, aW⟩) → (form (mgIt ⟨aM, (aR, aN), (aB, aC), (aT, aU), aS, ⟨aK, aL, aQ, aY, aV, aZ⟩, ⟨al, aE, aG⟩, aW⟩)).length ≤ 900000 := fun h hfx => by
  have h1 := length_form_le (mgIt ⟨aM, (aR, aN), (aB, aC), (aT, aU), aS, ⟨aK, aL, aQ, aY, aV, aZ⟩, ⟨al, aE, aG⟩, aW⟩) hfx
  have h2 := wt_mg h
  omega
 have hwy : mright ⟨aM, (aR, aN), (aB, aC), (aT, aU), aS, ⟨aK, aL, aQ, aY, aV, aZ⟩, ⟨al, aE, aG⟩, aW⟩ = true → Fit (oldMg ⟨aM, (aR, aN), (aB, aC), (aT, aU), aS, ⟨aK, aL, aQ, aY, aV, aZ⟩, ⟨al, aE, aG⟩, aW⟩) → (form (oldMg ⟨aM, (aR, aN), (aB, aC), (aT, aU), aS, ⟨aK, aL, aQ, aY, aV, aZ⟩, ⟨al, aE, aG⟩, aW⟩)).length ≤ 900000 := fun h hfx => by
  have h1 := length_form_le (oldMg ⟨aM, (aR, aN), (aB, aC), (aT, aU), aS, ⟨aK, aL, aQ, aY, aV, aZ⟩, ⟨al, aE, aG⟩, aW⟩) hfx
  have h2 := wt_old h
  omega
 have hcx := chk_mg ⟨aM, (aR, aN), (aB, aC), (aT, aU), aS, ⟨aK, aL, aQ, aY, aV, aZ⟩, ⟨al, aE, aG⟩, aW⟩
 have hck := chk_old ⟨aM, (aR, aN), (aB, aC), (aT, aU), aS, ⟨aK, aL, aQ, aY, aV, aZ⟩, ⟨al, aE, aG⟩, aW⟩
 obtain ⟨x, hX⟩ : ∃ x, mgIt ⟨aM, (aR, aN), (aB, aC), (aT, aU), aS, ⟨aK, aL, aQ, aY, aV, aZ⟩, ⟨al, aE, aG⟩, aW⟩ = x := ⟨_, rfl⟩
 obtain ⟨y, hY⟩ : ∃ y, oldMg ⟨aM, (aR, aN), (aB, aC), (aT, aU), aS, ⟨aK, aL, aQ, aY, aV, aZ⟩, ⟨al, aE, aG⟩, aW⟩ = y := ⟨_, rfl⟩
 unfold DownIs
 unfold PutsMg mchk at h2
 unfold mchk at h1
 unfold GivesOld at h3
 rw [hX] at h2 hsw hwx hcx
 rw [hY] at hyes hsw hwy hck ⊢
 clear hX hY
 obtain ⟨DD, hD⟩ : ∃ DD, refDown ⟨aM, (aR, aN), (aB, aC), (aT, aU), aS, ⟨aK, aL, aQ, aY, aV, aZ⟩, ⟨al, aE, aG⟩, aW⟩ = DD := ⟨_, rfl⟩
 rw [hD] at hno hnn hyes ⊢
 clear hD
 simp only at hsw
 generalize Att.attOld ⟨al, aE, aG⟩ = r at h3 hsw
 obtain ⟨z, ze⟩ := r
 simp only at h3 hsw
 generalize mright ⟨aM, (aR, aN), (aB, aC), (aT, aU), aS, ⟨aK, aL, aQ, aY, aV, aZ⟩, ⟨al, aE, aG⟩, aW⟩ = t at h1 h2 hno hnn hyes hsw hwx hwy
 generalize noOld ⟨aM, (aR, aN), (aB, aC), (aT, aU), aS, ⟨aK, aL, aQ, aY, aV, aZ⟩, ⟨al, aE, aG⟩, aW⟩ = s at h4 hnn hyes hsw
 have H1 := Lib.hid h1
 have H2 := Lib.hid h2
 have H3 := Lib.hid h3
 have H4 := Lib.hid h4
 have HNO := Lib.hid hno
 have HNN := Lib.hid hnn
 have HYE := Lib.hid hyes
 have HSW := Lib.hid hsw
 have HWX := Lib.hid hwx
 have HWY := Lib.hid hwy
 have HCX := Lib.hid hcx
 have HCK := Lib.hid hck
 clear h1 h2 h3 h4 hno hnn hyes hsw hwx hwy hcx hck
 go_enter Tryz.func7, Tryz.ntmps7
 go_upto_region 1 with fail
 rw [HW.out]
 go_wp2_with (with_reducible refine wpList_load_blk_w 32 _ rfl w.heap.size 32 _ _ ?_ ?_ (HKa.out.bel HC.out) Tryz.underlying32 ?_ ?_ ?_; (focus kernel_rfl); (focus kernel_rfl); (focus rfl); (focus kernel_rfl))
 refine (H1.out _ (HRa.out.below HC.out) (HG.out.2.below HC.out)).mono ?_
 rintro e u1 ⟨rfl, hb1⟩
 replace HC := Lib.hid (bel_trans HC.out hb1)
 clear hb1
 cases t with
 | false =>
   simp only [Bool.false_eq_true, if_false]
   go_wp2_with fail
   refine bodyPost_ret (v := .tuple #[.slice none 0 0, .int .i64 4]) (by simp [results, Tryz.results7, go_sem]) rfl ?_
   rw [HNO.out (by first | rfl | trivial)]
   exact ⟨none, 0, 0, rfl, Rd.nil_ _, HB.out.trans (HC.out.mono HB.out.size), fun h => by cases h⟩
 | true =>
   simp only [if_true]
   go_wp2_with (with_reducible refine wpList_load_blk_w 32 _ rfl w.heap.size 32 _ _ ?_ ?_ (HKa.out.bel HC.out) Tryz.underlying32 ?_ ?_ ?_; (focus kernel_rfl); (focus kernel_rfl); (focus rfl); (focus kernel_rfl))
   refine (H4.out _).mono ?_
   rintro e u2 ⟨rfl, hb1⟩
   replace HC := Lib.hid (bel_trans HC.out hb1)
   clear hb1
   cases s with
   | true =>
     go_wp2_with fail
     refine bodyPost_ret (v := .tuple #[.slice none 0 0, .int .i64 17]) (by simp [results, Tryz.results7, go_sem]) rfl ?_
     rw [HNN.out (by first | rfl | trivial) (by first | rfl | trivial)]
     exact ⟨none, 0, 0, rfl, Rd.nil_ _, HB.out.trans (HC.out.mono HB.out.size), fun h => by cases h⟩
   | false =>
     have HYES := Lib.hid (HYE.out (by first | rfl | trivial) (by first | rfl | trivial))
     have hSW := HSW.out (by first | rfl | trivial) (by first | rfl | trivial)
     clear HYE HSW HNN HNO
     go_wp2_with (with_reducible refine wpList_load_blk_w 32 _ rfl w.heap.size 32 _ _ ?_ ?_ (HKa.out.bel HC.out) Tryz.underlying32 ?_ ?_ ?_; (focus kernel_rfl); (focus kernel_rfl); (focus rfl); (focus kernel_rfl))
     refine (H2.out _ (HRa.out.below HC.out) (HG.out.2.below HC.out) (HG.out.1.below HC.out)).mono ?_
     rintro e u3 ⟨A, an3, c, rfl, hr3, hb1, how⟩
     simp only [if_true] at hr3 ⊢
     have hfx : Fit x := (how (by first | rfl | trivial)).1
     clear how
     replace HC := Lib.hid (bel_trans HC.out hb1)
     have hl3 := hr3.len
     rw [length_cs, length_frame] at hl3
     have hwl := HWX.out (by first | rfl | trivial) hfx
     have hop := ownopen_whole 2 (frame 2 (form x)) A an3 c u3 (by decide) (HG.out.1.below HC.out) hr3 (frame_lt' 2 (by decide) (Cp.form_bytes _ hfx)) (by omega)
     rw [open_item 2 HCX.out hfx (by omega)] at hop
     have HOP := Lib.hid hop
     clear hb1 hop hr3 hl3 hwl HWX HCX hfx
     go_wp2_with fail
     refine HOP.out.mono ?_
     rintro e u4 ⟨D, d, rfl, hwx, hb4⟩
     simp only at hwx ⊢
     obtain ⟨n, hn⟩ : ∃ n, x.kids.length = n := ⟨_, rfl⟩
     have hxb := hwx.lies.bounds
     rw [hn] at hxb ⊢
     have hkx := Blk.new u4 57 #[.int .i64 x.kind, .int .u64 (x.num : Int), .string x.str, .slice D n d]
     have hbu := bel_alloc (bel_trans HC.out hb4) (.cells #[.int .i64 x.kind, .int .u64 (x.num : Int), .string x.str, .slice D n d] 57)
     have hwu := hwx.alloc (.cells #[.int .i64 x.kind, .int .u64 (x.num : Int), .string x.str, .slice D n d] 57)
     obtain ⟨G, hG⟩ : ∃ G, u4.heap.size = G := ⟨_, rfl⟩
     obtain ⟨U, hU⟩ : ∃ U, u4.alloc (.cells #[.int .i64 x.kind, .int .u64 (x.num : Int), .string x.str, .slice D n d] 57) = U := ⟨_, rfl⟩
     rw [hU] at hbu hwu hkx
     rw [hG] at hkx
     have hGs : u3.heap.size ≤ G := by have := hb4.size; omega
     have hGB : W.heap.size ≤ u3.heap.size := HC.out.size
     have hadr : ∀ h : 0 < n, ∃ g, D = some ⟨g, 0, none⟩ ∧ u3.heap.size ≤ g ∧ g < G := fun h => by
      obtain ⟨g, e1, e2, e3⟩ := Whole.addr hwx (by omega)
      exact ⟨g, e1, e2, by omega⟩
     have HKX := Lib.hid hkx
     have HWU := Lib.hid hwu
     have HBU := Lib.hid hbu
     have HGE := Lib.hid hG
     have HU := Lib.hid hU
     have HXN := Lib.hid hn
     have HXB := Lib.hid hxb
     have HAD := Lib.hid hadr
     have HGS := Lib.hid hGs
     have HGB := Lib.hid hGB
     clear hkx hwu hbu hG hU hn hxb hb4 hwx hadr hGs hGB
     go_upto_region 9 with fail
     rw [HU.out, HGE.out]
     have hpl := place_any x D d (fun b => b < U.heap.size) U (HG.out.3.below HBU.out) (HWU.out.lies.more fun b _ h => h) (fun b h => h)
     rw [HXN.out] at hpl
     obtain ⟨p, hp⟩ : ∃ p, placeOf x = p := ⟨_, rfl⟩
     rw [hp] at hpl
     have HPL := Lib.hid hpl
     have hlt := place_lt (x := x)
     have HU0 := Lib.hid (show swapIt x z = y from hSW)
     unfold swapIt at hSW
     rw [hp] at hSW hlt
     rw [HXN.out] at hlt
     have HSP := Lib.hid hSW
     have HLT := Lib.hid hlt
     clear hpl hp hlt hSW HU0
     obtain ⟨x0, x1, x2, x3⟩ := blk4 HKX.out
     go_wp2_with fail
     refine HPL.out.mono ?_
     rintro e u6 ⟨rfl, hb6⟩
     clear x0 x1 x2 x3
     have HC6 := Lib.hid hb6
     clear hb6
     by_cases hp0 : p = 0
     · have hxy := HSP.out
       rw [if_neg (by omega)] at hxy
       subst hp0
       subst hxy
       have hlx := (HWU.out.below HC6.out).lies.more (S' := fun b => b < u6.heap.size) fun b _ h => h
       have hfr := ownframe_any 1 x D d _ u6 (by decide) (HG.out.1.below (bel_trans HBU.out HC6.out)) (by have := HWY.out (by first | rfl | trivial) hlx.fit; omega) hlx (fun b h => h)
       rw [HXN.out] at hfr
       have HF := Lib.hid hfr
       have HFY := Lib.hid hlx.fit
       have HKV := Lib.hid (HKX.out.bel HC6.out)
       have HCW := Lib.hid (bel_trans HBU.out HC6.out)
       clear hlx hfr
       obtain ⟨c0, c1, c2, c3⟩ := blk4 HKV.out
       go_wp2_with fail
       refine HF.out.mono ?_
       rintro e u9 ⟨A9, n9, c9, rfl, hr9, hb9, _⟩
       rw [HCK.out] at hr9 ⊢
       rw [if_pos rfl] at hr9
       have HR9 := Lib.hid hr9
       have HB9 := Lib.hid (HB.out.trans ((bel_trans HCW.out hb9).mono HB.out.size))
       clear hr9 hb9 c0 c1 c2 c3
       go_wp2_with fail
       refine bodyPost_ret (v := .tuple #[.slice A9 n9 c9, .int .i64 0]) (by simp [results, Tryz.results7, go_sem]) rfl ?_
       rw [HYES.out]
       exact ⟨A9, n9, c9, rfl, HR9.out, HB9.out, fun _ => HFY.out⟩
     · have hp1 : 0 < p := by omega
       have hxy := HSP.out
       rw [if_pos hp1] at hxy
       have hpn : p < n := HLT.out hp1
       obtain ⟨g, hD, hg1, hg2⟩ := HAD.out (by omega)
       subst hD
       have b1 : decide ((0 : Int) < (p : Int)) = true := decide_eq_true (by omega)
       have HPN := Lib.hid (show p < x.kids.length by rw [HXN.out]; exact hpn)
       have HXY := Lib.hid hxy
       have HGG := Lib.hid hg2
       have HGK := Lib.hid (show W.heap.size ≤ g by have := HGB.out; omega)
       have HGM := Lib.hid (show w.heap.size < g by have := HKa.out.lt; have := HGB.out; omega)
       have HWX := Lib.hid (HWU.out.below HC6.out)
       have HKU := Lib.hid (HKX.out.bel HC6.out)
       have HKM := Lib.hid (HKa.out.bel (bel_trans HBU.out HC6.out))
       have HRU := Lib.hid (HRa.out.below (bel_trans HBU.out HC6.out))
       have HCU := Lib.hid (Below.drew (Below.refl u6.heap.size u6))
       have HCUV := Lib.hid (show u3.heap.size ≤ u6.heap.size ∧ g < u6.heap.size by have := HKU.out.lt; have := HGS.out; omega)
       have HNI := Lib.hid hpn
       clear hxy hg1 hg2 hp0
       go_upto_region 11 with fail
       have b2 : decide ((n : Int) ≤ (p : Int)) = false := decide_eq_false (by omega)
       have b3 : ¬ n ≤ p := by omega
       refine wp_region_held_drew (S := (fun w' => Blk w' G 57 #[.int .i64 x.kind, .int .u64 (x.num : Int), .string x.str, .slice (some ⟨g, 0, none⟩) n d] ∧ Blk w' w.heap.size 32 #[.int .i64 aM, .int .i64 aR, .int .i64 aN, .int .i64 aB, .int .i64 aC, .int .i64 aT, .int .i64 aU, .int .i64 aS, .int .i64 aK, .int .i64 aL, .int .i64 aQ, .string aY, .string aV, .int .i64 aZ, .slice aA an ac, .int .i64 aE, .int .i64 aG, .int .i64 aW])) (by kernel_rfl) (by first | (with_reducible exact HS3.out) | (with_reducible exact ⟨HKU.out.bel HCU.out, HKM.out.bel HCU.out⟩)) (fun hHeld => ?_)
       refine held_take (i := 0) (d := 34) (v := (.pointer (some ⟨G, 3, none⟩))) rfl rfl (by kernel_rfl) (by kernel_rfl) (by kernel_rfl) (fun _ _ _ h => h) (by kernel_rfl) (fun w hSw => by (obtain ⟨hS1, hS2⟩ := hSw); go_simp) hHeld ?_
       try simp only [List.setIfInBounds_toArray, List.set_cons_zero, List.set_cons_succ]
       refine held_take (i := 1) (d := 35) (v := (.slice (some ⟨g, 0, none⟩) n d)) rfl rfl (by kernel_rfl) (by kernel_rfl) (by kernel_rfl) (fun _ _ _ h => h) (by kernel_rfl) (fun w hSw => by obtain ⟨hS1, hS2⟩ := hSw; obtain ⟨c0, c1, c2, c3⟩ := blk4 hS1; clear hS1 hS2; go_simp) hHeld ?_
       try simp only [List.setIfInBounds_toArray, List.set_cons_zero, List.set_cons_succ]
       refine held_take (i := 2) (d := 36) (v := (.int .i64 (p : Int))) rfl rfl (by kernel_rfl) (by kernel_rfl) (by kernel_rfl) (fun _ _ _ h => h) (by kernel_rfl) (fun w hSw => by (obtain ⟨hS1, hS2⟩ := hSw); go_simp) hHeld ?_
       try simp only [List.setIfInBounds_toArray, List.set_cons_zero, List.set_cons_succ]
       refine held_take (i := 3) (d := 37) (v := (.pointer (some ⟨w.heap.size, 14, none⟩))) rfl rfl (by kernel_rfl) (by kernel_rfl) (by kernel_rfl) (fun _ _ _ h => h) (by kernel_rfl) (fun w hSw => by (obtain ⟨hS1, hS2⟩ := hSw); go_simp) hHeld ?_
       try simp only [List.setIfInBounds_toArray, List.set_cons_zero, List.set_cons_succ]
       refine held_take (i := 4) (d := 38) (v := (.agg #[.slice aA an ac, .int .i64 aE, .int .i64 aG])) rfl rfl (by kernel_rfl) (by kernel_rfl) (by kernel_rfl) (fun _ _ _ h => h) (by kernel_rfl) (fun w hSw => by obtain ⟨hS1, hS2⟩ := hSw; have m14 := hS2.cell 14; have m15 := hS2.cell 15; have m16 := hS2.cell 16; simp at m14 m15 m16; clear hS1 hS2; go_simp) hHeld ?_
       try simp only [List.setIfInBounds_toArray, List.set_cons_zero, List.set_cons_succ]
       refine wpAnyH_ready (rs := [5]) (by kernel_rfl) (by simp) ?_
       refine AllReadyH.cons rfl (fun K hK => ?_) AllReadyH.nil
       go_simp
       go_at_call 23
       refine (H3.out _ (HRU.out.below HCU.out)).mono ?_
       rintro e u7 ⟨Z, zc, rfl, hlz, hb7⟩
       have HLZ := Lib.hid hlz
       have HU7 := Lib.hid (HWX.out.below (bel_trans HCU.out hb7))
       have HB7 := Lib.hid hb7
       replace HCU := Lib.hid (bel_trans HCU.out hb7)
       clear hlz hb7
       refine hK.out _ _ (by first | (with_reducible exact HS3.out) | (with_reducible exact ⟨HKU.out.bel HCU.out, HKM.out.bel HCU.out⟩)) (fun hHeld => ?_)
       clear hK K
       refine held_take (i := 6) (d := 33) (v := (.tuple #[.agg #[.int .i64 z.kind, .int .u64 (z.num : Int), .string z.str, .slice Z z.kids.length zc], .int .i64 ze])) rfl rfl (by kernel_rfl) (by kernel_rfl) (by kernel_rfl) (fun _ _ _ h => h) (by kernel_rfl) (fun w hSw => by (obtain ⟨hS1, hS2⟩ := hSw); go_simp) hHeld ?_
       try simp only [List.setIfInBounds_toArray, List.set_cons_zero, List.set_cons_succ]
       refine held_take (i := 7) (d := 40) (v := (.agg #[.int .i64 z.kind, .int .u64 (z.num : Int), .string z.str, .slice Z z.kids.length zc])) rfl rfl (by kernel_rfl) (by kernel_rfl) (by kernel_rfl) (fun _ _ _ h => h) (by kernel_rfl) (fun w hSw => by (obtain ⟨hS1, hS2⟩ := hSw); go_simp) hHeld ?_
       try simp only [List.setIfInBounds_toArray, List.set_cons_zero, List.set_cons_succ]
       refine held_take (i := 8) (d := 41) (v := (.int .i64 ze)) rfl rfl (by kernel_rfl) (by kernel_rfl) (by kernel_rfl) (fun _ _ _ h => h) (by kernel_rfl) (fun w hSw => by (obtain ⟨hS1, hS2⟩ := hSw); go_simp) hHeld ?_
       try simp only [List.setIfInBounds_toArray, List.set_cons_zero, List.set_cons_succ]
       refine held_take (i := 9) (d := 42) (v := (.pointer (some ⟨g, p * 4, none⟩))) rfl rfl (by kernel_rfl) (by kernel_rfl) (by kernel_rfl) (fun _ _ _ h => h) (by kernel_rfl) (fun w hSw => by (obtain ⟨hS1, hS2⟩ := hSw); go_simp) hHeld ?_
       try simp only [List.setIfInBounds_toArray, List.set_cons_zero, List.set_cons_succ]
       refine wpAnyH_ready (rs := [10]) (by kernel_rfl) (by simp) ?_
       refine AllReadyH.cons rfl (fun K hK => ?_) AllReadyH.nil
       refine step_store_mid rfl 57 (.tmp 42) (.tmp 40) rfl g (p * 4) #[.int .i64 z.kind, .int .u64 (z.num : Int), .string z.str, .slice Z z.kids.length zc] (by rfl) (by rfl) (Whole.there HU7.out HPN.out) (by kernel_rfl) (by kernel_rfl) ?_
       intro w9 hw9
       have hset := Whole.set HU7.out HPN.out (HLZ.out.more fun b hb _ => by have h1 : u6.heap.size ≤ b := hb.1; have := HCUV.out; exact ⟨by omega, by omega⟩) hw9
       have HS3 := Lib.hid (And.intro ((HKU.out.bel HCU.out).grown hset.2 (fun e => by injection e with e; have := HGG.out; omega)) ((HKM.out.bel HCU.out).grown hset.2 (fun e => by injection e with e; have := HGM.out; omega)))
       have HSET := Lib.hid hset
       have HW9 := Lib.hid hw9
       clear hset hw9
       try simp only [Act.put]
       refine hK.out _ _ (by first | (with_reducible exact HS3.out) | (with_reducible exact ⟨HKU.out.bel HCU.out, HKM.out.bel HCU.out⟩)) (fun hHeld => ?_)
       clear hK K
       refine wpAnyH_done (by kernel_rfl) ?_ _
       have hlx := HSET.out.1.lies.more (S' := fun b => b < w9.heap.size) fun b _ h => h
       have hbw : Below W.heap.size W w9 := bel_grown (bel_trans HBU.out (bel_trans HC6.out HCU.out)) HSET.out.2 (fun k hk => by injection hk with hk; have := HGK.out; omega)
       have hfr := frame_set 1 x z p (some ⟨g, 0, none⟩) d _ w9 (by decide) (HG.out.1.below hbw) (by have := HWY.out (by first | rfl | trivial) (by rw [← HXY.out]; exact hlx.fit); rw [HXY.out]; omega) hlx (fun b h => h)
       rw [HXN.out, HXY.out] at hfr
       rw [HXY.out] at hlx
       have HF := Lib.hid hfr
       have HFY := Lib.hid hlx.fit
       have HKV := Lib.hid HS3.out.1
       have HCW := Lib.hid hbw
       clear hlx hfr hbw b1 b2 b3 hp1 hpn
       obtain ⟨c0, c1, c2, c3⟩ := blk4 HKV.out
       go_wp2_with fail
       refine HF.out.mono ?_
       rintro e u9 ⟨A9, n9, c9, rfl, hr9, hb9, _⟩
       rw [HCK.out] at hr9 ⊢
       rw [if_pos rfl] at hr9
       have HR9 := Lib.hid hr9
       have HB9 := Lib.hid (HB.out.trans ((bel_trans HCW.out hb9).mono HB.out.size))
       clear hr9 hb9 c0 c1 c2 c3
       go_wp2_with fail
       refine bodyPost_ret (v := .tuple #[.slice A9 n9 c9, .int .i64 0]) (by simp [results, Tryz.results7, go_sem]) rfl ?_
       rw [HYES.out]
       exact ⟨A9, n9, c9, rfl, HR9.out, HB9.out, fun _ => HFY.out⟩
end Go.Proofs.YthlhchaoedcdbaaGreatDoor.Mg
