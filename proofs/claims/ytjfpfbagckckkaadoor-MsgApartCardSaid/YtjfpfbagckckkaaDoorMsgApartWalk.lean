/-
  Texts of earlier layers, as one.
-/
import Derived.Test.YtjfpfbagckckkaaDoorMsgAw
import Derived.Test.YtjfpfbagckckkaaDoorMsgBS
import Derived.Test.YtjfpfbagckckkaaDoorMsgBase
import Derived.Test.YtjfpfbagckckkaaDoorRNum
import Derived.Deep.RegionHeld
import Derived.Deep.Cut
/- Two right messages have one form just if they are the same. -/
namespace Go.Proofs.YtjfpfbagckckkaaDoor.Mg
open Go.RowKit Mem Ids Att Rk Cod

theorem form_inj {x y : It} (hx : chk x 0 = 0) (hy : chk y 0 = 0) (fx : Fit x) (fy : Fit y) (lx : (form x).length ≤ 1048576) (ly : (form y).length ≤ 1048576) (h : form x = form y) : x = y := by
  have h1 := get_form hx fx lx
  have h2 := get_form hy fy ly
  rw [h, h2] at h1
  injection h1 with h1 _
  exact h1.symm
theorem frame_inj {v : Nat} {p q : List Nat} (h : frame v p = frame v q) : p = q := by
  have : (frame v p).drop 5 = (frame v q).drop 5 := by rw [h]
  exact this
theorem apart {a b : Mg} (ha : mright a = true) (hb : mright b = true) (fa : Fit (mgIt a)) (fb : Fit (mgIt b)) : decide (frame 2 (form (mgIt a)) = frame 2 (form (mgIt b))) = msame a b := by
  have l1 := length_form_le (mgIt a) fa
  have l2 := length_form_le (mgIt b) fb
  have w1 := wt_mg ha
  have w2 := wt_mg hb
  rw [Bool.eq_iff_iff, decide_eq_true_eq, msame_iff]
  constructor
  · intro h
    exact mgIt_inj ha hb (form_inj (chk_mg a) (chk_mg b) fa fb (by omega) (by omega) (frame_inj h))
  · rintro rfl
    rfl
set_option maxRecDepth 100000 in
set_option maxHeartbeats 8000000 in
theorem msgapart_true (aM aR aN aB aC aT aU aS aK aL aQ : Int) (aY aV : ByteArray) (aZ : Int) (aA : Option Addr) (an ac : Nat) (aE aG aW : Int) (al : List (Int × Int)) (bM bR bN bB bC bT bU bS bK bL bQ : Int) (bY bV : ByteArray) (bZ : Int) (bA : Option Addr) (bn bc : Nat) (bE bG bW : Int) (bl : List (Int × Int)) (w : World) (hT : Glob w) (ha : Rs w aA an ac al) (hb : Rs w bA bn bc bl) :
    Calls Tryd.prog 5 #[.agg #[.int .i64 aM, .int .i64 aR, .int .i64 aN, .int .i64 aB, .int .i64 aC, .int .i64 aT, .int .i64 aU, .int .i64 aS, .int .i64 aK, .int .i64 aL, .int .i64 aQ, .string aY, .string aV, .int .i64 aZ, .slice aA an ac, .int .i64 aE, .int .i64 aG, .int .i64 aW], .agg #[.int .i64 bM, .int .i64 bR, .int .i64 bN, .int .i64 bB, .int .i64 bC, .int .i64 bT, .int .i64 bU, .int .i64 bS, .int .i64 bK, .int .i64 bL, .int .i64 bQ, .string bY, .string bV, .int .i64 bZ, .slice bA bn bc, .int .i64 bE, .int .i64 bG, .int .i64 bW]] w (Tells true w) := by
  obtain ⟨k1, k2, hbb⟩ := two_boxes w 50 #[.int .i64 aM, .int .i64 aR, .int .i64 aN, .int .i64 aB, .int .i64 aC, .int .i64 aT, .int .i64 aU, .int .i64 aS, .int .i64 aK, .int .i64 aL, .int .i64 aQ, .string aY, .string aV, .int .i64 aZ, .slice aA an ac, .int .i64 aE, .int .i64 aG, .int .i64 aW] #[.int .i64 bM, .int .i64 bR, .int .i64 bN, .int .i64 bB, .int .i64 bC, .int .i64 bT, .int .i64 bU, .int .i64 bS, .int .i64 bK, .int .i64 bL, .int .i64 bQ, .string bY, .string bV, .int .i64 bZ, .slice bA bn bc, .int .i64 bE, .int .i64 bG, .int .i64 bW]
  obtain ⟨W, hW⟩ : ∃ v, (w.alloc (.cells #[.int .i64 aM, .int .i64 aR, .int .i64 aN, .int .i64 aB, .int .i64 aC, .int .i64 aT, .int .i64 aU, .int .i64 aS, .int .i64 aK, .int .i64 aL, .int .i64 aQ, .string aY, .string aV, .int .i64 aZ, .slice aA an ac, .int .i64 aE, .int .i64 aG, .int .i64 aW] 50)).alloc (.cells #[.int .i64 bM, .int .i64 bR, .int .i64 bN, .int .i64 bB, .int .i64 bC, .int .i64 bT, .int .i64 bU, .int .i64 bS, .int .i64 bK, .int .i64 bL, .int .i64 bQ, .string bY, .string bV, .int .i64 bZ, .slice bA bn bc, .int .i64 bE, .int .i64 bG, .int .i64 bW] 50) = v := ⟨_, rfl⟩
  rw [hW] at k1 k2 hbb
  have HKa := Lib.hid k1
  have HKb := Lib.hid k2
  have HB := Lib.hid hbb
  have HW := Lib.hid hW
  have HC := Lib.hid (Below.refl W.heap.size W)
  have HRa := Lib.hid (ha.below hbb)
  have HRb := Lib.hid (hb.below hbb)
  have hTW := hT.below hbb
  have HAW := Lib.hid (fun (w' : World) (h : Below W.heap.size W w') => awake_any w' (hTW.below h))
  have HG1 := Lib.hid (fun w h => great_any aM aR aN aB aC aT aU aS aK aL aQ aY aV aZ aA an ac aE aG aW al w h)
  have HG2 := Lib.hid (fun w h => great_any bM bR bN bB bC bT bU bS bK bL bQ bY bV bZ bA bn bc bE bG bW bl w h)
  have hpa := fun (w' : World) (h : Below W.heap.size W w') => mput_any aM aR aN aB aC aT aU aS aK aL aQ aY aV aZ aA an ac aE aG aW al w' ((ha.below hbb).below h) (hTW.2.below h) (hTW.1.below h)
  have hpb := fun (w' : World) (h : Below W.heap.size W w') => mput_any bM bR bN bB bC bT bU bS bK bL bQ bY bV bZ bA bn bc bE bG bW bl w' ((hb.below hbb).below h) (hTW.2.below h) (hTW.1.below h)
  have HSM := Lib.hid (fun w (h : Rs w aA an ac al) (h' : Rs w bA bn bc bl) => ownsame_any aM aR aN aB aC aT aU aS aK aL aQ aY aV aZ aA an ac aE aG aW al bM bR bN bB bC bT bU bS bK bL bQ bY bV bZ bA bn bc bE bG bW bl w h h')
  have hss := fun w (h : Rs w aA an ac al) => ownsame_any aM aR aN aB aC aT aU aS aK aL aQ aY aV aZ aA an ac aE aG aW al aM aR aN aB aC aT aU aS aK aL aQ aY aV aZ aA an ac aE aG aW al w h h
  rw [msame_refl] at hss
  have HSS := Lib.hid hss
  have hap := fun (h1 : mright ⟨aM, (aR, aN), (aB, aC), (aT, aU), aS, ⟨aK, aL, aQ, aY, aV, aZ⟩, ⟨al, aE, aG⟩, aW⟩ = true) (h2 : mright ⟨bM, (bR, bN), (bB, bC), (bT, bU), bS, ⟨bK, bL, bQ, bY, bV, bZ⟩, ⟨bl, bE, bG⟩, bW⟩ = true) f1 f2 => apart h1 h2 f1 f2
  unfold PutsMg mchk at hpa hpb
  generalize great ⟨aM, (aR, aN), (aB, aC), (aT, aU), aS, ⟨aK, aL, aQ, aY, aV, aZ⟩, ⟨al, aE, aG⟩, aW⟩ = ga at HG1
  generalize great ⟨bM, (bR, bN), (bB, bC), (bT, bU), bS, ⟨bK, bL, bQ, bY, bV, bZ⟩, ⟨bl, bE, bG⟩, bW⟩ = gb at HG2
  generalize msame ⟨aM, (aR, aN), (aB, aC), (aT, aU), aS, ⟨aK, aL, aQ, aY, aV, aZ⟩, ⟨al, aE, aG⟩, aW⟩ ⟨bM, (bR, bN), (bB, bC), (bT, bU), bS, ⟨bK, bL, bQ, bY, bV, bZ⟩, ⟨bl, bE, bG⟩, bW⟩ = t at HSM hap
  generalize mgIt ⟨aM, (aR, aN), (aB, aC), (aT, aU), aS, ⟨aK, aL, aQ, aY, aV, aZ⟩, ⟨al, aE, aG⟩, aW⟩ = X at hpa hap
  generalize mgIt ⟨bM, (bR, bN), (bB, bC), (bT, bU), bS, ⟨bK, bL, bQ, bY, bV, bZ⟩, ⟨bl, bE, bG⟩, bW⟩ = Y at hpb hap
  generalize mright ⟨aM, (aR, aN), (aB, aC), (aT, aU), aS, ⟨aK, aL, aQ, aY, aV, aZ⟩, ⟨al, aE, aG⟩, aW⟩ = ra at hpa hap
  generalize mright ⟨bM, (bR, bN), (bB, bC), (bT, bU), bS, ⟨bK, bL, bQ, bY, bV, bZ⟩, ⟨bl, bE, bG⟩, bW⟩ = rb at hpb hap
  obtain ⟨ea, hea⟩ : ∃ e : Int, (if ra = true then (0 : Int) else 4) = e := ⟨_, rfl⟩
  obtain ⟨eb, heb⟩ : ∃ e : Int, (if rb = true then (0 : Int) else 4) = e := ⟨_, rfl⟩
  rw [hea] at hpa
  rw [heb] at hpb
  have HEA := Lib.hid hea
  have HEB := Lib.hid heb
  clear hea heb
  have HPA := Lib.hid hpa
  have HPB := Lib.hid hpb
  have HAP := Lib.hid hap
  clear hpa hpb hap hss k1 k2 hbb hW ha hb hT hTW
  go_enter Tryd.func5, Tryd.ntmps5
  go_upto_region 1 with fail
  rw [HW.out]
  go_wp2_with (first | ((with_reducible refine wpList_load_blk_w 50 _ rfl w.heap.size 50 #[.int .i64 aM, .int .i64 aR, .int .i64 aN, .int .i64 aB, .int .i64 aC, .int .i64 aT, .int .i64 aU, .int .i64 aS, .int .i64 aK, .int .i64 aL, .int .i64 aQ, .string aY, .string aV, .int .i64 aZ, .slice aA an ac, .int .i64 aE, .int .i64 aG, .int .i64 aW] _ ?_ ?_ (HKa.out.bel HC.out) Tryd.underlying50 ?_ ?_ ?_); (focus rfl); (focus kernel_rfl); (focus rfl); (focus kernel_rfl)) | ((with_reducible refine wpList_load_blk_w 50 _ rfl (w.heap.size + 1) 50 #[.int .i64 bM, .int .i64 bR, .int .i64 bN, .int .i64 bB, .int .i64 bC, .int .i64 bT, .int .i64 bU, .int .i64 bS, .int .i64 bK, .int .i64 bL, .int .i64 bQ, .string bY, .string bV, .int .i64 bZ, .slice bA bn bc, .int .i64 bE, .int .i64 bG, .int .i64 bW] _ ?_ ?_ (HKb.out.bel HC.out) Tryd.underlying50 ?_ ?_ ?_); (focus rfl); (focus kernel_rfl); (focus rfl); (focus kernel_rfl)))
  refine (HG1.out _ (HRa.out.below HC.out)).mono ?_
  rintro e u1 ⟨rfl, hb1⟩
  replace HC := Lib.hid (bel_trans HC.out hb1)
  clear hb1
  cases ga with
  | false =>
    go_wp2_with (first | ((with_reducible refine wpList_load_blk_w 50 _ rfl w.heap.size 50 #[.int .i64 aM, .int .i64 aR, .int .i64 aN, .int .i64 aB, .int .i64 aC, .int .i64 aT, .int .i64 aU, .int .i64 aS, .int .i64 aK, .int .i64 aL, .int .i64 aQ, .string aY, .string aV, .int .i64 aZ, .slice aA an ac, .int .i64 aE, .int .i64 aG, .int .i64 aW] _ ?_ ?_ (HKa.out.bel HC.out) Tryd.underlying50 ?_ ?_ ?_); (focus rfl); (focus kernel_rfl); (focus rfl); (focus kernel_rfl)) | ((with_reducible refine wpList_load_blk_w 50 _ rfl (w.heap.size + 1) 50 #[.int .i64 bM, .int .i64 bR, .int .i64 bN, .int .i64 bB, .int .i64 bC, .int .i64 bT, .int .i64 bU, .int .i64 bS, .int .i64 bK, .int .i64 bL, .int .i64 bQ, .string bY, .string bV, .int .i64 bZ, .slice bA bn bc, .int .i64 bE, .int .i64 bG, .int .i64 bW] _ ?_ ?_ (HKb.out.bel HC.out) Tryd.underlying50 ?_ ?_ ?_); (focus rfl); (focus kernel_rfl); (focus rfl); (focus kernel_rfl)))
    refine (HG2.out _ (HRb.out.below HC.out)).mono ?_
    rintro e u2 ⟨rfl, hb1⟩
    replace HC := Lib.hid (bel_trans HC.out hb1)
    clear hb1
    cases gb with
    | false =>
      go_wp2_with (first | ((with_reducible refine wpList_load_blk_w 50 _ rfl w.heap.size 50 #[.int .i64 aM, .int .i64 aR, .int .i64 aN, .int .i64 aB, .int .i64 aC, .int .i64 aT, .int .i64 aU, .int .i64 aS, .int .i64 aK, .int .i64 aL, .int .i64 aQ, .string aY, .string aV, .int .i64 aZ, .slice aA an ac, .int .i64 aE, .int .i64 aG, .int .i64 aW] _ ?_ ?_ (HKa.out.bel HC.out) Tryd.underlying50 ?_ ?_ ?_); (focus rfl); (focus kernel_rfl); (focus rfl); (focus kernel_rfl)) | ((with_reducible refine wpList_load_blk_w 50 _ rfl (w.heap.size + 1) 50 #[.int .i64 bM, .int .i64 bR, .int .i64 bN, .int .i64 bB, .int .i64 bC, .int .i64 bT, .int .i64 bU, .int .i64 bS, .int .i64 bK, .int .i64 bL, .int .i64 bQ, .string bY, .string bV, .int .i64 bZ, .slice bA bn bc, .int .i64 bE, .int .i64 bG, .int .i64 bW] _ ?_ ?_ (HKb.out.bel HC.out) Tryd.underlying50 ?_ ?_ ?_); (focus rfl); (focus kernel_rfl); (focus rfl); (focus kernel_rfl)))
      refine (HPA.out _ HC.out).mono ?_
      rintro e u3 ⟨A1, n1, c1, rfl, hr1, hb1, hf1⟩
      have HR1 := Lib.hid hr1
      have HF1 := Lib.hid hf1
      replace HC := Lib.hid (bel_trans HC.out hb1)
      have HC1 := Lib.hid (Below.refl u3.heap.size u3)
      clear hr1 hf1 hb1
      go_wp2_with (first | ((with_reducible refine wpList_load_blk_w 50 _ rfl w.heap.size 50 #[.int .i64 aM, .int .i64 aR, .int .i64 aN, .int .i64 aB, .int .i64 aC, .int .i64 aT, .int .i64 aU, .int .i64 aS, .int .i64 aK, .int .i64 aL, .int .i64 aQ, .string aY, .string aV, .int .i64 aZ, .slice aA an ac, .int .i64 aE, .int .i64 aG, .int .i64 aW] _ ?_ ?_ (HKa.out.bel HC.out) Tryd.underlying50 ?_ ?_ ?_); (focus rfl); (focus kernel_rfl); (focus rfl); (focus kernel_rfl)) | ((with_reducible refine wpList_load_blk_w 50 _ rfl (w.heap.size + 1) 50 #[.int .i64 bM, .int .i64 bR, .int .i64 bN, .int .i64 bB, .int .i64 bC, .int .i64 bT, .int .i64 bU, .int .i64 bS, .int .i64 bK, .int .i64 bL, .int .i64 bQ, .string bY, .string bV, .int .i64 bZ, .slice bA bn bc, .int .i64 bE, .int .i64 bG, .int .i64 bW] _ ?_ ?_ (HKb.out.bel HC.out) Tryd.underlying50 ?_ ?_ ?_); (focus rfl); (focus kernel_rfl); (focus rfl); (focus kernel_rfl)))
      refine (HPB.out _ HC.out).mono ?_
      rintro e u4 ⟨A2, n2, c2, rfl, hr2, hb1, hf2⟩
      replace HR1 := Lib.hid (HR1.out.below hb1)
      have HR2 := Lib.hid hr2
      have HF2 := Lib.hid hf2
      replace HC := Lib.hid (bel_trans HC.out hb1)
      clear hr2 hf2 hb1
      go_upto_region 5 with fail
      have HBW := Lib.hid (HB.out.trans (HC.out.mono HB.out.size))
      have HBU := HC
      replace HKa := Lib.hid (HKa.out.bel HC.out)
      replace HKb := Lib.hid (HKb.out.bel HC.out)
      replace HRa := Lib.hid (HRa.out.below HC.out)
      replace HRb := Lib.hid (HRb.out.below HC.out)
      clear HC HC1
      have HC := Lib.hid (Below.drew (Below.refl u4.heap.size u4))
      cases ra with
      | false =>
        obtain rfl : (4 : Int) = ea := HEA.out
        refine wp_region_held_drew (S := (fun w' => Blk w' w.heap.size 50 #[.int .i64 aM, .int .i64 aR, .int .i64 aN, .int .i64 aB, .int .i64 aC, .int .i64 aT, .int .i64 aU, .int .i64 aS, .int .i64 aK, .int .i64 aL, .int .i64 aQ, .string aY, .string aV, .int .i64 aZ, .slice aA an ac, .int .i64 aE, .int .i64 aG, .int .i64 aW] ∧ Blk w' (w.heap.size + 1) 50 #[.int .i64 bM, .int .i64 bR, .int .i64 bN, .int .i64 bB, .int .i64 bC, .int .i64 bT, .int .i64 bU, .int .i64 bS, .int .i64 bK, .int .i64 bL, .int .i64 bQ, .string bY, .string bV, .int .i64 bZ, .slice bA bn bc, .int .i64 bE, .int .i64 bG, .int .i64 bW])) (by kernel_rfl) (by with_reducible exact ⟨HKa.out.bel HC.out, HKb.out.bel HC.out⟩) (fun hHeld => ?_)
        refine held_take (i := 0) (d := 26) (v := (.int .i64 4)) rfl rfl (by kernel_rfl) (by kernel_rfl) (by kernel_rfl) (fun _ _ _ h => h) (by kernel_rfl) (fun w hSw => by (obtain hS := hSw); go_simp) hHeld ?_
        try simp only [List.setIfInBounds_toArray, List.set_cons_zero, List.set_cons_succ]
        refine held_take (i := 1) (d := 27) (v := (.bool true)) rfl rfl (by kernel_rfl) (by kernel_rfl) (by kernel_rfl) (fun _ _ _ h => h) (by kernel_rfl) (fun w hSw => by (obtain hS := hSw); go_simp) hHeld ?_
        try simp only [List.setIfInBounds_toArray, List.set_cons_zero, List.set_cons_succ]
        refine held_take (i := 2) (d := 28) (v := (.bool true)) rfl rfl (by kernel_rfl) (by kernel_rfl) (by kernel_rfl) (fun _ _ _ h => h) (by kernel_rfl) (fun w hSw => by (obtain hS := hSw); go_simp) hHeld ?_
        try simp only [List.setIfInBounds_toArray, List.set_cons_zero, List.set_cons_succ]
        refine held_skip (i := 3) (d := 29) rfl rfl (by kernel_rfl) (by kernel_rfl) (by kernel_rfl) (fun _ _ _ h => h) (by kernel_rfl) hHeld ?_
        try simp only [List.setIfInBounds_toArray, List.set_cons_zero, List.set_cons_succ]
        refine held_skip (i := 4) (d := 30) rfl rfl (by kernel_rfl) (by kernel_rfl) (by kernel_rfl) (fun _ _ _ h => h) (by kernel_rfl) hHeld ?_
        try simp only [List.setIfInBounds_toArray, List.set_cons_zero, List.set_cons_succ]
        refine held_take (i := 5) (d := 31) (v := (.bool true)) rfl rfl (by kernel_rfl) (by kernel_rfl) (by kernel_rfl) (fun _ _ _ h => h) (by kernel_rfl) (fun w hSw => by (obtain hS := hSw); go_simp) hHeld ?_
        try simp only [List.setIfInBounds_toArray, List.set_cons_zero, List.set_cons_succ]
        refine held_take (i := 6) (d := 32) (v := (.bool true)) rfl rfl (by kernel_rfl) (by kernel_rfl) (by kernel_rfl) (fun _ _ _ h => h) (by kernel_rfl) (fun w hSw => by (obtain hS := hSw); go_simp) hHeld ?_
        try simp only [List.setIfInBounds_toArray, List.set_cons_zero, List.set_cons_succ]
        refine held_skip (i := 7) (d := 33) rfl rfl (by kernel_rfl) (by kernel_rfl) (by kernel_rfl) (fun _ _ _ h => h) (by kernel_rfl) hHeld ?_
        try simp only [List.setIfInBounds_toArray, List.set_cons_zero, List.set_cons_succ]
        refine held_skip (i := 8) (d := 34) rfl rfl (by kernel_rfl) (by kernel_rfl) (by kernel_rfl) (fun _ _ _ h => h) (by kernel_rfl) hHeld ?_
        try simp only [List.setIfInBounds_toArray, List.set_cons_zero, List.set_cons_succ]
        refine held_skip (i := 9) (d := 35) rfl rfl (by kernel_rfl) (by kernel_rfl) (by kernel_rfl) (fun _ _ _ h => h) (by kernel_rfl) hHeld ?_
        try simp only [List.setIfInBounds_toArray, List.set_cons_zero, List.set_cons_succ]
        refine held_skip (i := 10) (d := 36) rfl rfl (by kernel_rfl) (by kernel_rfl) (by kernel_rfl) (fun _ _ _ h => h) (by kernel_rfl) hHeld ?_
        try simp only [List.setIfInBounds_toArray, List.set_cons_zero, List.set_cons_succ]
        refine held_skip (i := 11) (d := 37) rfl rfl (by kernel_rfl) (by kernel_rfl) (by kernel_rfl) (fun _ _ _ h => h) (by kernel_rfl) hHeld ?_
        try simp only [List.setIfInBounds_toArray, List.set_cons_zero, List.set_cons_succ]
        refine held_skip (i := 12) (d := 38) rfl rfl (by kernel_rfl) (by kernel_rfl) (by kernel_rfl) (fun _ _ _ h => h) (by kernel_rfl) hHeld ?_
        try simp only [List.setIfInBounds_toArray, List.set_cons_zero, List.set_cons_succ]
        refine held_skip (i := 13) (d := 39) rfl rfl (by kernel_rfl) (by kernel_rfl) (by kernel_rfl) (fun _ _ _ h => h) (by kernel_rfl) hHeld ?_
        try simp only [List.setIfInBounds_toArray, List.set_cons_zero, List.set_cons_succ]
        refine held_take (i := 14) (d := 40) (v := (.bool true)) rfl rfl (by kernel_rfl) (by kernel_rfl) (by kernel_rfl) (fun _ _ _ h => h) (by kernel_rfl) (fun w hSw => by (obtain hS := hSw); go_simp) hHeld ?_
        try simp only [List.setIfInBounds_toArray, List.set_cons_zero, List.set_cons_succ]
        refine held_take (i := 15) (d := 41) (v := (.bool true)) rfl rfl (by kernel_rfl) (by kernel_rfl) (by kernel_rfl) (fun _ _ _ h => h) (by kernel_rfl) (fun w hSw => by (obtain hS := hSw); go_simp) hHeld ?_
        try simp only [List.setIfInBounds_toArray, List.set_cons_zero, List.set_cons_succ]
        refine held_take (i := 16) (d := 42) (v := (.agg #[.int .i64 aM, .int .i64 aR, .int .i64 aN, .int .i64 aB, .int .i64 aC, .int .i64 aT, .int .i64 aU, .int .i64 aS, .int .i64 aK, .int .i64 aL, .int .i64 aQ, .string aY, .string aV, .int .i64 aZ, .slice aA an ac, .int .i64 aE, .int .i64 aG, .int .i64 aW])) rfl rfl (by kernel_rfl) (by kernel_rfl) (by kernel_rfl) (fun _ _ _ h => h) (by kernel_rfl) (run_load_blk 50 (.tmp 2) rfl w.heap.size 50 #[.int .i64 aM, .int .i64 aR, .int .i64 aN, .int .i64 aB, .int .i64 aC, .int .i64 aT, .int .i64 aU, .int .i64 aS, .int .i64 aK, .int .i64 aL, .int .i64 aQ, .string aY, .string aV, .int .i64 aZ, .slice aA an ac, .int .i64 aE, .int .i64 aG, .int .i64 aW] _ rfl (fun _ h => h.1) Tryd.underlying50 rfl (by kernel_rfl)) hHeld ?_
        try simp only [List.setIfInBounds_toArray, List.set_cons_zero, List.set_cons_succ]
        refine held_take (i := 17) (d := 43) (v := (.agg #[.int .i64 aM, .int .i64 aR, .int .i64 aN, .int .i64 aB, .int .i64 aC, .int .i64 aT, .int .i64 aU, .int .i64 aS, .int .i64 aK, .int .i64 aL, .int .i64 aQ, .string aY, .string aV, .int .i64 aZ, .slice aA an ac, .int .i64 aE, .int .i64 aG, .int .i64 aW])) rfl rfl (by kernel_rfl) (by kernel_rfl) (by kernel_rfl) (fun _ _ _ h => h) (by kernel_rfl) (run_load_blk 50 (.tmp 2) rfl w.heap.size 50 #[.int .i64 aM, .int .i64 aR, .int .i64 aN, .int .i64 aB, .int .i64 aC, .int .i64 aT, .int .i64 aU, .int .i64 aS, .int .i64 aK, .int .i64 aL, .int .i64 aQ, .string aY, .string aV, .int .i64 aZ, .slice aA an ac, .int .i64 aE, .int .i64 aG, .int .i64 aW] _ rfl (fun _ h => h.1) Tryd.underlying50 rfl (by kernel_rfl)) hHeld ?_
        try simp only [List.setIfInBounds_toArray, List.set_cons_zero, List.set_cons_succ]
        refine wpAnyH_ready (rs := [18]) (by kernel_rfl) (by simp) ?_
        refine AllReadyH.cons rfl (fun K hK => ?_) AllReadyH.nil
        go_simp
        go_at_call 18
        refine (HSS.out _ (HRa.out.below HC.out)).mono ?_
        rintro e uy ⟨rfl, hb1⟩
        replace HC := Lib.hid (bel_trans HC.out hb1)
        clear hb1
        refine hK.out _ _ (by with_reducible exact ⟨HKa.out.bel HC.out, HKb.out.bel HC.out⟩) (fun hHeld => ?_)
        clear hK K
        refine held_take (i := 19) (d := 45) (v := (.bool true)) rfl rfl (by kernel_rfl) (by kernel_rfl) (by kernel_rfl) (fun _ _ _ h => h) (by kernel_rfl) (fun w hSw => by (obtain hS := hSw); go_simp) hHeld ?_
        try simp only [List.setIfInBounds_toArray, List.set_cons_zero, List.set_cons_succ]
        refine held_take (i := 20) (d := 46) (v := (.bool true)) rfl rfl (by kernel_rfl) (by kernel_rfl) (by kernel_rfl) (fun _ _ _ h => h) (by kernel_rfl) (fun w hSw => by (obtain hS := hSw); go_simp) hHeld ?_
        try simp only [List.setIfInBounds_toArray, List.set_cons_zero, List.set_cons_succ]
        refine wpAnyH_ready (rs := [21]) (by kernel_rfl) (by simp) ?_
        refine AllReadyH.cons rfl (fun K hK => ?_) AllReadyH.nil
        go_simp
        go_at_call 7
        refine (HAW.out _ (HBU.out.trans (HC.out.mono HBU.out.size))).mono ?_
        rintro e uy ⟨rfl, hb1⟩
        replace HC := Lib.hid (bel_trans HC.out hb1)
        clear hb1
        refine hK.out _ _ (by with_reducible exact ⟨HKa.out.bel HC.out, HKb.out.bel HC.out⟩) (fun hHeld => ?_)
        clear hK K
        refine held_take (i := 22) (d := 48) (v := (.bool true)) rfl rfl (by kernel_rfl) (by kernel_rfl) (by kernel_rfl) (fun _ _ _ h => h) (by kernel_rfl) (fun w hSw => by (obtain hS := hSw); go_simp) hHeld ?_
        try simp only [List.setIfInBounds_toArray, List.set_cons_zero, List.set_cons_succ]
        refine held_take (i := 23) (d := 4) (v := (.bool true)) rfl rfl (by kernel_rfl) (by kernel_rfl) (by kernel_rfl) (fun _ _ _ h => h) (by kernel_rfl) (fun w hSw => by (obtain hS := hSw); go_simp) hHeld ?_
        try simp only [List.setIfInBounds_toArray, List.set_cons_zero, List.set_cons_succ]
        refine wpAnyH_done (by kernel_rfl) ?_ _
        go_wp2_with fail
        go_ret
        exact ⟨rfl, HBW.out.trans (HC.out.mono HBW.out.size)⟩
      | true =>
        obtain rfl : (0 : Int) = ea := HEA.out
        cases rb with
        | false =>
          obtain rfl : (4 : Int) = eb := HEB.out
          refine wp_region_held_drew (S := (fun w' => Blk w' w.heap.size 50 #[.int .i64 aM, .int .i64 aR, .int .i64 aN, .int .i64 aB, .int .i64 aC, .int .i64 aT, .int .i64 aU, .int .i64 aS, .int .i64 aK, .int .i64 aL, .int .i64 aQ, .string aY, .string aV, .int .i64 aZ, .slice aA an ac, .int .i64 aE, .int .i64 aG, .int .i64 aW] ∧ Blk w' (w.heap.size + 1) 50 #[.int .i64 bM, .int .i64 bR, .int .i64 bN, .int .i64 bB, .int .i64 bC, .int .i64 bT, .int .i64 bU, .int .i64 bS, .int .i64 bK, .int .i64 bL, .int .i64 bQ, .string bY, .string bV, .int .i64 bZ, .slice bA bn bc, .int .i64 bE, .int .i64 bG, .int .i64 bW])) (by kernel_rfl) (by with_reducible exact ⟨HKa.out.bel HC.out, HKb.out.bel HC.out⟩) (fun hHeld => ?_)
          refine held_take (i := 0) (d := 26) (v := (.int .i64 0)) rfl rfl (by kernel_rfl) (by kernel_rfl) (by kernel_rfl) (fun _ _ _ h => h) (by kernel_rfl) (fun w hSw => by (obtain hS := hSw); go_simp) hHeld ?_
          try simp only [List.setIfInBounds_toArray, List.set_cons_zero, List.set_cons_succ]
          refine held_take (i := 1) (d := 27) (v := (.bool false)) rfl rfl (by kernel_rfl) (by kernel_rfl) (by kernel_rfl) (fun _ _ _ h => h) (by kernel_rfl) (fun w hSw => by (obtain hS := hSw); go_simp) hHeld ?_
          try simp only [List.setIfInBounds_toArray, List.set_cons_zero, List.set_cons_succ]
          refine held_take (i := 2) (d := 28) (v := (.bool false)) rfl rfl (by kernel_rfl) (by kernel_rfl) (by kernel_rfl) (fun _ _ _ h => h) (by kernel_rfl) (fun w hSw => by (obtain hS := hSw); go_simp) hHeld ?_
          try simp only [List.setIfInBounds_toArray, List.set_cons_zero, List.set_cons_succ]
          refine held_take (i := 3) (d := 29) (v := (.int .i64 4)) rfl rfl (by kernel_rfl) (by kernel_rfl) (by kernel_rfl) (fun _ _ _ h => h) (by kernel_rfl) (fun w hSw => by (obtain hS := hSw); go_simp) hHeld ?_
          try simp only [List.setIfInBounds_toArray, List.set_cons_zero, List.set_cons_succ]
          refine held_take (i := 4) (d := 30) (v := (.bool true)) rfl rfl (by kernel_rfl) (by kernel_rfl) (by kernel_rfl) (fun _ _ _ h => h) (by kernel_rfl) (fun w hSw => by (obtain hS := hSw); go_simp) hHeld ?_
          try simp only [List.setIfInBounds_toArray, List.set_cons_zero, List.set_cons_succ]
          refine held_take (i := 5) (d := 31) (v := (.bool true)) rfl rfl (by kernel_rfl) (by kernel_rfl) (by kernel_rfl) (fun _ _ _ h => h) (by kernel_rfl) (fun w hSw => by (obtain hS := hSw); go_simp) hHeld ?_
          try simp only [List.setIfInBounds_toArray, List.set_cons_zero, List.set_cons_succ]
          refine held_take (i := 6) (d := 32) (v := (.bool true)) rfl rfl (by kernel_rfl) (by kernel_rfl) (by kernel_rfl) (fun _ _ _ h => h) (by kernel_rfl) (fun w hSw => by (obtain hS := hSw); go_simp) hHeld ?_
          try simp only [List.setIfInBounds_toArray, List.set_cons_zero, List.set_cons_succ]
          refine held_skip (i := 7) (d := 33) rfl rfl (by kernel_rfl) (by kernel_rfl) (by kernel_rfl) (fun _ _ _ h => h) (by kernel_rfl) hHeld ?_
          try simp only [List.setIfInBounds_toArray, List.set_cons_zero, List.set_cons_succ]
          refine held_skip (i := 8) (d := 34) rfl rfl (by kernel_rfl) (by kernel_rfl) (by kernel_rfl) (fun _ _ _ h => h) (by kernel_rfl) hHeld ?_
          try simp only [List.setIfInBounds_toArray, List.set_cons_zero, List.set_cons_succ]
          refine held_skip (i := 9) (d := 35) rfl rfl (by kernel_rfl) (by kernel_rfl) (by kernel_rfl) (fun _ _ _ h => h) (by kernel_rfl) hHeld ?_
          try simp only [List.setIfInBounds_toArray, List.set_cons_zero, List.set_cons_succ]
          refine held_skip (i := 10) (d := 36) rfl rfl (by kernel_rfl) (by kernel_rfl) (by kernel_rfl) (fun _ _ _ h => h) (by kernel_rfl) hHeld ?_
          try simp only [List.setIfInBounds_toArray, List.set_cons_zero, List.set_cons_succ]
          refine held_skip (i := 11) (d := 37) rfl rfl (by kernel_rfl) (by kernel_rfl) (by kernel_rfl) (fun _ _ _ h => h) (by kernel_rfl) hHeld ?_
          try simp only [List.setIfInBounds_toArray, List.set_cons_zero, List.set_cons_succ]
          refine held_skip (i := 12) (d := 38) rfl rfl (by kernel_rfl) (by kernel_rfl) (by kernel_rfl) (fun _ _ _ h => h) (by kernel_rfl) hHeld ?_
          try simp only [List.setIfInBounds_toArray, List.set_cons_zero, List.set_cons_succ]
          refine held_skip (i := 13) (d := 39) rfl rfl (by kernel_rfl) (by kernel_rfl) (by kernel_rfl) (fun _ _ _ h => h) (by kernel_rfl) hHeld ?_
          try simp only [List.setIfInBounds_toArray, List.set_cons_zero, List.set_cons_succ]
          refine held_take (i := 14) (d := 40) (v := (.bool true)) rfl rfl (by kernel_rfl) (by kernel_rfl) (by kernel_rfl) (fun _ _ _ h => h) (by kernel_rfl) (fun w hSw => by (obtain hS := hSw); go_simp) hHeld ?_
          try simp only [List.setIfInBounds_toArray, List.set_cons_zero, List.set_cons_succ]
          refine held_take (i := 15) (d := 41) (v := (.bool true)) rfl rfl (by kernel_rfl) (by kernel_rfl) (by kernel_rfl) (fun _ _ _ h => h) (by kernel_rfl) (fun w hSw => by (obtain hS := hSw); go_simp) hHeld ?_
          try simp only [List.setIfInBounds_toArray, List.set_cons_zero, List.set_cons_succ]
          refine held_take (i := 16) (d := 42) (v := (.agg #[.int .i64 aM, .int .i64 aR, .int .i64 aN, .int .i64 aB, .int .i64 aC, .int .i64 aT, .int .i64 aU, .int .i64 aS, .int .i64 aK, .int .i64 aL, .int .i64 aQ, .string aY, .string aV, .int .i64 aZ, .slice aA an ac, .int .i64 aE, .int .i64 aG, .int .i64 aW])) rfl rfl (by kernel_rfl) (by kernel_rfl) (by kernel_rfl) (fun _ _ _ h => h) (by kernel_rfl) (run_load_blk 50 (.tmp 2) rfl w.heap.size 50 #[.int .i64 aM, .int .i64 aR, .int .i64 aN, .int .i64 aB, .int .i64 aC, .int .i64 aT, .int .i64 aU, .int .i64 aS, .int .i64 aK, .int .i64 aL, .int .i64 aQ, .string aY, .string aV, .int .i64 aZ, .slice aA an ac, .int .i64 aE, .int .i64 aG, .int .i64 aW] _ rfl (fun _ h => h.1) Tryd.underlying50 rfl (by kernel_rfl)) hHeld ?_
          try simp only [List.setIfInBounds_toArray, List.set_cons_zero, List.set_cons_succ]
          refine held_take (i := 17) (d := 43) (v := (.agg #[.int .i64 aM, .int .i64 aR, .int .i64 aN, .int .i64 aB, .int .i64 aC, .int .i64 aT, .int .i64 aU, .int .i64 aS, .int .i64 aK, .int .i64 aL, .int .i64 aQ, .string aY, .string aV, .int .i64 aZ, .slice aA an ac, .int .i64 aE, .int .i64 aG, .int .i64 aW])) rfl rfl (by kernel_rfl) (by kernel_rfl) (by kernel_rfl) (fun _ _ _ h => h) (by kernel_rfl) (run_load_blk 50 (.tmp 2) rfl w.heap.size 50 #[.int .i64 aM, .int .i64 aR, .int .i64 aN, .int .i64 aB, .int .i64 aC, .int .i64 aT, .int .i64 aU, .int .i64 aS, .int .i64 aK, .int .i64 aL, .int .i64 aQ, .string aY, .string aV, .int .i64 aZ, .slice aA an ac, .int .i64 aE, .int .i64 aG, .int .i64 aW] _ rfl (fun _ h => h.1) Tryd.underlying50 rfl (by kernel_rfl)) hHeld ?_
          try simp only [List.setIfInBounds_toArray, List.set_cons_zero, List.set_cons_succ]
          refine wpAnyH_ready (rs := [18]) (by kernel_rfl) (by simp) ?_
          refine AllReadyH.cons rfl (fun K hK => ?_) AllReadyH.nil
          go_simp
          go_at_call 18
          refine (HSS.out _ (HRa.out.below HC.out)).mono ?_
          rintro e uy ⟨rfl, hb1⟩
          replace HC := Lib.hid (bel_trans HC.out hb1)
          clear hb1
          refine hK.out _ _ (by with_reducible exact ⟨HKa.out.bel HC.out, HKb.out.bel HC.out⟩) (fun hHeld => ?_)
          clear hK K
          refine held_take (i := 19) (d := 45) (v := (.bool true)) rfl rfl (by kernel_rfl) (by kernel_rfl) (by kernel_rfl) (fun _ _ _ h => h) (by kernel_rfl) (fun w hSw => by (obtain hS := hSw); go_simp) hHeld ?_
          try simp only [List.setIfInBounds_toArray, List.set_cons_zero, List.set_cons_succ]
          refine held_take (i := 20) (d := 46) (v := (.bool true)) rfl rfl (by kernel_rfl) (by kernel_rfl) (by kernel_rfl) (fun _ _ _ h => h) (by kernel_rfl) (fun w hSw => by (obtain hS := hSw); go_simp) hHeld ?_
          try simp only [List.setIfInBounds_toArray, List.set_cons_zero, List.set_cons_succ]
          refine wpAnyH_ready (rs := [21]) (by kernel_rfl) (by simp) ?_
          refine AllReadyH.cons rfl (fun K hK => ?_) AllReadyH.nil
          go_simp
          go_at_call 7
          refine (HAW.out _ (HBU.out.trans (HC.out.mono HBU.out.size))).mono ?_
          rintro e uy ⟨rfl, hb1⟩
          replace HC := Lib.hid (bel_trans HC.out hb1)
          clear hb1
          refine hK.out _ _ (by with_reducible exact ⟨HKa.out.bel HC.out, HKb.out.bel HC.out⟩) (fun hHeld => ?_)
          clear hK K
          refine held_take (i := 22) (d := 48) (v := (.bool true)) rfl rfl (by kernel_rfl) (by kernel_rfl) (by kernel_rfl) (fun _ _ _ h => h) (by kernel_rfl) (fun w hSw => by (obtain hS := hSw); go_simp) hHeld ?_
          try simp only [List.setIfInBounds_toArray, List.set_cons_zero, List.set_cons_succ]
          refine held_take (i := 23) (d := 4) (v := (.bool true)) rfl rfl (by kernel_rfl) (by kernel_rfl) (by kernel_rfl) (fun _ _ _ h => h) (by kernel_rfl) (fun w hSw => by (obtain hS := hSw); go_simp) hHeld ?_
          try simp only [List.setIfInBounds_toArray, List.set_cons_zero, List.set_cons_succ]
          refine wpAnyH_done (by kernel_rfl) ?_ _
          go_wp2_with fail
          go_ret
          exact ⟨rfl, HBW.out.trans (HC.out.mono HBW.out.size)⟩
        | true =>
          obtain rfl : (0 : Int) = eb := HEB.out
          have HEQ := Lib.hid (HAP.out (by first | rfl | trivial) (by first | rfl | trivial) (HF1.out (by first | rfl | trivial)).1 (HF2.out (by first | rfl | trivial)).1)
          have hr1 := HR1.out
          have hr2 := HR2.out
          simp only [if_true] at hr1 hr2
          replace HR1 := Lib.hid hr1
          replace HR2 := Lib.hid hr2
          clear hr1 hr2
          refine wp_region_held_drew (S := (fun w' => Blk w' w.heap.size 50 #[.int .i64 aM, .int .i64 aR, .int .i64 aN, .int .i64 aB, .int .i64 aC, .int .i64 aT, .int .i64 aU, .int .i64 aS, .int .i64 aK, .int .i64 aL, .int .i64 aQ, .string aY, .string aV, .int .i64 aZ, .slice aA an ac, .int .i64 aE, .int .i64 aG, .int .i64 aW] ∧ Blk w' (w.heap.size + 1) 50 #[.int .i64 bM, .int .i64 bR, .int .i64 bN, .int .i64 bB, .int .i64 bC, .int .i64 bT, .int .i64 bU, .int .i64 bS, .int .i64 bK, .int .i64 bL, .int .i64 bQ, .string bY, .string bV, .int .i64 bZ, .slice bA bn bc, .int .i64 bE, .int .i64 bG, .int .i64 bW])) (by kernel_rfl) (by with_reducible exact ⟨HKa.out.bel HC.out, HKb.out.bel HC.out⟩) (fun hHeld => ?_)
          refine held_take (i := 0) (d := 26) (v := (.int .i64 0)) rfl rfl (by kernel_rfl) (by kernel_rfl) (by kernel_rfl) (fun _ _ _ h => h) (by kernel_rfl) (fun w hSw => by (obtain hS := hSw); go_simp) hHeld ?_
          try simp only [List.setIfInBounds_toArray, List.set_cons_zero, List.set_cons_succ]
          refine held_take (i := 1) (d := 27) (v := (.bool false)) rfl rfl (by kernel_rfl) (by kernel_rfl) (by kernel_rfl) (fun _ _ _ h => h) (by kernel_rfl) (fun w hSw => by (obtain hS := hSw); go_simp) hHeld ?_
          try simp only [List.setIfInBounds_toArray, List.set_cons_zero, List.set_cons_succ]
          refine held_take (i := 2) (d := 28) (v := (.bool false)) rfl rfl (by kernel_rfl) (by kernel_rfl) (by kernel_rfl) (fun _ _ _ h => h) (by kernel_rfl) (fun w hSw => by (obtain hS := hSw); go_simp) hHeld ?_
          try simp only [List.setIfInBounds_toArray, List.set_cons_zero, List.set_cons_succ]
          refine held_take (i := 3) (d := 29) (v := (.int .i64 0)) rfl rfl (by kernel_rfl) (by kernel_rfl) (by kernel_rfl) (fun _ _ _ h => h) (by kernel_rfl) (fun w hSw => by (obtain hS := hSw); go_simp) hHeld ?_
          try simp only [List.setIfInBounds_toArray, List.set_cons_zero, List.set_cons_succ]
          refine held_take (i := 4) (d := 30) (v := (.bool false)) rfl rfl (by kernel_rfl) (by kernel_rfl) (by kernel_rfl) (fun _ _ _ h => h) (by kernel_rfl) (fun w hSw => by (obtain hS := hSw); go_simp) hHeld ?_
          try simp only [List.setIfInBounds_toArray, List.set_cons_zero, List.set_cons_succ]
          refine held_take (i := 5) (d := 31) (v := (.bool false)) rfl rfl (by kernel_rfl) (by kernel_rfl) (by kernel_rfl) (fun _ _ _ h => h) (by kernel_rfl) (fun w hSw => by (obtain hS := hSw); go_simp) hHeld ?_
          try simp only [List.setIfInBounds_toArray, List.set_cons_zero, List.set_cons_succ]
          refine held_take (i := 6) (d := 32) (v := (.bool false)) rfl rfl (by kernel_rfl) (by kernel_rfl) (by kernel_rfl) (fun _ _ _ h => h) (by kernel_rfl) (fun w hSw => by (obtain hS := hSw); go_simp) hHeld ?_
          try simp only [List.setIfInBounds_toArray, List.set_cons_zero, List.set_cons_succ]
          refine held_take (i := 7) (d := 33) (v := (.slice A1 n1 c1)) rfl rfl (by kernel_rfl) (by kernel_rfl) (by kernel_rfl) (fun _ _ _ h => h) (by kernel_rfl) (fun w hSw => by (obtain hS := hSw); go_simp) hHeld ?_
          try simp only [List.setIfInBounds_toArray, List.set_cons_zero, List.set_cons_succ]
          refine held_take (i := 8) (d := 34) (v := (.slice A2 n2 c2)) rfl rfl (by kernel_rfl) (by kernel_rfl) (by kernel_rfl) (fun _ _ _ h => h) (by kernel_rfl) (fun w hSw => by (obtain hS := hSw); go_simp) hHeld ?_
          try simp only [List.setIfInBounds_toArray, List.set_cons_zero, List.set_cons_succ]
          refine held_take (i := 10) (d := 36) (v := (.agg #[.int .i64 aM, .int .i64 aR, .int .i64 aN, .int .i64 aB, .int .i64 aC, .int .i64 aT, .int .i64 aU, .int .i64 aS, .int .i64 aK, .int .i64 aL, .int .i64 aQ, .string aY, .string aV, .int .i64 aZ, .slice aA an ac, .int .i64 aE, .int .i64 aG, .int .i64 aW])) rfl rfl (by kernel_rfl) (by kernel_rfl) (by kernel_rfl) (fun _ _ _ h => h) (by kernel_rfl) (run_load_blk 50 (.tmp 2) rfl w.heap.size 50 #[.int .i64 aM, .int .i64 aR, .int .i64 aN, .int .i64 aB, .int .i64 aC, .int .i64 aT, .int .i64 aU, .int .i64 aS, .int .i64 aK, .int .i64 aL, .int .i64 aQ, .string aY, .string aV, .int .i64 aZ, .slice aA an ac, .int .i64 aE, .int .i64 aG, .int .i64 aW] _ rfl (fun _ h => h.1) Tryd.underlying50 rfl (by kernel_rfl)) hHeld ?_
          try simp only [List.setIfInBounds_toArray, List.set_cons_zero, List.set_cons_succ]
          refine held_take (i := 11) (d := 37) (v := (.agg #[.int .i64 bM, .int .i64 bR, .int .i64 bN, .int .i64 bB, .int .i64 bC, .int .i64 bT, .int .i64 bU, .int .i64 bS, .int .i64 bK, .int .i64 bL, .int .i64 bQ, .string bY, .string bV, .int .i64 bZ, .slice bA bn bc, .int .i64 bE, .int .i64 bG, .int .i64 bW])) rfl rfl (by kernel_rfl) (by kernel_rfl) (by kernel_rfl) (fun _ _ _ h => h) (by kernel_rfl) (run_load_blk 50 (.tmp 3) rfl (w.heap.size + 1) 50 #[.int .i64 bM, .int .i64 bR, .int .i64 bN, .int .i64 bB, .int .i64 bC, .int .i64 bT, .int .i64 bU, .int .i64 bS, .int .i64 bK, .int .i64 bL, .int .i64 bQ, .string bY, .string bV, .int .i64 bZ, .slice bA bn bc, .int .i64 bE, .int .i64 bG, .int .i64 bW] _ rfl (fun _ h => h.2) Tryd.underlying50 rfl (by kernel_rfl)) hHeld ?_
          try simp only [List.setIfInBounds_toArray, List.set_cons_zero, List.set_cons_succ]
          refine wpAnyH_ready (rs := [9]) (by kernel_rfl) (by simp) ?_
          refine AllReadyH.cons rfl (fun K hK => ?_) AllReadyH.nil
          go_simp
          go_at_call 11
          refine (Cp.same_tells A1 A2 n1 n2 c1 c2 _ _ t _ (HR1.out.below HC.out) (HR2.out.below HC.out) HEQ.out).mono ?_
          rintro e uy ⟨rfl, hb1⟩
          replace HC := Lib.hid (bel_trans HC.out hb1)
          clear hb1
          refine hK.out _ _ (by with_reducible exact ⟨HKa.out.bel HC.out, HKb.out.bel HC.out⟩) (fun hHeld => ?_)
          clear hK K
          refine wpAnyH_ready (rs := [12]) (by kernel_rfl) (by simp) ?_
          refine AllReadyH.cons rfl (fun K hK => ?_) AllReadyH.nil
          go_simp
          go_at_call 18
          refine (HSM.out _ (HRa.out.below HC.out) (HRb.out.below HC.out)).mono ?_
          rintro e uy ⟨rfl, hb1⟩
          replace HC := Lib.hid (bel_trans HC.out hb1)
          clear hb1
          refine hK.out _ _ (by with_reducible exact ⟨HKa.out.bel HC.out, HKb.out.bel HC.out⟩) (fun hHeld => ?_)
          clear hK K
          refine held_take (i := 13) (d := 39) (v := (.bool true)) rfl rfl (by kernel_rfl) (by kernel_rfl) (by kernel_rfl) (fun _ _ _ h => h) (by kernel_rfl) (fun w hSw => by (have q0 : (t == t) = true := by (cases t <;> rfl)); go_simp) hHeld ?_
          try simp only [List.setIfInBounds_toArray, List.set_cons_zero, List.set_cons_succ]
          refine held_take (i := 14) (d := 40) (v := (.bool true)) rfl rfl (by kernel_rfl) (by kernel_rfl) (by kernel_rfl) (fun _ _ _ h => h) (by kernel_rfl) (fun w hSw => by (obtain hS := hSw); go_simp) hHeld ?_
          try simp only [List.setIfInBounds_toArray, List.set_cons_zero, List.set_cons_succ]
          refine held_take (i := 15) (d := 41) (v := (.bool true)) rfl rfl (by kernel_rfl) (by kernel_rfl) (by kernel_rfl) (fun _ _ _ h => h) (by kernel_rfl) (fun w hSw => by (obtain hS := hSw); go_simp) hHeld ?_
          try simp only [List.setIfInBounds_toArray, List.set_cons_zero, List.set_cons_succ]
          refine held_take (i := 16) (d := 42) (v := (.agg #[.int .i64 aM, .int .i64 aR, .int .i64 aN, .int .i64 aB, .int .i64 aC, .int .i64 aT, .int .i64 aU, .int .i64 aS, .int .i64 aK, .int .i64 aL, .int .i64 aQ, .string aY, .string aV, .int .i64 aZ, .slice aA an ac, .int .i64 aE, .int .i64 aG, .int .i64 aW])) rfl rfl (by kernel_rfl) (by kernel_rfl) (by kernel_rfl) (fun _ _ _ h => h) (by kernel_rfl) (run_load_blk 50 (.tmp 2) rfl w.heap.size 50 #[.int .i64 aM, .int .i64 aR, .int .i64 aN, .int .i64 aB, .int .i64 aC, .int .i64 aT, .int .i64 aU, .int .i64 aS, .int .i64 aK, .int .i64 aL, .int .i64 aQ, .string aY, .string aV, .int .i64 aZ, .slice aA an ac, .int .i64 aE, .int .i64 aG, .int .i64 aW] _ rfl (fun _ h => h.1) Tryd.underlying50 rfl (by kernel_rfl)) hHeld ?_
          try simp only [List.setIfInBounds_toArray, List.set_cons_zero, List.set_cons_succ]
          refine held_take (i := 17) (d := 43) (v := (.agg #[.int .i64 aM, .int .i64 aR, .int .i64 aN, .int .i64 aB, .int .i64 aC, .int .i64 aT, .int .i64 aU, .int .i64 aS, .int .i64 aK, .int .i64 aL, .int .i64 aQ, .string aY, .string aV, .int .i64 aZ, .slice aA an ac, .int .i64 aE, .int .i64 aG, .int .i64 aW])) rfl rfl (by kernel_rfl) (by kernel_rfl) (by kernel_rfl) (fun _ _ _ h => h) (by kernel_rfl) (run_load_blk 50 (.tmp 2) rfl w.heap.size 50 #[.int .i64 aM, .int .i64 aR, .int .i64 aN, .int .i64 aB, .int .i64 aC, .int .i64 aT, .int .i64 aU, .int .i64 aS, .int .i64 aK, .int .i64 aL, .int .i64 aQ, .string aY, .string aV, .int .i64 aZ, .slice aA an ac, .int .i64 aE, .int .i64 aG, .int .i64 aW] _ rfl (fun _ h => h.1) Tryd.underlying50 rfl (by kernel_rfl)) hHeld ?_
          try simp only [List.setIfInBounds_toArray, List.set_cons_zero, List.set_cons_succ]
          refine wpAnyH_ready (rs := [18]) (by kernel_rfl) (by simp) ?_
          refine AllReadyH.cons rfl (fun K hK => ?_) AllReadyH.nil
          go_simp
          go_at_call 18
          refine (HSS.out _ (HRa.out.below HC.out)).mono ?_
          rintro e uy ⟨rfl, hb1⟩
          replace HC := Lib.hid (bel_trans HC.out hb1)
          clear hb1
          refine hK.out _ _ (by with_reducible exact ⟨HKa.out.bel HC.out, HKb.out.bel HC.out⟩) (fun hHeld => ?_)
          clear hK K
          refine held_take (i := 19) (d := 45) (v := (.bool true)) rfl rfl (by kernel_rfl) (by kernel_rfl) (by kernel_rfl) (fun _ _ _ h => h) (by kernel_rfl) (fun w hSw => by (obtain hS := hSw); go_simp) hHeld ?_
          try simp only [List.setIfInBounds_toArray, List.set_cons_zero, List.set_cons_succ]
          refine held_take (i := 20) (d := 46) (v := (.bool true)) rfl rfl (by kernel_rfl) (by kernel_rfl) (by kernel_rfl) (fun _ _ _ h => h) (by kernel_rfl) (fun w hSw => by (obtain hS := hSw); go_simp) hHeld ?_
          try simp only [List.setIfInBounds_toArray, List.set_cons_zero, List.set_cons_succ]
          refine wpAnyH_ready (rs := [21]) (by kernel_rfl) (by simp) ?_
          refine AllReadyH.cons rfl (fun K hK => ?_) AllReadyH.nil
          go_simp
          go_at_call 7
          refine (HAW.out _ (HBU.out.trans (HC.out.mono HBU.out.size))).mono ?_
          rintro e uy ⟨rfl, hb1⟩
          replace HC := Lib.hid (bel_trans HC.out hb1)
          clear hb1
          refine hK.out _ _ (by with_reducible exact ⟨HKa.out.bel HC.out, HKb.out.bel HC.out⟩) (fun hHeld => ?_)
          clear hK K
          refine held_take (i := 22) (d := 48) (v := (.bool true)) rfl rfl (by kernel_rfl) (by kernel_rfl) (by kernel_rfl) (fun _ _ _ h => h) (by kernel_rfl) (fun w hSw => by (obtain hS := hSw); go_simp) hHeld ?_
          try simp only [List.setIfInBounds_toArray, List.set_cons_zero, List.set_cons_succ]
          refine held_take (i := 23) (d := 4) (v := (.bool true)) rfl rfl (by kernel_rfl) (by kernel_rfl) (by kernel_rfl) (fun _ _ _ h => h) (by kernel_rfl) (fun w hSw => by (obtain hS := hSw); go_simp) hHeld ?_
          try simp only [List.setIfInBounds_toArray, List.set_cons_zero, List.set_cons_succ]
          refine wpAnyH_done (by kernel_rfl) ?_ _
          go_wp2_with fail
          go_ret
          exact ⟨rfl, HBW.out.trans (HC.out.mono HBW.out.size)⟩
    | true =>
      go_wp2_with fail
      refine (HAW.out _ HC.out).mono ?_
      rintro e uz ⟨rfl, hb1⟩
      replace HC := Lib.hid (bel_trans HC.out hb1)
      clear hb1
      go_wp2_with fail
      go_ret
      exact ⟨rfl, HB.out.trans (HC.out.mono HB.out.size)⟩
  | true =>
    go_wp2_with fail
    refine (HAW.out _ HC.out).mono ?_
    rintro e uz ⟨rfl, hb1⟩
    replace HC := Lib.hid (bel_trans HC.out hb1)
    clear hb1
    go_wp2_with fail
    go_ret
    exact ⟨rfl, HB.out.trans (HC.out.mono HB.out.size)⟩
end Go.Proofs.YtjfpfbagckckkaaDoor.Mg
