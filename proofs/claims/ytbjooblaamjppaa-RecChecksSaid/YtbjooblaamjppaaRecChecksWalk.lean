/-
  Texts of earlier layers, as one.
-/
import Derived.Test.YtbjooblaamjppaaRecAwake
import Derived.Test.YtbjooblaamjppaaRecRight
import Derived.Deep.Cut
import Derived.Deep.RegionHeld
/- RecChecks answers true. -/
namespace Go.Proofs.Ytbjooblaamjppaa.Rk
open Go.RowKit Mem Ids Att

set_option maxRecDepth 100000 in
set_option maxHeartbeats 16000000 in
theorem recchecks_true (aR aN aS aB aC aT aU aK aL aQ : Int) (aY aV : ByteArray) (aZ : Int) (aA : Option Addr) (an ac : Nat) (aE aG : Int) (al : List (Int × Int)) (bR bN bS bB bC bT bU bK bL bQ : Int) (bY bV : ByteArray) (bZ : Int) (bA : Option Addr) (bn bc : Nat) (bE bG : Int) (bl : List (Int × Int)) (w : World) (ha : Rs w aA an ac al) (hb : Rs w bA bn bc bl) :
    Calls Try.prog 3 #[.agg #[.int .i64 aR, .int .i64 aN, .int .i64 aS, .int .i64 aB, .int .i64 aC, .int .i64 aT, .int .i64 aU, .int .i64 aK, .int .i64 aL, .int .i64 aQ, .string aY, .string aV, .int .i64 aZ, .slice aA an ac, .int .i64 aE, .int .i64 aG], .agg #[.int .i64 bR, .int .i64 bN, .int .i64 bS, .int .i64 bB, .int .i64 bC, .int .i64 bT, .int .i64 bU, .int .i64 bK, .int .i64 bL, .int .i64 bQ, .string bY, .string bV, .int .i64 bZ, .slice bA bn bc, .int .i64 bE, .int .i64 bG]] w (Tells true w) := by
  obtain ⟨k1, k2, kb⟩ := two_boxes w 32 #[.int .i64 aR, .int .i64 aN, .int .i64 aS, .int .i64 aB, .int .i64 aC, .int .i64 aT, .int .i64 aU, .int .i64 aK, .int .i64 aL, .int .i64 aQ, .string aY, .string aV, .int .i64 aZ, .slice aA an ac, .int .i64 aE, .int .i64 aG] #[.int .i64 bR, .int .i64 bN, .int .i64 bS, .int .i64 bB, .int .i64 bC, .int .i64 bT, .int .i64 bU, .int .i64 bK, .int .i64 bL, .int .i64 bQ, .string bY, .string bV, .int .i64 bZ, .slice bA bn bc, .int .i64 bE, .int .i64 bG]
  obtain ⟨W, hW⟩ : ∃ W, (w.alloc (.cells #[.int .i64 aR, .int .i64 aN, .int .i64 aS, .int .i64 aB, .int .i64 aC, .int .i64 aT, .int .i64 aU, .int .i64 aK, .int .i64 aL, .int .i64 aQ, .string aY, .string aV, .int .i64 aZ, .slice aA an ac, .int .i64 aE, .int .i64 aG] 32)).alloc (.cells #[.int .i64 bR, .int .i64 bN, .int .i64 bS, .int .i64 bB, .int .i64 bC, .int .i64 bT, .int .i64 bU, .int .i64 bK, .int .i64 bL, .int .i64 bQ, .string bY, .string bV, .int .i64 bZ, .slice bA bn bc, .int .i64 bE, .int .i64 bG] 32) = W := ⟨_, rfl⟩
  rw [hW] at k1 k2 kb
  have HKa := Lib.hid k1
  have HKb := Lib.hid k2
  have HB := Lib.hid kb
  have HW := Lib.hid hW
  have HRa := Lib.hid (ha.below kb)
  have HRb := Lib.hid (hb.below kb)
  have HAW := Lib.hid (fun w => awake_any w)
  have HGa := Lib.hid (fun w (h : Rs w aA an ac al) => great_any aR aN aS aB aC aT aU aK aL aQ aY aV aZ aA an ac aE aG al w h)
  have HGb := Lib.hid (fun w (h : Rs w bA bn bc bl) => great_any bR bN bS bB bC bT bU bK bL bQ bY bV bZ bA bn bc bE bG bl w h)
  have hga : (decide (al.length > 60) || Cmd.great ⟨aK, aL, aQ, aY, aV, aZ⟩) = false → aY.size ≤ 1073741824 := by
    intro h
    rw [Bool.or_eq_false_iff] at h
    have h2 := h.2
    unfold Cmd.great at h2
    rw [Bool.or_eq_false_iff] at h2
    have h3 := of_decide_eq_false h2.1
    simp only at h3
    omega
  generalize (decide (al.length > 60) || Cmd.great ⟨aK, aL, aQ, aY, aV, aZ⟩) = ga at HGa hga
  generalize (decide (bl.length > 60) || Cmd.great ⟨bK, bL, bQ, bY, bV, bZ⟩) = gb at HGb
  have hrr := fun (hy : aY.size ≤ 1073741824) w (h : Rs w aA an ac al) => refright_any aR aN aS aB aC aT aU aK aL aQ aY aV aZ aA an ac aE aG al w h hy
  have hck := fun w (h : Rs w aA an ac al) => rcheck_any aR aN aS aB aC aT aU aK aL aQ aY aV aZ aA an ac aE aG al w h
  have hs1 := fun w (h : Rs w aA an ac al) (h' : Rs w bA bn bc bl) => rsame_any aR aN aS aB aC aT aU aK aL aQ aY aV aZ aA an ac aE aG al bR bN bS bB bC bT bU bK bL bQ bY bV bZ bA bn bc bE bG bl w h h'
  have hs2 := fun w (h : Rs w aA an ac al) (h' : Rs w bA bn bc bl) => refrsame_any aR aN aS aB aC aT aU aK aL aQ aY aV aZ aA an ac aE aG al bR bN bS bB bC bT bU bK bL bQ bY bV bZ bA bn bc bE bG bl w h h'
  have hg1 := fun w (h : Rs w aA an ac al) (h' : Rs w bA bn bc bl) => goes_any aR aN aS aB aC aT aU aK aL aQ aY aV aZ aA an ac aE aG al bR bN bS bB bC bT bU bK bL bQ bY bV bZ bA bn bc bE bG bl w h h'
  have hg2 := fun w (h : Rs w aA an ac al) (h' : Rs w bA bn bc bl) => refgoes_any aR aN aS aB aC aT aU aK aL aQ aY aV aZ aA an ac aE aG al bR bN bS bB bC bT bU bK bL bQ bY bV bZ bA bn bc bE bG bl w h h'
  have hv : rchk ⟨(aR, aN), aS, (aB, aC), (aT, aU), ⟨aK, aL, aQ, aY, aV, aZ⟩, ⟨al, aE, aG⟩⟩ = if rgt ⟨(aR, aN), aS, (aB, aC), (aT, aU), ⟨aK, aL, aQ, aY, aV, aZ⟩, ⟨al, aE, aG⟩⟩ = true then 0 else 4 := rfl
  generalize rchk ⟨(aR, aN), aS, (aB, aC), (aT, aU), ⟨aK, aL, aQ, aY, aV, aZ⟩, ⟨al, aE, aG⟩⟩ = v at hck hv
  generalize rgt ⟨(aR, aN), aS, (aB, aC), (aT, aU), ⟨aK, aL, aQ, aY, aV, aZ⟩, ⟨al, aE, aG⟩⟩ = g at hrr hv
  generalize rsame ⟨(aR, aN), aS, (aB, aC), (aT, aU), ⟨aK, aL, aQ, aY, aV, aZ⟩, ⟨al, aE, aG⟩⟩ ⟨(bR, bN), bS, (bB, bC), (bT, bU), ⟨bK, bL, bQ, bY, bV, bZ⟩, ⟨bl, bE, bG⟩⟩ = s at hs1 hs2
  generalize goes ⟨(aR, aN), aS, (aB, aC), (aT, aU), ⟨aK, aL, aQ, aY, aV, aZ⟩, ⟨al, aE, aG⟩⟩ ⟨(bR, bN), bS, (bB, bC), (bT, bU), ⟨bK, bL, bQ, bY, bV, bZ⟩, ⟨bl, bE, bG⟩⟩ = t at hg1 hg2
  have HGA := Lib.hid hga
  have HRR := Lib.hid hrr
  have HCK := Lib.hid hck
  have HS1 := Lib.hid hs1
  have HS2 := Lib.hid hs2
  have HG1 := Lib.hid hg1
  have HG2 := Lib.hid hg2
  have HV := Lib.hid hv
  have HC := Lib.hid (Below.refl W.heap.size W)
  clear k1 k2 kb hW ha hb hga hrr hck hs1 hs2 hg1 hg2 hv
  go_enter Try.func3, Try.ntmps3
  go_upto_region 1 with fail
  rw [HW.out]
  go_wp2_with (first | (refine wpList_load_blk_w 32 _ rfl w.heap.size 32 #[.int .i64 aR, .int .i64 aN, .int .i64 aS, .int .i64 aB, .int .i64 aC, .int .i64 aT, .int .i64 aU, .int .i64 aK, .int .i64 aL, .int .i64 aQ, .string aY, .string aV, .int .i64 aZ, .slice aA an ac, .int .i64 aE, .int .i64 aG] _ rfl ?_ (HKa.out.bel HC.out) Try.underlying32 rfl (by kernel_rfl) ?_; (focus rfl)) | (refine wpList_load_blk_w 32 _ rfl (w.heap.size + 1) 32 #[.int .i64 bR, .int .i64 bN, .int .i64 bS, .int .i64 bB, .int .i64 bC, .int .i64 bT, .int .i64 bU, .int .i64 bK, .int .i64 bL, .int .i64 bQ, .string bY, .string bV, .int .i64 bZ, .slice bA bn bc, .int .i64 bE, .int .i64 bG] _ rfl ?_ (HKb.out.bel HC.out) Try.underlying32 rfl (by kernel_rfl) ?_; (focus rfl)))
  refine (HGa.out _ (HRa.out.below HC.out)).mono ?_
  rintro e u1 ⟨rfl, hb1⟩
  replace HC := Lib.hid (bel_trans HC.out hb1)
  clear hb1
  cases ga with
  | false =>
    go_wp2_with (first | (refine wpList_load_blk_w 32 _ rfl w.heap.size 32 #[.int .i64 aR, .int .i64 aN, .int .i64 aS, .int .i64 aB, .int .i64 aC, .int .i64 aT, .int .i64 aU, .int .i64 aK, .int .i64 aL, .int .i64 aQ, .string aY, .string aV, .int .i64 aZ, .slice aA an ac, .int .i64 aE, .int .i64 aG] _ rfl ?_ (HKa.out.bel HC.out) Try.underlying32 rfl (by kernel_rfl) ?_; (focus rfl)) | (refine wpList_load_blk_w 32 _ rfl (w.heap.size + 1) 32 #[.int .i64 bR, .int .i64 bN, .int .i64 bS, .int .i64 bB, .int .i64 bC, .int .i64 bT, .int .i64 bU, .int .i64 bK, .int .i64 bL, .int .i64 bQ, .string bY, .string bV, .int .i64 bZ, .slice bA bn bc, .int .i64 bE, .int .i64 bG] _ rfl ?_ (HKb.out.bel HC.out) Try.underlying32 rfl (by kernel_rfl) ?_; (focus rfl)))
    refine (HGb.out _ (HRb.out.below HC.out)).mono ?_
    rintro e u2 ⟨rfl, hb1⟩
    replace HC := Lib.hid (bel_trans HC.out hb1)
    clear hb1
    cases gb with
    | false =>
      have hr := HRR.out (HGA.out (by simp))
      have HR := Lib.hid hr
      clear hr HRR HGA
      go_upto_region 4 with fail
      go_wp2_with (first | (refine wpList_load_blk_w 32 _ rfl w.heap.size 32 #[.int .i64 aR, .int .i64 aN, .int .i64 aS, .int .i64 aB, .int .i64 aC, .int .i64 aT, .int .i64 aU, .int .i64 aK, .int .i64 aL, .int .i64 aQ, .string aY, .string aV, .int .i64 aZ, .slice aA an ac, .int .i64 aE, .int .i64 aG] _ rfl ?_ (HKa.out.bel HC.out) Try.underlying32 rfl (by kernel_rfl) ?_; (focus rfl)) | (refine wpList_load_blk_w 32 _ rfl (w.heap.size + 1) 32 #[.int .i64 bR, .int .i64 bN, .int .i64 bS, .int .i64 bB, .int .i64 bC, .int .i64 bT, .int .i64 bU, .int .i64 bK, .int .i64 bL, .int .i64 bQ, .string bY, .string bV, .int .i64 bZ, .slice bA bn bc, .int .i64 bE, .int .i64 bG] _ rfl ?_ (HKb.out.bel HC.out) Try.underlying32 rfl (by kernel_rfl) ?_; (focus rfl)))
      refine (HR.out _ (HRa.out.below HC.out)).mono ?_
      rintro e u3 ⟨rfl, hb1⟩
      replace HC := Lib.hid (bel_trans HC.out hb1)
      clear hb1
      cases g with
      | false =>
        have hv : v = 4 := HV.out
        subst hv
        clear HV
        go_upto_region 6 with fail
        replace HC := Lib.hid (Below.drew HC.out)
        refine wp_region_held_drew (S := (fun w' => Blk w' w.heap.size 32 #[.int .i64 aR, .int .i64 aN, .int .i64 aS, .int .i64 aB, .int .i64 aC, .int .i64 aT, .int .i64 aU, .int .i64 aK, .int .i64 aL, .int .i64 aQ, .string aY, .string aV, .int .i64 aZ, .slice aA an ac, .int .i64 aE, .int .i64 aG] ∧ Blk w' (w.heap.size + 1) 32 #[.int .i64 bR, .int .i64 bN, .int .i64 bS, .int .i64 bB, .int .i64 bC, .int .i64 bT, .int .i64 bU, .int .i64 bK, .int .i64 bL, .int .i64 bQ, .string bY, .string bV, .int .i64 bZ, .slice bA bn bc, .int .i64 bE, .int .i64 bG])) (by kernel_rfl) (by with_reducible exact ⟨HKa.out.bel HC.out, HKb.out.bel HC.out⟩) (fun hHeld => ?_)
        refine held_take (i := 0) (d := 16) (v := (.agg #[.int .i64 aR, .int .i64 aN, .int .i64 aS, .int .i64 aB, .int .i64 aC, .int .i64 aT, .int .i64 aU, .int .i64 aK, .int .i64 aL, .int .i64 aQ, .string aY, .string aV, .int .i64 aZ, .slice aA an ac, .int .i64 aE, .int .i64 aG])) rfl rfl (by kernel_rfl) (by kernel_rfl) (by kernel_rfl) (fun _ _ _ h => h) (by kernel_rfl) (run_load_blk 32 (.tmp 2) rfl w.heap.size 32 #[.int .i64 aR, .int .i64 aN, .int .i64 aS, .int .i64 aB, .int .i64 aC, .int .i64 aT, .int .i64 aU, .int .i64 aK, .int .i64 aL, .int .i64 aQ, .string aY, .string aV, .int .i64 aZ, .slice aA an ac, .int .i64 aE, .int .i64 aG] _ rfl (fun _ h => h.1) Try.underlying32 rfl (by kernel_rfl)) hHeld ?_
        try simp only [List.setIfInBounds_toArray, List.set_cons_zero, List.set_cons_succ]
        refine held_take (i := 2) (d := 18) (v := (.int .i64 4)) rfl rfl (by kernel_rfl) (by kernel_rfl) (by kernel_rfl) (fun _ _ _ h => h) (by kernel_rfl) (fun w hSw => by (obtain hS := hSw); go_simp) hHeld ?_
        try simp only [List.setIfInBounds_toArray, List.set_cons_zero, List.set_cons_succ]
        refine wpAnyH_ready (rs := [1]) (by kernel_rfl) (by simp) ?_
        refine AllReadyH.cons rfl (fun K hK => ?_) AllReadyH.nil
        go_simp
        go_at_call 9
        refine (HCK.out _ (HRa.out.below HC.out)).mono ?_
        rintro e v1 ⟨rfl, hb1⟩
        replace HC := Lib.hid (bel_trans HC.out hb1)
        clear hb1
        refine hK.out _ _ (by with_reducible exact ⟨HKa.out.bel HC.out, HKb.out.bel HC.out⟩) (fun hHeld => ?_)
        clear hK K
        refine held_take (i := 3) (d := 19) (v := (.bool true)) rfl rfl (by kernel_rfl) (by kernel_rfl) (by kernel_rfl) (fun _ _ _ h => h) (by kernel_rfl) (fun w hSw => by (obtain hS := hSw); go_simp) hHeld ?_
        try simp only [List.setIfInBounds_toArray, List.set_cons_zero, List.set_cons_succ]
        refine held_take (i := 4) (d := 20) (v := (.bool true)) rfl rfl (by kernel_rfl) (by kernel_rfl) (by kernel_rfl) (fun _ _ _ h => h) (by kernel_rfl) (fun w hSw => by (obtain hS := hSw); go_simp) hHeld ?_
        try simp only [List.setIfInBounds_toArray, List.set_cons_zero, List.set_cons_succ]
        refine held_take (i := 5) (d := 21) (v := (.agg #[.int .i64 aR, .int .i64 aN, .int .i64 aS, .int .i64 aB, .int .i64 aC, .int .i64 aT, .int .i64 aU, .int .i64 aK, .int .i64 aL, .int .i64 aQ, .string aY, .string aV, .int .i64 aZ, .slice aA an ac, .int .i64 aE, .int .i64 aG])) rfl rfl (by kernel_rfl) (by kernel_rfl) (by kernel_rfl) (fun _ _ _ h => h) (by kernel_rfl) (run_load_blk 32 (.tmp 2) rfl w.heap.size 32 #[.int .i64 aR, .int .i64 aN, .int .i64 aS, .int .i64 aB, .int .i64 aC, .int .i64 aT, .int .i64 aU, .int .i64 aK, .int .i64 aL, .int .i64 aQ, .string aY, .string aV, .int .i64 aZ, .slice aA an ac, .int .i64 aE, .int .i64 aG] _ rfl (fun _ h => h.1) Try.underlying32 rfl (by kernel_rfl)) hHeld ?_
        try simp only [List.setIfInBounds_toArray, List.set_cons_zero, List.set_cons_succ]
        refine held_take (i := 6) (d := 22) (v := (.agg #[.int .i64 bR, .int .i64 bN, .int .i64 bS, .int .i64 bB, .int .i64 bC, .int .i64 bT, .int .i64 bU, .int .i64 bK, .int .i64 bL, .int .i64 bQ, .string bY, .string bV, .int .i64 bZ, .slice bA bn bc, .int .i64 bE, .int .i64 bG])) rfl rfl (by kernel_rfl) (by kernel_rfl) (by kernel_rfl) (fun _ _ _ h => h) (by kernel_rfl) (run_load_blk 32 (.tmp 3) rfl (w.heap.size + 1) 32 #[.int .i64 bR, .int .i64 bN, .int .i64 bS, .int .i64 bB, .int .i64 bC, .int .i64 bT, .int .i64 bU, .int .i64 bK, .int .i64 bL, .int .i64 bQ, .string bY, .string bV, .int .i64 bZ, .slice bA bn bc, .int .i64 bE, .int .i64 bG] _ rfl (fun _ h => h.2) Try.underlying32 rfl (by kernel_rfl)) hHeld ?_
        try simp only [List.setIfInBounds_toArray, List.set_cons_zero, List.set_cons_succ]
        refine held_take (i := 8) (d := 24) (v := (.agg #[.int .i64 aR, .int .i64 aN, .int .i64 aS, .int .i64 aB, .int .i64 aC, .int .i64 aT, .int .i64 aU, .int .i64 aK, .int .i64 aL, .int .i64 aQ, .string aY, .string aV, .int .i64 aZ, .slice aA an ac, .int .i64 aE, .int .i64 aG])) rfl rfl (by kernel_rfl) (by kernel_rfl) (by kernel_rfl) (fun _ _ _ h => h) (by kernel_rfl) (run_load_blk 32 (.tmp 2) rfl w.heap.size 32 #[.int .i64 aR, .int .i64 aN, .int .i64 aS, .int .i64 aB, .int .i64 aC, .int .i64 aT, .int .i64 aU, .int .i64 aK, .int .i64 aL, .int .i64 aQ, .string aY, .string aV, .int .i64 aZ, .slice aA an ac, .int .i64 aE, .int .i64 aG] _ rfl (fun _ h => h.1) Try.underlying32 rfl (by kernel_rfl)) hHeld ?_
        try simp only [List.setIfInBounds_toArray, List.set_cons_zero, List.set_cons_succ]
        refine held_take (i := 9) (d := 25) (v := (.agg #[.int .i64 bR, .int .i64 bN, .int .i64 bS, .int .i64 bB, .int .i64 bC, .int .i64 bT, .int .i64 bU, .int .i64 bK, .int .i64 bL, .int .i64 bQ, .string bY, .string bV, .int .i64 bZ, .slice bA bn bc, .int .i64 bE, .int .i64 bG])) rfl rfl (by kernel_rfl) (by kernel_rfl) (by kernel_rfl) (fun _ _ _ h => h) (by kernel_rfl) (run_load_blk 32 (.tmp 3) rfl (w.heap.size + 1) 32 #[.int .i64 bR, .int .i64 bN, .int .i64 bS, .int .i64 bB, .int .i64 bC, .int .i64 bT, .int .i64 bU, .int .i64 bK, .int .i64 bL, .int .i64 bQ, .string bY, .string bV, .int .i64 bZ, .slice bA bn bc, .int .i64 bE, .int .i64 bG] _ rfl (fun _ h => h.2) Try.underlying32 rfl (by kernel_rfl)) hHeld ?_
        try simp only [List.setIfInBounds_toArray, List.set_cons_zero, List.set_cons_succ]
        refine wpAnyH_ready (rs := [7]) (by kernel_rfl) (by simp) ?_
        refine AllReadyH.cons rfl (fun K hK => ?_) AllReadyH.nil
        go_simp
        go_at_call 10
        refine (HS1.out _ (HRa.out.below HC.out) (HRb.out.below HC.out)).mono ?_
        rintro e v1 ⟨rfl, hb1⟩
        replace HC := Lib.hid (bel_trans HC.out hb1)
        clear hb1
        refine hK.out _ _ (by with_reducible exact ⟨HKa.out.bel HC.out, HKb.out.bel HC.out⟩) (fun hHeld => ?_)
        clear hK K
        refine wpAnyH_ready (rs := [10]) (by kernel_rfl) (by simp) ?_
        refine AllReadyH.cons rfl (fun K hK => ?_) AllReadyH.nil
        go_simp
        go_at_call 11
        refine (HS2.out _ (HRa.out.below HC.out) (HRb.out.below HC.out)).mono ?_
        rintro e v1 ⟨rfl, hb1⟩
        replace HC := Lib.hid (bel_trans HC.out hb1)
        clear hb1
        refine hK.out _ _ (by with_reducible exact ⟨HKa.out.bel HC.out, HKb.out.bel HC.out⟩) (fun hHeld => ?_)
        clear hK K
        refine held_take (i := 11) (d := 27) (v := (.bool true)) rfl rfl (by kernel_rfl) (by kernel_rfl) (by kernel_rfl) (fun _ _ _ h => h) (by kernel_rfl) (fun w hSw => by (obtain hS := hSw); go_simp) hHeld ?_
        try simp only [List.setIfInBounds_toArray, List.set_cons_zero, List.set_cons_succ]
        refine held_take (i := 12) (d := 28) (v := (.bool true)) rfl rfl (by kernel_rfl) (by kernel_rfl) (by kernel_rfl) (fun _ _ _ h => h) (by kernel_rfl) (fun w hSw => by (obtain hS := hSw); go_simp) hHeld ?_
        try simp only [List.setIfInBounds_toArray, List.set_cons_zero, List.set_cons_succ]
        refine held_take (i := 13) (d := 29) (v := (.bool true)) rfl rfl (by kernel_rfl) (by kernel_rfl) (by kernel_rfl) (fun _ _ _ h => h) (by kernel_rfl) (fun w hSw => by (obtain hS := hSw); go_simp) hHeld ?_
        try simp only [List.setIfInBounds_toArray, List.set_cons_zero, List.set_cons_succ]
        refine held_take (i := 14) (d := 30) (v := (.agg #[.int .i64 aR, .int .i64 aN, .int .i64 aS, .int .i64 aB, .int .i64 aC, .int .i64 aT, .int .i64 aU, .int .i64 aK, .int .i64 aL, .int .i64 aQ, .string aY, .string aV, .int .i64 aZ, .slice aA an ac, .int .i64 aE, .int .i64 aG])) rfl rfl (by kernel_rfl) (by kernel_rfl) (by kernel_rfl) (fun _ _ _ h => h) (by kernel_rfl) (run_load_blk 32 (.tmp 2) rfl w.heap.size 32 #[.int .i64 aR, .int .i64 aN, .int .i64 aS, .int .i64 aB, .int .i64 aC, .int .i64 aT, .int .i64 aU, .int .i64 aK, .int .i64 aL, .int .i64 aQ, .string aY, .string aV, .int .i64 aZ, .slice aA an ac, .int .i64 aE, .int .i64 aG] _ rfl (fun _ h => h.1) Try.underlying32 rfl (by kernel_rfl)) hHeld ?_
        try simp only [List.setIfInBounds_toArray, List.set_cons_zero, List.set_cons_succ]
        refine held_take (i := 15) (d := 31) (v := (.agg #[.int .i64 bR, .int .i64 bN, .int .i64 bS, .int .i64 bB, .int .i64 bC, .int .i64 bT, .int .i64 bU, .int .i64 bK, .int .i64 bL, .int .i64 bQ, .string bY, .string bV, .int .i64 bZ, .slice bA bn bc, .int .i64 bE, .int .i64 bG])) rfl rfl (by kernel_rfl) (by kernel_rfl) (by kernel_rfl) (fun _ _ _ h => h) (by kernel_rfl) (run_load_blk 32 (.tmp 3) rfl (w.heap.size + 1) 32 #[.int .i64 bR, .int .i64 bN, .int .i64 bS, .int .i64 bB, .int .i64 bC, .int .i64 bT, .int .i64 bU, .int .i64 bK, .int .i64 bL, .int .i64 bQ, .string bY, .string bV, .int .i64 bZ, .slice bA bn bc, .int .i64 bE, .int .i64 bG] _ rfl (fun _ h => h.2) Try.underlying32 rfl (by kernel_rfl)) hHeld ?_
        try simp only [List.setIfInBounds_toArray, List.set_cons_zero, List.set_cons_succ]
        refine held_take (i := 17) (d := 33) (v := (.agg #[.int .i64 aR, .int .i64 aN, .int .i64 aS, .int .i64 aB, .int .i64 aC, .int .i64 aT, .int .i64 aU, .int .i64 aK, .int .i64 aL, .int .i64 aQ, .string aY, .string aV, .int .i64 aZ, .slice aA an ac, .int .i64 aE, .int .i64 aG])) rfl rfl (by kernel_rfl) (by kernel_rfl) (by kernel_rfl) (fun _ _ _ h => h) (by kernel_rfl) (run_load_blk 32 (.tmp 2) rfl w.heap.size 32 #[.int .i64 aR, .int .i64 aN, .int .i64 aS, .int .i64 aB, .int .i64 aC, .int .i64 aT, .int .i64 aU, .int .i64 aK, .int .i64 aL, .int .i64 aQ, .string aY, .string aV, .int .i64 aZ, .slice aA an ac, .int .i64 aE, .int .i64 aG] _ rfl (fun _ h => h.1) Try.underlying32 rfl (by kernel_rfl)) hHeld ?_
        try simp only [List.setIfInBounds_toArray, List.set_cons_zero, List.set_cons_succ]
        refine held_take (i := 18) (d := 34) (v := (.agg #[.int .i64 bR, .int .i64 bN, .int .i64 bS, .int .i64 bB, .int .i64 bC, .int .i64 bT, .int .i64 bU, .int .i64 bK, .int .i64 bL, .int .i64 bQ, .string bY, .string bV, .int .i64 bZ, .slice bA bn bc, .int .i64 bE, .int .i64 bG])) rfl rfl (by kernel_rfl) (by kernel_rfl) (by kernel_rfl) (fun _ _ _ h => h) (by kernel_rfl) (run_load_blk 32 (.tmp 3) rfl (w.heap.size + 1) 32 #[.int .i64 bR, .int .i64 bN, .int .i64 bS, .int .i64 bB, .int .i64 bC, .int .i64 bT, .int .i64 bU, .int .i64 bK, .int .i64 bL, .int .i64 bQ, .string bY, .string bV, .int .i64 bZ, .slice bA bn bc, .int .i64 bE, .int .i64 bG] _ rfl (fun _ h => h.2) Try.underlying32 rfl (by kernel_rfl)) hHeld ?_
        try simp only [List.setIfInBounds_toArray, List.set_cons_zero, List.set_cons_succ]
        refine wpAnyH_ready (rs := [16]) (by kernel_rfl) (by simp) ?_
        refine AllReadyH.cons rfl (fun K hK => ?_) AllReadyH.nil
        go_simp
        go_at_call 12
        refine (HG1.out _ (HRa.out.below HC.out) (HRb.out.below HC.out)).mono ?_
        rintro e v1 ⟨rfl, hb1⟩
        replace HC := Lib.hid (bel_trans HC.out hb1)
        clear hb1
        refine hK.out _ _ (by with_reducible exact ⟨HKa.out.bel HC.out, HKb.out.bel HC.out⟩) (fun hHeld => ?_)
        clear hK K
        refine wpAnyH_ready (rs := [19]) (by kernel_rfl) (by simp) ?_
        refine AllReadyH.cons rfl (fun K hK => ?_) AllReadyH.nil
        go_simp
        go_at_call 13
        refine (HG2.out _ (HRa.out.below HC.out) (HRb.out.below HC.out)).mono ?_
        rintro e v1 ⟨rfl, hb1⟩
        replace HC := Lib.hid (bel_trans HC.out hb1)
        clear hb1
        refine hK.out _ _ (by with_reducible exact ⟨HKa.out.bel HC.out, HKb.out.bel HC.out⟩) (fun hHeld => ?_)
        clear hK K
        refine held_take (i := 20) (d := 36) (v := (.bool true)) rfl rfl (by kernel_rfl) (by kernel_rfl) (by kernel_rfl) (fun _ _ _ h => h) (by kernel_rfl) (fun w hSw => by (obtain hS := hSw); go_simp) hHeld ?_
        try simp only [List.setIfInBounds_toArray, List.set_cons_zero, List.set_cons_succ]
        refine held_take (i := 21) (d := 37) (v := (.bool true)) rfl rfl (by kernel_rfl) (by kernel_rfl) (by kernel_rfl) (fun _ _ _ h => h) (by kernel_rfl) (fun w hSw => by (obtain hS := hSw); go_simp) hHeld ?_
        try simp only [List.setIfInBounds_toArray, List.set_cons_zero, List.set_cons_succ]
        refine held_take (i := 22) (d := 38) (v := (.bool true)) rfl rfl (by kernel_rfl) (by kernel_rfl) (by kernel_rfl) (fun _ _ _ h => h) (by kernel_rfl) (fun w hSw => by (obtain hS := hSw); go_simp) hHeld ?_
        try simp only [List.setIfInBounds_toArray, List.set_cons_zero, List.set_cons_succ]
        refine wpAnyH_ready (rs := [23]) (by kernel_rfl) (by simp) ?_
        refine AllReadyH.cons rfl (fun K hK => ?_) AllReadyH.nil
        go_simp
        go_at_call 7
        refine (HAW.out _).mono ?_
        rintro e v1 ⟨rfl, hb1⟩
        replace HC := Lib.hid (bel_trans HC.out hb1)
        clear hb1
        refine hK.out _ _ (by with_reducible exact ⟨HKa.out.bel HC.out, HKb.out.bel HC.out⟩) (fun hHeld => ?_)
        clear hK K
        refine held_take (i := 24) (d := 40) (v := (.bool true)) rfl rfl (by kernel_rfl) (by kernel_rfl) (by kernel_rfl) (fun _ _ _ h => h) (by kernel_rfl) (fun w hSw => by (obtain hS := hSw); go_simp) hHeld ?_
        try simp only [List.setIfInBounds_toArray, List.set_cons_zero, List.set_cons_succ]
        refine held_take (i := 25) (d := 4) (v := (.bool true)) rfl rfl (by kernel_rfl) (by kernel_rfl) (by kernel_rfl) (fun _ _ _ h => h) (by kernel_rfl) (fun w hSw => by (obtain hS := hSw); go_simp) hHeld ?_
        try simp only [List.setIfInBounds_toArray, List.set_cons_zero, List.set_cons_succ]
        refine wpAnyH_done (by kernel_rfl) ?_ _
        go_wp2_with fail
        go_ret
        exact ⟨rfl, HB.out.trans (HC.out.mono HB.out.size)⟩
      | true =>
        have hv : v = 0 := HV.out
        subst hv
        clear HV
        go_upto_region 6 with fail
        replace HC := Lib.hid (Below.drew HC.out)
        refine wp_region_held_drew (S := (fun w' => Blk w' w.heap.size 32 #[.int .i64 aR, .int .i64 aN, .int .i64 aS, .int .i64 aB, .int .i64 aC, .int .i64 aT, .int .i64 aU, .int .i64 aK, .int .i64 aL, .int .i64 aQ, .string aY, .string aV, .int .i64 aZ, .slice aA an ac, .int .i64 aE, .int .i64 aG] ∧ Blk w' (w.heap.size + 1) 32 #[.int .i64 bR, .int .i64 bN, .int .i64 bS, .int .i64 bB, .int .i64 bC, .int .i64 bT, .int .i64 bU, .int .i64 bK, .int .i64 bL, .int .i64 bQ, .string bY, .string bV, .int .i64 bZ, .slice bA bn bc, .int .i64 bE, .int .i64 bG])) (by kernel_rfl) (by with_reducible exact ⟨HKa.out.bel HC.out, HKb.out.bel HC.out⟩) (fun hHeld => ?_)
        refine held_take (i := 0) (d := 16) (v := (.agg #[.int .i64 aR, .int .i64 aN, .int .i64 aS, .int .i64 aB, .int .i64 aC, .int .i64 aT, .int .i64 aU, .int .i64 aK, .int .i64 aL, .int .i64 aQ, .string aY, .string aV, .int .i64 aZ, .slice aA an ac, .int .i64 aE, .int .i64 aG])) rfl rfl (by kernel_rfl) (by kernel_rfl) (by kernel_rfl) (fun _ _ _ h => h) (by kernel_rfl) (run_load_blk 32 (.tmp 2) rfl w.heap.size 32 #[.int .i64 aR, .int .i64 aN, .int .i64 aS, .int .i64 aB, .int .i64 aC, .int .i64 aT, .int .i64 aU, .int .i64 aK, .int .i64 aL, .int .i64 aQ, .string aY, .string aV, .int .i64 aZ, .slice aA an ac, .int .i64 aE, .int .i64 aG] _ rfl (fun _ h => h.1) Try.underlying32 rfl (by kernel_rfl)) hHeld ?_
        try simp only [List.setIfInBounds_toArray, List.set_cons_zero, List.set_cons_succ]
        refine held_take (i := 2) (d := 18) (v := (.int .i64 0)) rfl rfl (by kernel_rfl) (by kernel_rfl) (by kernel_rfl) (fun _ _ _ h => h) (by kernel_rfl) (fun w hSw => by (obtain hS := hSw); go_simp) hHeld ?_
        try simp only [List.setIfInBounds_toArray, List.set_cons_zero, List.set_cons_succ]
        refine wpAnyH_ready (rs := [1]) (by kernel_rfl) (by simp) ?_
        refine AllReadyH.cons rfl (fun K hK => ?_) AllReadyH.nil
        go_simp
        go_at_call 9
        refine (HCK.out _ (HRa.out.below HC.out)).mono ?_
        rintro e v1 ⟨rfl, hb1⟩
        replace HC := Lib.hid (bel_trans HC.out hb1)
        clear hb1
        refine hK.out _ _ (by with_reducible exact ⟨HKa.out.bel HC.out, HKb.out.bel HC.out⟩) (fun hHeld => ?_)
        clear hK K
        refine held_take (i := 3) (d := 19) (v := (.bool true)) rfl rfl (by kernel_rfl) (by kernel_rfl) (by kernel_rfl) (fun _ _ _ h => h) (by kernel_rfl) (fun w hSw => by (obtain hS := hSw); go_simp) hHeld ?_
        try simp only [List.setIfInBounds_toArray, List.set_cons_zero, List.set_cons_succ]
        refine held_take (i := 4) (d := 20) (v := (.bool true)) rfl rfl (by kernel_rfl) (by kernel_rfl) (by kernel_rfl) (fun _ _ _ h => h) (by kernel_rfl) (fun w hSw => by (obtain hS := hSw); go_simp) hHeld ?_
        try simp only [List.setIfInBounds_toArray, List.set_cons_zero, List.set_cons_succ]
        refine held_take (i := 5) (d := 21) (v := (.agg #[.int .i64 aR, .int .i64 aN, .int .i64 aS, .int .i64 aB, .int .i64 aC, .int .i64 aT, .int .i64 aU, .int .i64 aK, .int .i64 aL, .int .i64 aQ, .string aY, .string aV, .int .i64 aZ, .slice aA an ac, .int .i64 aE, .int .i64 aG])) rfl rfl (by kernel_rfl) (by kernel_rfl) (by kernel_rfl) (fun _ _ _ h => h) (by kernel_rfl) (run_load_blk 32 (.tmp 2) rfl w.heap.size 32 #[.int .i64 aR, .int .i64 aN, .int .i64 aS, .int .i64 aB, .int .i64 aC, .int .i64 aT, .int .i64 aU, .int .i64 aK, .int .i64 aL, .int .i64 aQ, .string aY, .string aV, .int .i64 aZ, .slice aA an ac, .int .i64 aE, .int .i64 aG] _ rfl (fun _ h => h.1) Try.underlying32 rfl (by kernel_rfl)) hHeld ?_
        try simp only [List.setIfInBounds_toArray, List.set_cons_zero, List.set_cons_succ]
        refine held_take (i := 6) (d := 22) (v := (.agg #[.int .i64 bR, .int .i64 bN, .int .i64 bS, .int .i64 bB, .int .i64 bC, .int .i64 bT, .int .i64 bU, .int .i64 bK, .int .i64 bL, .int .i64 bQ, .string bY, .string bV, .int .i64 bZ, .slice bA bn bc, .int .i64 bE, .int .i64 bG])) rfl rfl (by kernel_rfl) (by kernel_rfl) (by kernel_rfl) (fun _ _ _ h => h) (by kernel_rfl) (run_load_blk 32 (.tmp 3) rfl (w.heap.size + 1) 32 #[.int .i64 bR, .int .i64 bN, .int .i64 bS, .int .i64 bB, .int .i64 bC, .int .i64 bT, .int .i64 bU, .int .i64 bK, .int .i64 bL, .int .i64 bQ, .string bY, .string bV, .int .i64 bZ, .slice bA bn bc, .int .i64 bE, .int .i64 bG] _ rfl (fun _ h => h.2) Try.underlying32 rfl (by kernel_rfl)) hHeld ?_
        try simp only [List.setIfInBounds_toArray, List.set_cons_zero, List.set_cons_succ]
        refine held_take (i := 8) (d := 24) (v := (.agg #[.int .i64 aR, .int .i64 aN, .int .i64 aS, .int .i64 aB, .int .i64 aC, .int .i64 aT, .int .i64 aU, .int .i64 aK, .int .i64 aL, .int .i64 aQ, .string aY, .string aV, .int .i64 aZ, .slice aA an ac, .int .i64 aE, .int .i64 aG])) rfl rfl (by kernel_rfl) (by kernel_rfl) (by kernel_rfl) (fun _ _ _ h => h) (by kernel_rfl) (run_load_blk 32 (.tmp 2) rfl w.heap.size 32 #[.int .i64 aR, .int .i64 aN, .int .i64 aS, .int .i64 aB, .int .i64 aC, .int .i64 aT, .int .i64 aU, .int .i64 aK, .int .i64 aL, .int .i64 aQ, .string aY, .string aV, .int .i64 aZ, .slice aA an ac, .int .i64 aE, .int .i64 aG] _ rfl (fun _ h => h.1) Try.underlying32 rfl (by kernel_rfl)) hHeld ?_
        try simp only [List.setIfInBounds_toArray, List.set_cons_zero, List.set_cons_succ]
        refine held_take (i := 9) (d := 25) (v := (.agg #[.int .i64 bR, .int .i64 bN, .int .i64 bS, .int .i64 bB, .int .i64 bC, .int .i64 bT, .int .i64 bU, .int .i64 bK, .int .i64 bL, .int .i64 bQ, .string bY, .string bV, .int .i64 bZ, .slice bA bn bc, .int .i64 bE, .int .i64 bG])) rfl rfl (by kernel_rfl) (by kernel_rfl) (by kernel_rfl) (fun _ _ _ h => h) (by kernel_rfl) (run_load_blk 32 (.tmp 3) rfl (w.heap.size + 1) 32 #[.int .i64 bR, .int .i64 bN, .int .i64 bS, .int .i64 bB, .int .i64 bC, .int .i64 bT, .int .i64 bU, .int .i64 bK, .int .i64 bL, .int .i64 bQ, .string bY, .string bV, .int .i64 bZ, .slice bA bn bc, .int .i64 bE, .int .i64 bG] _ rfl (fun _ h => h.2) Try.underlying32 rfl (by kernel_rfl)) hHeld ?_
        try simp only [List.setIfInBounds_toArray, List.set_cons_zero, List.set_cons_succ]
        refine wpAnyH_ready (rs := [7]) (by kernel_rfl) (by simp) ?_
        refine AllReadyH.cons rfl (fun K hK => ?_) AllReadyH.nil
        go_simp
        go_at_call 10
        refine (HS1.out _ (HRa.out.below HC.out) (HRb.out.below HC.out)).mono ?_
        rintro e v1 ⟨rfl, hb1⟩
        replace HC := Lib.hid (bel_trans HC.out hb1)
        clear hb1
        refine hK.out _ _ (by with_reducible exact ⟨HKa.out.bel HC.out, HKb.out.bel HC.out⟩) (fun hHeld => ?_)
        clear hK K
        refine wpAnyH_ready (rs := [10]) (by kernel_rfl) (by simp) ?_
        refine AllReadyH.cons rfl (fun K hK => ?_) AllReadyH.nil
        go_simp
        go_at_call 11
        refine (HS2.out _ (HRa.out.below HC.out) (HRb.out.below HC.out)).mono ?_
        rintro e v1 ⟨rfl, hb1⟩
        replace HC := Lib.hid (bel_trans HC.out hb1)
        clear hb1
        refine hK.out _ _ (by with_reducible exact ⟨HKa.out.bel HC.out, HKb.out.bel HC.out⟩) (fun hHeld => ?_)
        clear hK K
        refine held_take (i := 11) (d := 27) (v := (.bool true)) rfl rfl (by kernel_rfl) (by kernel_rfl) (by kernel_rfl) (fun _ _ _ h => h) (by kernel_rfl) (fun w hSw => by (obtain hS := hSw); go_simp) hHeld ?_
        try simp only [List.setIfInBounds_toArray, List.set_cons_zero, List.set_cons_succ]
        refine held_take (i := 12) (d := 28) (v := (.bool true)) rfl rfl (by kernel_rfl) (by kernel_rfl) (by kernel_rfl) (fun _ _ _ h => h) (by kernel_rfl) (fun w hSw => by (obtain hS := hSw); go_simp) hHeld ?_
        try simp only [List.setIfInBounds_toArray, List.set_cons_zero, List.set_cons_succ]
        refine held_take (i := 13) (d := 29) (v := (.bool true)) rfl rfl (by kernel_rfl) (by kernel_rfl) (by kernel_rfl) (fun _ _ _ h => h) (by kernel_rfl) (fun w hSw => by (obtain hS := hSw); go_simp) hHeld ?_
        try simp only [List.setIfInBounds_toArray, List.set_cons_zero, List.set_cons_succ]
        refine held_take (i := 14) (d := 30) (v := (.agg #[.int .i64 aR, .int .i64 aN, .int .i64 aS, .int .i64 aB, .int .i64 aC, .int .i64 aT, .int .i64 aU, .int .i64 aK, .int .i64 aL, .int .i64 aQ, .string aY, .string aV, .int .i64 aZ, .slice aA an ac, .int .i64 aE, .int .i64 aG])) rfl rfl (by kernel_rfl) (by kernel_rfl) (by kernel_rfl) (fun _ _ _ h => h) (by kernel_rfl) (run_load_blk 32 (.tmp 2) rfl w.heap.size 32 #[.int .i64 aR, .int .i64 aN, .int .i64 aS, .int .i64 aB, .int .i64 aC, .int .i64 aT, .int .i64 aU, .int .i64 aK, .int .i64 aL, .int .i64 aQ, .string aY, .string aV, .int .i64 aZ, .slice aA an ac, .int .i64 aE, .int .i64 aG] _ rfl (fun _ h => h.1) Try.underlying32 rfl (by kernel_rfl)) hHeld ?_
        try simp only [List.setIfInBounds_toArray, List.set_cons_zero, List.set_cons_succ]
        refine held_take (i := 15) (d := 31) (v := (.agg #[.int .i64 bR, .int .i64 bN, .int .i64 bS, .int .i64 bB, .int .i64 bC, .int .i64 bT, .int .i64 bU, .int .i64 bK, .int .i64 bL, .int .i64 bQ, .string bY, .string bV, .int .i64 bZ, .slice bA bn bc, .int .i64 bE, .int .i64 bG])) rfl rfl (by kernel_rfl) (by kernel_rfl) (by kernel_rfl) (fun _ _ _ h => h) (by kernel_rfl) (run_load_blk 32 (.tmp 3) rfl (w.heap.size + 1) 32 #[.int .i64 bR, .int .i64 bN, .int .i64 bS, .int .i64 bB, .int .i64 bC, .int .i64 bT, .int .i64 bU, .int .i64 bK, .int .i64 bL, .int .i64 bQ, .string bY, .string bV, .int .i64 bZ, .slice bA bn bc, .int .i64 bE, .int .i64 bG] _ rfl (fun _ h => h.2) Try.underlying32 rfl (by kernel_rfl)) hHeld ?_
        try simp only [List.setIfInBounds_toArray, List.set_cons_zero, List.set_cons_succ]
        refine held_take (i := 17) (d := 33) (v := (.agg #[.int .i64 aR, .int .i64 aN, .int .i64 aS, .int .i64 aB, .int .i64 aC, .int .i64 aT, .int .i64 aU, .int .i64 aK, .int .i64 aL, .int .i64 aQ, .string aY, .string aV, .int .i64 aZ, .slice aA an ac, .int .i64 aE, .int .i64 aG])) rfl rfl (by kernel_rfl) (by kernel_rfl) (by kernel_rfl) (fun _ _ _ h => h) (by kernel_rfl) (run_load_blk 32 (.tmp 2) rfl w.heap.size 32 #[.int .i64 aR, .int .i64 aN, .int .i64 aS, .int .i64 aB, .int .i64 aC, .int .i64 aT, .int .i64 aU, .int .i64 aK, .int .i64 aL, .int .i64 aQ, .string aY, .string aV, .int .i64 aZ, .slice aA an ac, .int .i64 aE, .int .i64 aG] _ rfl (fun _ h => h.1) Try.underlying32 rfl (by kernel_rfl)) hHeld ?_
        try simp only [List.setIfInBounds_toArray, List.set_cons_zero, List.set_cons_succ]
        refine held_take (i := 18) (d := 34) (v := (.agg #[.int .i64 bR, .int .i64 bN, .int .i64 bS, .int .i64 bB, .int .i64 bC, .int .i64 bT, .int .i64 bU, .int .i64 bK, .int .i64 bL, .int .i64 bQ, .string bY, .string bV, .int .i64 bZ, .slice bA bn bc, .int .i64 bE, .int .i64 bG])) rfl rfl (by kernel_rfl) (by kernel_rfl) (by kernel_rfl) (fun _ _ _ h => h) (by kernel_rfl) (run_load_blk 32 (.tmp 3) rfl (w.heap.size + 1) 32 #[.int .i64 bR, .int .i64 bN, .int .i64 bS, .int .i64 bB, .int .i64 bC, .int .i64 bT, .int .i64 bU, .int .i64 bK, .int .i64 bL, .int .i64 bQ, .string bY, .string bV, .int .i64 bZ, .slice bA bn bc, .int .i64 bE, .int .i64 bG] _ rfl (fun _ h => h.2) Try.underlying32 rfl (by kernel_rfl)) hHeld ?_
        try simp only [List.setIfInBounds_toArray, List.set_cons_zero, List.set_cons_succ]
        refine wpAnyH_ready (rs := [16]) (by kernel_rfl) (by simp) ?_
        refine AllReadyH.cons rfl (fun K hK => ?_) AllReadyH.nil
        go_simp
        go_at_call 12
        refine (HG1.out _ (HRa.out.below HC.out) (HRb.out.below HC.out)).mono ?_
        rintro e v1 ⟨rfl, hb1⟩
        replace HC := Lib.hid (bel_trans HC.out hb1)
        clear hb1
        refine hK.out _ _ (by with_reducible exact ⟨HKa.out.bel HC.out, HKb.out.bel HC.out⟩) (fun hHeld => ?_)
        clear hK K
        refine wpAnyH_ready (rs := [19]) (by kernel_rfl) (by simp) ?_
        refine AllReadyH.cons rfl (fun K hK => ?_) AllReadyH.nil
        go_simp
        go_at_call 13
        refine (HG2.out _ (HRa.out.below HC.out) (HRb.out.below HC.out)).mono ?_
        rintro e v1 ⟨rfl, hb1⟩
        replace HC := Lib.hid (bel_trans HC.out hb1)
        clear hb1
        refine hK.out _ _ (by with_reducible exact ⟨HKa.out.bel HC.out, HKb.out.bel HC.out⟩) (fun hHeld => ?_)
        clear hK K
        refine held_take (i := 20) (d := 36) (v := (.bool true)) rfl rfl (by kernel_rfl) (by kernel_rfl) (by kernel_rfl) (fun _ _ _ h => h) (by kernel_rfl) (fun w hSw => by (obtain hS := hSw); go_simp) hHeld ?_
        try simp only [List.setIfInBounds_toArray, List.set_cons_zero, List.set_cons_succ]
        refine held_take (i := 21) (d := 37) (v := (.bool true)) rfl rfl (by kernel_rfl) (by kernel_rfl) (by kernel_rfl) (fun _ _ _ h => h) (by kernel_rfl) (fun w hSw => by (obtain hS := hSw); go_simp) hHeld ?_
        try simp only [List.setIfInBounds_toArray, List.set_cons_zero, List.set_cons_succ]
        refine held_take (i := 22) (d := 38) (v := (.bool true)) rfl rfl (by kernel_rfl) (by kernel_rfl) (by kernel_rfl) (fun _ _ _ h => h) (by kernel_rfl) (fun w hSw => by (obtain hS := hSw); go_simp) hHeld ?_
        try simp only [List.setIfInBounds_toArray, List.set_cons_zero, List.set_cons_succ]
        refine wpAnyH_ready (rs := [23]) (by kernel_rfl) (by simp) ?_
        refine AllReadyH.cons rfl (fun K hK => ?_) AllReadyH.nil
        go_simp
        go_at_call 7
        refine (HAW.out _).mono ?_
        rintro e v1 ⟨rfl, hb1⟩
        replace HC := Lib.hid (bel_trans HC.out hb1)
        clear hb1
        refine hK.out _ _ (by with_reducible exact ⟨HKa.out.bel HC.out, HKb.out.bel HC.out⟩) (fun hHeld => ?_)
        clear hK K
        refine held_take (i := 24) (d := 40) (v := (.bool true)) rfl rfl (by kernel_rfl) (by kernel_rfl) (by kernel_rfl) (fun _ _ _ h => h) (by kernel_rfl) (fun w hSw => by (obtain hS := hSw); go_simp) hHeld ?_
        try simp only [List.setIfInBounds_toArray, List.set_cons_zero, List.set_cons_succ]
        refine held_take (i := 25) (d := 4) (v := (.bool true)) rfl rfl (by kernel_rfl) (by kernel_rfl) (by kernel_rfl) (fun _ _ _ h => h) (by kernel_rfl) (fun w hSw => by (obtain hS := hSw); go_simp) hHeld ?_
        try simp only [List.setIfInBounds_toArray, List.set_cons_zero, List.set_cons_succ]
        refine wpAnyH_done (by kernel_rfl) ?_ _
        go_wp2_with fail
        go_ret
        exact ⟨rfl, HB.out.trans (HC.out.mono HB.out.size)⟩
    | true =>
      go_wp2_with fail
      refine (HAW.out _).mono ?_
      rintro e u3 ⟨rfl, hb1⟩
      replace HC := Lib.hid (bel_trans HC.out hb1)
      clear hb1
      go_wp2_with fail
      go_ret
      exact ⟨rfl, HB.out.trans (HC.out.mono HB.out.size)⟩
  | true =>
    go_wp2_with fail
    refine (HAW.out _).mono ?_
    rintro e u2 ⟨rfl, hb1⟩
    replace HC := Lib.hid (bel_trans HC.out hb1)
    clear hb1
    go_wp2_with fail
    go_ret
    exact ⟨rfl, HB.out.trans (HC.out.mono HB.out.size)⟩
end Go.Proofs.Ytbjooblaamjppaa.Rk
