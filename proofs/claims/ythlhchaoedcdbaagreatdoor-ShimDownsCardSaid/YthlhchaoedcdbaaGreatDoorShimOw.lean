/-
  Texts of earlier layers, as one.
-/
import Derived.Test.YthlhchaoedcdbaaGreatDoorShimDw
import Derived.Test.YthlhchaoedcdbaaGreatDoorShimU
import Derived.Test.YthlhchaoedcdbaaGreatDoorShimRef
import Derived.Deep.RegionHeld
import Derived.Deep.Cut
/- The program's For of any message, and its Read of bytes, by a version. -/
namespace Go.Proofs.YthlhchaoedcdbaaGreatDoor.Mg
open Go.RowKit Mem Ids Att Rk Cod
set_option maxRecDepth 100000 in
set_option maxHeartbeats 8000000 in
theorem has_for : HasFor := by
 intro aM aR aN aB aC aT aU aS aK aL aQ aY aV aZ aA an ac aE aG aW al v w hT ha
 obtain ⟨k1, hbb⟩ := box1 w 32 #[.int .i64 aM, .int .i64 aR, .int .i64 aN, .int .i64 aB, .int .i64 aC, .int .i64 aT, .int .i64 aU, .int .i64 aS, .int .i64 aK, .int .i64 aL, .int .i64 aQ, .string aY, .string aV, .int .i64 aZ, .slice aA an ac, .int .i64 aE, .int .i64 aG, .int .i64 aW]
 obtain ⟨W, hW⟩ : ∃ v, w.alloc (.cells #[.int .i64 aM, .int .i64 aR, .int .i64 aN, .int .i64 aB, .int .i64 aC, .int .i64 aT, .int .i64 aU, .int .i64 aS, .int .i64 aK, .int .i64 aL, .int .i64 aQ, .string aY, .string aV, .int .i64 aZ, .slice aA an ac, .int .i64 aE, .int .i64 aG, .int .i64 aW] 32) = v := ⟨_, rfl⟩
 rw [hW] at k1 hbb
 have h1 := has_down aM aR aN aB aC aT aU aS aK aL aQ aY aV aZ aA an ac aE aG aW al W (hT.below hbb) (ha.below hbb)
 have h2 := mput_any aM aR aN aB aC aT aU aS aK aL aQ aY aV aZ aA an ac aE aG aW al W (ha.below hbb) (hT.below hbb).2 (hT.below hbb).1
 unfold DownIs at h1
 unfold PutsMg mchk at h2
 have hr0 : ∀ v, refFor ⟨aM, (aR, aN), (aB, aC), (aT, aU), aS, ⟨aK, aL, aQ, aY, aV, aZ⟩, ⟨al, aE, aG⟩, aW⟩ v = if v = 1 then refDown ⟨aM, (aR, aN), (aB, aC), (aT, aU), aS, ⟨aK, aL, aQ, aY, aV, aZ⟩, ⟨al, aE, aG⟩, aW⟩ else if v = 2 then (if mright ⟨aM, (aR, aN), (aB, aC), (aT, aU), aS, ⟨aK, aL, aQ, aY, aV, aZ⟩, ⟨al, aE, aG⟩, aW⟩ = true then (frame 2 (form (mgIt ⟨aM, (aR, aN), (aB, aC), (aT, aU), aS, ⟨aK, aL, aQ, aY, aV, aZ⟩, ⟨al, aE, aG⟩, aW⟩)), 0) else ([], 4)) else ([], 1) := fun _ => rfl
 have HKa := Lib.hid k1
 have HB := Lib.hid hbb
 have HW := Lib.hid hW
 clear hbb hW k1 ha hT
 obtain ⟨RF, hR⟩ : ∃ RF, refFor ⟨aM, (aR, aN), (aB, aC), (aT, aU), aS, ⟨aK, aL, aQ, aY, aV, aZ⟩, ⟨al, aE, aG⟩, aW⟩ v = RF := ⟨_, rfl⟩
 rw [hr0] at hR
 unfold BytesIs
 rw [hr0, hR]
 clear hr0
 generalize refDown ⟨aM, (aR, aN), (aB, aC), (aT, aU), aS, ⟨aK, aL, aQ, aY, aV, aZ⟩, ⟨al, aE, aG⟩, aW⟩ = DD at h1 hR
 by_cases v1 : v = 1
 · subst v1
   rw [if_pos rfl] at hR
   subst hR
   have H1 := Lib.hid h1
   clear h1 h2
   go_enter Tryz.func9, Tryz.ntmps9
   go_upto_region 1 with fail
   rw [HW.out]
   go_wp2_with (with_reducible refine wpList_load_blk_w 32 _ rfl w.heap.size 32 _ _ ?_ ?_ HKa.out Tryz.underlying32 ?_ ?_ ?_; (focus kernel_rfl); (focus kernel_rfl); (focus rfl); (focus kernel_rfl))
   refine H1.out.mono ?_
   rintro e u ⟨A, n, c, rfl, hr, hb, _⟩
   have HR := Lib.hid hr
   have HBU := Lib.hid (HB.out.trans (hb.mono HB.out.size))
   clear hr hb
   go_wp2_with fail
   refine bodyPost_ret (v := .tuple #[.slice A n c, .int .i64 (DD.2 : Int)]) (by simp [results, Tryz.results9, go_sem]) rfl ?_
   exact ⟨A, n, c, rfl, HR.out, HBU.out⟩
 rw [if_neg v1] at hR
 by_cases v2 : v = 2
 · subst v2
   rw [if_pos rfl] at hR
   generalize mright ⟨aM, (aR, aN), (aB, aC), (aT, aU), aS, ⟨aK, aL, aQ, aY, aV, aZ⟩, ⟨al, aE, aG⟩, aW⟩ = t at h2 hR
   generalize mgIt ⟨aM, (aR, aN), (aB, aC), (aT, aU), aS, ⟨aK, aL, aQ, aY, aV, aZ⟩, ⟨al, aE, aG⟩, aW⟩ = x at h2 hR
   have h2 : Calls Tryz.prog 10 #[.agg #[.int .i64 aM, .int .i64 aR, .int .i64 aN, .int .i64 aB, .int .i64 aC, .int .i64 aT, .int .i64 aU, .int .i64 aS, .int .i64 aK, .int .i64 aL, .int .i64 aQ, .string aY, .string aV, .int .i64 aZ, .slice aA an ac, .int .i64 aE, .int .i64 aG, .int .i64 aW]] W (fun e w' => ∃ A n c, e = .returned (.tuple #[.slice A n c, .int .i64 (RF.2 : Int)]) ∧ Rd w' A n c (cs RF.1) ∧ Below W.heap.size W w') := by
    refine h2.mono ?_
    rintro e u ⟨A, n, c, rfl, hr, hb, _⟩
    cases t with
    | false =>
      simp only [Bool.false_eq_true, if_false] at hr hR ⊢
      subst hR
      exact ⟨A, n, c, rfl, hr, hb⟩
    | true =>
      simp only [if_true] at hr hR ⊢
      subst hR
      exact ⟨A, n, c, rfl, hr, hb⟩
   have H2 := Lib.hid h2
   clear h1 h2 hR v1
   go_enter Tryz.func9, Tryz.ntmps9
   go_upto_region 1 with fail
   rw [HW.out]
   go_wp2_with (with_reducible refine wpList_load_blk_w 32 _ rfl w.heap.size 32 _ _ ?_ ?_ HKa.out Tryz.underlying32 ?_ ?_ ?_; (focus kernel_rfl); (focus kernel_rfl); (focus rfl); (focus kernel_rfl))
   refine H2.out.mono ?_
   rintro e u ⟨A, n, c, rfl, hr, hb⟩
   have HR := Lib.hid hr
   have HBU := Lib.hid (HB.out.trans (hb.mono HB.out.size))
   clear hr hb
   go_wp2_with fail
   refine bodyPost_ret (v := .tuple #[.slice A n c, .int .i64 (RF.2 : Int)]) (by simp [results, Tryz.results9, go_sem]) rfl ?_
   exact ⟨A, n, c, rfl, HR.out, HBU.out⟩
 rw [if_neg v2] at hR
 subst hR
 have q1 : (v == 1) = false := beq_eq_false_iff_ne.2 v1
 have q2 : (v == 2) = false := beq_eq_false_iff_ne.2 v2
 clear h1 h2 v1 v2
 go_enter Tryz.func9, Tryz.ntmps9
 go_upto_region 1 with fail
 rw [HW.out]
 go_wp2_with fail
 refine bodyPost_ret (v := .tuple #[.slice none 0 0, .int .i64 1]) (by simp [results, Tryz.results9, go_sem]) rfl ?_
 exact ⟨none, 0, 0, rfl, Rd.nil_ _, HB.out⟩
end Go.Proofs.YthlhchaoedcdbaaGreatDoor.Mg
