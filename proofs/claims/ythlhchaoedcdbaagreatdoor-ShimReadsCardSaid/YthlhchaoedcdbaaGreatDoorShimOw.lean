/-
  Texts of earlier layers, as one.
-/
import Derived.Test.YthlhchaoedcdbaaGreatDoorShimDw
import Derived.Test.YthlhchaoedcdbaaGreatDoorShimU
/- The program's For of any message, and its Read of bytes, by a version. -/
namespace Go.Proofs.YthlhchaoedcdbaaGreatDoor.Mg
open Lib (hid)
open Go.RowKit Mem Ids Att Rk Cod
set_option maxRecDepth 100000 in
set_option maxHeartbeats 8000000 in
theorem has_read : HasRead := by
 intro b A m c v w hT hr hb hm;have hz0 := Blk.new w 32 #[.int .i64 0, .int .i64 0, .int .i64 0, .int .i64 0, .int .i64 0, .int .i64 0, .int .i64 0, .int .i64 0, .int .i64 0, .int .i64 0, .int .i64 0, .string ⟨#[]⟩, .string ⟨#[]⟩, .int .i64 0, .slice none 0 0, .int .i64 0, .int .i64 0, .int .i64 0];have hbz := bel_alloc (Below.refl w.heap.size w) (.cells #[.int .i64 0, .int .i64 0, .int .i64 0, .int .i64 0, .int .i64 0, .int .i64 0, .int .i64 0, .int .i64 0, .int .i64 0, .int .i64 0, .int .i64 0, .string ⟨#[]⟩, .string ⟨#[]⟩, .int .i64 0, .slice none 0 0, .int .i64 0, .int .i64 0, .int .i64 0] 32);have hrW := hr.below hbz;have hTW := hT.below hbz;have hlb := hr.len;rw [length_cs] at hlb;obtain ⟨W, hW⟩ : ∃ W, w.alloc (.cells #[.int .i64 0, .int .i64 0, .int .i64 0, .int .i64 0, .int .i64 0, .int .i64 0, .int .i64 0, .int .i64 0, .int .i64 0, .int .i64 0, .int .i64 0, .string ⟨#[]⟩, .string ⟨#[]⟩, .int .i64 0, .slice none 0 0, .int .i64 0, .int .i64 0, .int .i64 0] 32) = W := ⟨_, rfl⟩
 rw [hW] at hz0 hbz hrW hTW;have hup := fun (u : World) (h : Below W.heap.size W u) => has_up b A m c u (hTW.below h) (hrW.below h) hb hm;have htk := fun (u : World) (h : Below W.heap.size W u) => mtake_new b A m c u (hTW.below h).2 (hTW.below h).1 (hrW.below h) hb (by omega);rw [own_ref] at htk;have HZ := hid hz0;have HB := hid hbz;have HW := hid hW;clear hz0 hbz hW hr hm hTW hT;by_cases h1 : v = 1
 · subst h1
   rw [reads_one];obtain ⟨⟨q, er⟩, hq⟩ : ∃ r, refUp (openX 1 b) = r := ⟨_, rfl⟩
   rw [hq] at hup ⊢;clear hq;obtain ⟨aM, ⟨aR, aN⟩, ⟨aB, aC⟩, ⟨aT, aU⟩, aS, ⟨aK, aL, aQ, aY, aV, aZ⟩, ⟨al, aE, aG⟩, aW⟩ := q;unfold TakesNw at hup ⊢;simp only at hup ⊢;obtain ⟨ei, hei⟩ : ∃ ei : Int, (er : Int) = ei := ⟨_, rfl⟩
   rw [hei] at hup ⊢;clear hei;have HCL := hid hup;clear hup htk;clear hrW hlb hb;go_enter Tryz.func15, Tryz.ntmps15
   go_upto_region 1 with fail
   rw [HW.out];go_wp2_with fail
   refine (HCL.out _ (Below.refl _ _)).mono ?_;rintro e u ⟨V, k, d, rfl, hrs, hnew, hb1⟩;simp only at hrs ⊢;have HZU := hid (HZ.out.bel hb1);have HBU := hid (HB.out.trans (hb1.mono HB.out.size));go_wp2_with (first | fail | ((with_reducible refine wpList_store_blk rfl 32 _ _ rfl w.heap.size 32 _ #[.int .i64 aM, .int .i64 aR, .int .i64 aN, .int .i64 aB, .int .i64 aC, .int .i64 aT, .int .i64 aU, .int .i64 aS, .int .i64 aK, .int .i64 aL, .int .i64 aQ, .string aY, .string aV, .int .i64 aZ, .slice V k d, .int .i64 aE, .int .i64 aG, .int .i64 aW] ?_ ?_ HZU.out ?_ ?_ ?_ ?_); (focus rfl); (focus rfl); (focus kernel_rfl); (focus rfl); (focus kernel_rfl); intro w9 hblk2 hgr))
   refine bodyPost_ret (v := .tuple #[.agg _, .int .i64 ei]) (results_blk_tmp Tryz.results15 _ _ w.heap.size 32 _ _ _ rfl rfl hblk2 Tryz.underlying32 rfl (by kernel_rfl)) rfl ?_;have hlt := HZ.out.lt;exact ⟨V, k, d, rfl, hrs.grown hgr (fun g o e h => by injection h with h; have := hnew g o e; omega), (fun g o e => by have := hnew g o e; omega), HBU.out.trans (gr_below hgr HBU.out.size fun b hb => by injection hb with hb; omega)⟩
 by_cases h2 : v = 2
 · subst h2
   by_cases hd : b.getD 0 0 = 1
   · have hfirst : ∃ ad, A = some ad ∧ 0 < m ∧ W.cell? ad = some (.int .u8 1) := by
      cases b with
      | nil => cases hd
      | cons x l =>
        obtain ⟨ad, rfl, hc0⟩ := Cp.head_cell hrW;have hx : x = 1 := hd;subst hx;exact ⟨ad, rfl, by simp only [List.length_cons] at hlb; omega, hc0⟩
     have hle := hrW.le;rw [reads_up hd];obtain ⟨⟨q, er⟩, hq⟩ : ∃ r, refUp (openX 1 b) = r := ⟨_, rfl⟩
     rw [hq] at hup ⊢;clear hq;obtain ⟨aM, ⟨aR, aN⟩, ⟨aB, aC⟩, ⟨aT, aU⟩, aS, ⟨aK, aL, aQ, aY, aV, aZ⟩, ⟨al, aE, aG⟩, aW⟩ := q;unfold TakesNw at hup ⊢;simp only at hup ⊢;obtain ⟨ei, hei⟩ : ∃ ei : Int, (er : Int) = ei := ⟨_, rfl⟩
     rw [hei] at hup ⊢;clear hei;have HCL := hid hup;clear hup htk;clear hrW hlb hb hd;obtain ⟨ad, hA, hm0, hc0⟩ := hfirst;subst hA;have qn : decide ((0 : Int) < (m : Int)) = true := decide_eq_true (by omega);go_enter Tryz.func15, Tryz.ntmps15
     go_upto_region 1 with fail
     rw [HW.out];go_wp2_with fail
     refine (HCL.out _ (Below.refl _ _)).mono ?_;rintro e u ⟨V, k, d, rfl, hrs, hnew, hb1⟩;simp only at hrs ⊢;have HZU := hid (HZ.out.bel hb1);have HBU := hid (HB.out.trans (hb1.mono HB.out.size));go_wp2_with (first | fail | ((with_reducible refine wpList_store_blk rfl 32 _ _ rfl w.heap.size 32 _ #[.int .i64 aM, .int .i64 aR, .int .i64 aN, .int .i64 aB, .int .i64 aC, .int .i64 aT, .int .i64 aU, .int .i64 aS, .int .i64 aK, .int .i64 aL, .int .i64 aQ, .string aY, .string aV, .int .i64 aZ, .slice V k d, .int .i64 aE, .int .i64 aG, .int .i64 aW] ?_ ?_ HZU.out ?_ ?_ ?_ ?_); (focus rfl); (focus rfl); (focus kernel_rfl); (focus rfl); (focus kernel_rfl); intro w9 hblk2 hgr))
     refine bodyPost_ret (v := .tuple #[.agg _, .int .i64 ei]) (results_blk_tmp Tryz.results15 _ _ w.heap.size 32 _ _ _ rfl rfl hblk2 Tryz.underlying32 rfl (by kernel_rfl)) rfl ?_;have hlt := HZ.out.lt;exact ⟨V, k, d, rfl, hrs.grown hgr (fun g o e h => by injection h with h; have := hnew g o e; omega), (fun g o e => by have := hnew g o e; omega), HBU.out.trans (gr_below hgr HBU.out.size fun b hb => by injection hb with hb; omega)⟩
   · have hfirst : m = 0 ∨ ∃ ad b0, A = some ad ∧ 0 < m ∧ W.cell? ad = some (.int .u8 b0) ∧ (b0 == 1) = false := by
      cases b with
      | nil => exact .inl (by simpa using hlb.symm)
      | cons x l =>
        obtain ⟨ad, rfl, hc0⟩ := Cp.head_cell hrW;refine .inr ⟨ad, (x : Int), rfl, by simp only [List.length_cons] at hlb; omega, hc0, ?_⟩;have hx : ¬ x = 1 := hd;exact beq_eq_false_iff_ne.2 (by omega)
     have hle := hrW.le;rw [reads_take hd];obtain ⟨⟨q, er⟩, hq⟩ : ∃ r, refTake (openX 2 b) = r := ⟨_, rfl⟩
     rw [hq] at htk ⊢;clear hq;obtain ⟨aM, ⟨aR, aN⟩, ⟨aB, aC⟩, ⟨aT, aU⟩, aS, ⟨aK, aL, aQ, aY, aV, aZ⟩, ⟨al, aE, aG⟩, aW⟩ := q;unfold TakesNw at htk ⊢;simp only at htk ⊢;obtain ⟨ei, hei⟩ : ∃ ei : Int, (er : Int) = ei := ⟨_, rfl⟩
     rw [hei] at htk ⊢;clear hei;have HCL := hid htk;clear hup htk;clear hrW hlb hb hd;rcases hfirst with hm0 | ⟨ad, b0, hA, hm0, hc0, hx0⟩
     · subst hm0
       clear hle;go_enter Tryz.func15, Tryz.ntmps15
       go_upto_region 1 with fail
       rw [HW.out];go_wp2_with fail
       refine (HCL.out _ (Below.refl _ _)).mono ?_;rintro e u ⟨V, k, d, rfl, hrs, hnew, hb1⟩;simp only at hrs ⊢;have HZU := hid (HZ.out.bel hb1);have HBU := hid (HB.out.trans (hb1.mono HB.out.size));go_wp2_with (first | fail | ((with_reducible refine wpList_store_blk rfl 32 _ _ rfl w.heap.size 32 _ #[.int .i64 aM, .int .i64 aR, .int .i64 aN, .int .i64 aB, .int .i64 aC, .int .i64 aT, .int .i64 aU, .int .i64 aS, .int .i64 aK, .int .i64 aL, .int .i64 aQ, .string aY, .string aV, .int .i64 aZ, .slice V k d, .int .i64 aE, .int .i64 aG, .int .i64 aW] ?_ ?_ HZU.out ?_ ?_ ?_ ?_); (focus rfl); (focus rfl); (focus kernel_rfl); (focus rfl); (focus kernel_rfl); intro w9 hblk2 hgr))
       refine bodyPost_ret (v := .tuple #[.agg _, .int .i64 ei]) (results_blk_tmp Tryz.results15 _ _ w.heap.size 32 _ _ _ rfl rfl hblk2 Tryz.underlying32 rfl (by kernel_rfl)) rfl ?_;have hlt := HZ.out.lt;exact ⟨V, k, d, rfl, hrs.grown hgr (fun g o e h => by injection h with h; have := hnew g o e; omega), (fun g o e => by have := hnew g o e; omega), HBU.out.trans (gr_below hgr HBU.out.size fun b hb => by injection hb with hb; omega)⟩
     · subst hA
       have qn : decide ((0 : Int) < (m : Int)) = true := decide_eq_true (by omega);go_enter Tryz.func15, Tryz.ntmps15
       go_upto_region 1 with fail
       rw [HW.out];go_wp2_with fail
       refine (HCL.out _ (Below.refl _ _)).mono ?_;rintro e u ⟨V, k, d, rfl, hrs, hnew, hb1⟩;simp only at hrs ⊢;have HZU := hid (HZ.out.bel hb1);have HBU := hid (HB.out.trans (hb1.mono HB.out.size));go_wp2_with (first | fail | ((with_reducible refine wpList_store_blk rfl 32 _ _ rfl w.heap.size 32 _ #[.int .i64 aM, .int .i64 aR, .int .i64 aN, .int .i64 aB, .int .i64 aC, .int .i64 aT, .int .i64 aU, .int .i64 aS, .int .i64 aK, .int .i64 aL, .int .i64 aQ, .string aY, .string aV, .int .i64 aZ, .slice V k d, .int .i64 aE, .int .i64 aG, .int .i64 aW] ?_ ?_ HZU.out ?_ ?_ ?_ ?_); (focus rfl); (focus rfl); (focus kernel_rfl); (focus rfl); (focus kernel_rfl); intro w9 hblk2 hgr))
       refine bodyPost_ret (v := .tuple #[.agg _, .int .i64 ei]) (results_blk_tmp Tryz.results15 _ _ w.heap.size 32 _ _ _ rfl rfl hblk2 Tryz.underlying32 rfl (by kernel_rfl)) rfl ?_;have hlt := HZ.out.lt;exact ⟨V, k, d, rfl, hrs.grown hgr (fun g o e h => by injection h with h; have := hnew g o e; omega), (fun g o e => by have := hnew g o e; omega), HBU.out.trans (gr_below hgr HBU.out.size fun b hb => by injection hb with hb; omega)⟩
 rw [reads_none h1 h2];have q1 : (v != 1) = true := bne_iff_ne.2 h1;have q2 : (v != 2) = true := bne_iff_ne.2 h2;clear hup htk hrW hlb hb h1 h2;go_enter Tryz.func15, Tryz.ntmps15
 go_upto_region 1 with fail
 rw [HW.out];go_wp2_with (first | fail | ((with_reducible refine wpList_store_blk rfl 32 _ _ rfl w.heap.size 32 _ #[.int .i64 0, .int .i64 0, .int .i64 0, .int .i64 0, .int .i64 0, .int .i64 0, .int .i64 0, .int .i64 0, .int .i64 0, .int .i64 0, .int .i64 0, .string ⟨#[]⟩, .string ⟨#[]⟩, .int .i64 0, .slice none 0 0, .int .i64 0, .int .i64 0, .int .i64 0] ?_ ?_ HZ.out ?_ ?_ ?_ ?_); (focus rfl); (focus rfl); (focus kernel_rfl); (focus rfl); (focus kernel_rfl); intro w9 hblk2 hgr))
 refine bodyPost_ret (v := .tuple #[.agg _, .int .i64 1]) (results_blk_tmp Tryz.results15 _ _ w.heap.size 32 _ _ _ rfl rfl hblk2 Tryz.underlying32 rfl (by kernel_rfl)) rfl ?_;exact ⟨none, 0, 0, rfl, Rs.nil_ _, (fun _ _ e => by cases e), HB.out.trans (gr_below hgr HB.out.size fun b hb => by injection hb with hb; omega)⟩
end Go.Proofs.YthlhchaoedcdbaaGreatDoor.Mg
