/-
  Texts of earlier layers, as one.
-/
import Derived.Test.YtldlcddmbgcfdaaWhlMine
/- The document's example of wheels. -/
namespace Go.Proofs.Ytldlcddmbgcfdaa.Wh
open Go.RowKit Mem Dsk

set_option maxRecDepth 20000 in
set_option maxHeartbeats 8000000 in
theorem wheel_awake (w : World) : Calls Try.prog 6 #[] w (Tells true w) := by
  have hFr : Dsk.Frame (FNew w) := frame_new w
  have HN := Lib.hid (new_any w)
  go_enter Try.func6, Try.ntmps6
  go_wp2_with fail
  refine HN.out.mono ?_
  rintro e w1 ⟨p, S, rfl, hI, hl, hb⟩
  have hm0 : Mine (FNew w) w1 p [] := ⟨S, hI, hl, hb⟩
  have hm1 := (hm0.bel hFr (bel_alloc (Below.refl w1.heap.size w1) (.cells #[.int .i64 0, .int .i64 1] 28))).box hFr #[.int .i64 0, .int .i64 2] 28
  have hbx1 := (Blk.new w1 28 #[.int .i64 0, .int .i64 1]).alloc (.cells #[.int .i64 0, .int .i64 2] 28)
  have hsz : (w1.alloc (.cells #[.int .i64 0, .int .i64 1] 28)).heap.size = w1.heap.size + 1 := by simp
  rw [hsz] at hm1
  obtain ⟨b3, hb3⟩ : ∃ v, w1.heap.size + 1 = v := ⟨_, rfl⟩
  rw [hb3] at hm1
  have hFr2 : Dsk.Frame (fun v S => FNew w v S ∧ FBlk b3 28 #[.int .i64 0, .int .i64 2] v S) := hFr.and (frame_blk _ _ _)
  obtain ⟨W, hW⟩ : ∃ v, (w1.alloc (.cells #[.int .i64 0, .int .i64 1] 28)).alloc (.cells #[.int .i64 0, .int .i64 2] 28) = v := ⟨_, rfl⟩
  rw [hW] at hm1 hbx1
  have ha := set_mine hFr2 (0, 1) 5 hm1 (wf_small (by omega) (by omega)) (by simp)
  rw [show setR [] (⟨(0, 1), 5⟩ : Tm) = [⟨(0, 1), 5⟩] from rfl] at ha
  obtain ⟨e0, e1⟩ := blk2 hbx1
  have HA := Lib.hid ha
  have HW := Lib.hid hW
  have HB3 := Lib.hid hb3
  unfold ptr at HA ⊢
  clear hI hl hb hm0 hm1 hbx1 hsz hW ha HN hb3
  go_upto_region 3 with fail
  rw [HW.out, HB3.out]
  go_wp2_with fail
  refine HA.out.mono ?_
  rintro e w2 ⟨rfl, hm2⟩
  obtain ⟨S2, hI2, hF2⟩ := hm2
  obtain ⟨e0, e1⟩ := blk2 hF2.2.1
  have ha := set_mine hFr2 (0, 2) 3 ⟨S2, hI2, hF2⟩ (wf_small (by omega) (by omega)) (by simp)
  rw [show setR [(⟨(0, 1), 5⟩ : Tm)] (⟨(0, 2), 3⟩ : Tm) = [⟨(0, 2), 3⟩, ⟨(0, 1), 5⟩] by rfl] at ha
  have HA := Lib.hid ha
  unfold ptr at HA
  clear hI2 hF2 ha
  go_wp2_with fail
  refine HA.out.mono ?_
  rintro e w3 ⟨rfl, hm3⟩
  have ha := due_mine hFr2 4 hm3 (by simp)
  rw [show dueR [(⟨(0, 2), 3⟩ : Tm), ⟨(0, 1), 5⟩] 4 = 1 by rfl] at ha
  have HA := Lib.hid ha
  unfold ptr at HA
  clear hm3 ha e0 e1
  go_wp2_with fail
  refine HA.out.mono ?_
  rintro e w4 ⟨V, c, rfl, hm4⟩
  have hm4 : Mine (fun v S => (FNew w v S ∧ FBlk b3 28 #[.int .i64 0, .int .i64 2] v S) ∧ FOwn w3.heap.size 28 LI.s V 1 c (LI.flat [(0, 2)]) v S) w4 p [⟨(0, 1), 5⟩] := hm4
  have hn := next_mine hm4 (by simp)
  simp only [List.head?_cons, Option.map_some, Option.getD_some, Option.isSome_some] at hn
  obtain ⟨U, hU⟩ : ∃ v, w4.drew = v := ⟨_, rfl⟩
  have hbU : Below w4.heap.size w4 U := by rw [← hU]; exact Below.drew (Below.refl _ _)
  have hm5 := hm4.bel (hFr2.and (frame_own _ _ _ _ _ _ _)) hbU
  have hlen := len_mine hm5
  simp only [List.length_singleton] at hlen
  obtain ⟨S5, hI5, ⟨hF5, hB5⟩, hO5⟩ := hm5
  obtain ⟨d0, d1⟩ := blk2 hB5.1
  obtain ⟨g, o, x, rfl, _, hx, hcx⟩ := (Rw.own hO5.1).at_ (k := 0) (by omega)
  have hx' : x = (0, 2) := by simpa using hx.symm
  subst hx'
  have c3 := hcx 0 _ rfl
  have c4 := hcx 1 _ rfl
  rw [show o + 0 * LI.s = o by omega] at c3 c4
  have heq := eql_id (0, 2) (0, 2)
  have HEQ : Hid (∀ w, (binOp .eql 28 (.agg #[.int .i64 0, .int .i64 2]) (.agg #[.int .i64 0, .int .i64 2])).run Try.prog w = .ok (.bool true) w) := Lib.hid heq
  have HS0 := Lib.hid (show U.cell? ⟨g, o, none⟩ = some (.int .i64 0) ∧ U.cell? ⟨g, o + 1, none⟩ = some (.int .i64 2) ∧ U.cell? ⟨b3, 0, none⟩ = some (.int .i64 0) ∧ U.cell? ⟨b3, 1, none⟩ = some (.int .i64 2) from ⟨c3, c4, d0, d1⟩)
  have HLEN := Lib.hid hlen
  have HNX := Lib.hid hn
  have HFIN := Lib.hid hF5.2
  have HU := Lib.hid hU
  unfold ptr at HLEN HNX
  clear hm4 hn hU hbU hlen hI5 hF5 hB5 hO5 d0 d1 hx hcx c3 c4 heq HA
  go_wp2_with fail
  refine HNX.out.mono ?_
  rintro e w5 ⟨rfl, rfl⟩
  go_upto_region 7 with fail
  refine wp_region_held_drew (S := (fun w' => w'.cell? ⟨g, o, none⟩ = some (.int .i64 0) ∧ w'.cell? ⟨g, o + 1, none⟩ = some (.int .i64 2) ∧ w'.cell? ⟨b3, 0, none⟩ = some (.int .i64 0) ∧ w'.cell? ⟨b3, 1, none⟩ = some (.int .i64 2))) (by kernel_rfl) (by rw [HU.out]; exact HS0.out) (fun hHeld => ?_)
  rw [HU.out] at hHeld ⊢
  refine held_take (i := 0) (d := 23) (v := (.slice (some ⟨g, o, none⟩) 1 c)) rfl rfl (by kernel_rfl) (by kernel_rfl) (by kernel_rfl) (fun _ _ _ h => h) (by kernel_rfl) (fun w hSw => by (obtain ⟨hS0, hS1, hS2, hS3⟩ := hSw); go_simp) hHeld ?_
  try simp only [List.setIfInBounds_toArray, List.set_cons_zero, List.set_cons_succ]
  refine held_take (i := 1) (d := 24) (v := (.int .i64 1)) rfl rfl (by kernel_rfl) (by kernel_rfl) (by kernel_rfl) (fun _ _ _ h => h) (by kernel_rfl) (fun w hSw => by (obtain ⟨hS0, hS1, hS2, hS3⟩ := hSw); go_simp) hHeld ?_
  try simp only [List.setIfInBounds_toArray, List.set_cons_zero, List.set_cons_succ]
  refine held_take (i := 2) (d := 25) (v := (.bool true)) rfl rfl (by kernel_rfl) (by kernel_rfl) (by kernel_rfl) (fun _ _ _ h => h) (by kernel_rfl) (fun w hSw => by (obtain ⟨hS0, hS1, hS2, hS3⟩ := hSw); go_simp) hHeld ?_
  try simp only [List.setIfInBounds_toArray, List.set_cons_zero, List.set_cons_succ]
  refine held_take (i := 3) (d := 26) (v := (.bool true)) rfl rfl (by kernel_rfl) (by kernel_rfl) (by kernel_rfl) (fun _ _ _ h => h) (by kernel_rfl) (fun w hSw => by (obtain ⟨hS0, hS1, hS2, hS3⟩ := hSw); go_simp) hHeld ?_
  try simp only [List.setIfInBounds_toArray, List.set_cons_zero, List.set_cons_succ]
  refine held_take (i := 4) (d := 27) (v := (.slice (some ⟨g, o, none⟩) 1 c)) rfl rfl (by kernel_rfl) (by kernel_rfl) (by kernel_rfl) (fun _ _ _ h => h) (by kernel_rfl) (fun w hSw => by (obtain ⟨hS0, hS1, hS2, hS3⟩ := hSw); go_simp) hHeld ?_
  try simp only [List.setIfInBounds_toArray, List.set_cons_zero, List.set_cons_succ]
  refine held_take (i := 5) (d := 28) (v := (.pointer (some ⟨g, o, none⟩))) rfl rfl (by kernel_rfl) (by kernel_rfl) (by kernel_rfl) (fun _ _ _ h => h) (by kernel_rfl) (fun w hSw => by (obtain ⟨hS0, hS1, hS2, hS3⟩ := hSw); go_simp) hHeld ?_
  try simp only [List.setIfInBounds_toArray, List.set_cons_zero, List.set_cons_succ]
  refine held_take (i := 6) (d := 29) (v := (.agg #[.int .i64 0, .int .i64 2])) rfl rfl (by kernel_rfl) (by kernel_rfl) (by kernel_rfl) (fun _ _ _ h => h) (by kernel_rfl) (fun w hSw => by (obtain ⟨hS0, hS1, hS2, hS3⟩ := hSw); go_simp) hHeld ?_
  try simp only [List.setIfInBounds_toArray, List.set_cons_zero, List.set_cons_succ]
  refine held_take (i := 7) (d := 30) (v := (.agg #[.int .i64 0, .int .i64 2])) rfl rfl (by kernel_rfl) (by kernel_rfl) (by kernel_rfl) (fun _ _ _ h => h) (by kernel_rfl) (fun w hSw => by (obtain ⟨hS0, hS1, hS2, hS3⟩ := hSw); go_simp) hHeld ?_
  try simp only [List.setIfInBounds_toArray, List.set_cons_zero, List.set_cons_succ]
  refine held_take (i := 8) (d := 31) (v := (.bool true)) rfl rfl (by kernel_rfl) (by kernel_rfl) (by kernel_rfl) (fun _ _ _ h => h) (by kernel_rfl) (fun w _ => by (have hq := HEQ.out w; go_simp)) hHeld ?_
  try simp only [List.setIfInBounds_toArray, List.set_cons_zero, List.set_cons_succ]
  refine held_take (i := 9) (d := 32) (v := (.bool true)) rfl rfl (by kernel_rfl) (by kernel_rfl) (by kernel_rfl) (fun _ _ _ h => h) (by kernel_rfl) (fun w hSw => by (obtain ⟨hS0, hS1, hS2, hS3⟩ := hSw); go_simp) hHeld ?_
  try simp only [List.setIfInBounds_toArray, List.set_cons_zero, List.set_cons_succ]
  refine held_take (i := 10) (d := 33) (v := (.bool true)) rfl rfl (by kernel_rfl) (by kernel_rfl) (by kernel_rfl) (fun _ _ _ h => h) (by kernel_rfl) (fun w hSw => by (obtain ⟨hS0, hS1, hS2, hS3⟩ := hSw); go_simp) hHeld ?_
  try simp only [List.setIfInBounds_toArray, List.set_cons_zero, List.set_cons_succ]
  refine held_take (i := 11) (d := 34) (v := (.pointer (some ⟨p, 0, none⟩))) rfl rfl (by kernel_rfl) (by kernel_rfl) (by kernel_rfl) (fun _ _ _ h => h) (by kernel_rfl) (fun w hSw => by (obtain ⟨hS0, hS1, hS2, hS3⟩ := hSw); go_simp) hHeld ?_
  try simp only [List.setIfInBounds_toArray, List.set_cons_zero, List.set_cons_succ]
  refine wpAnyH_ready (rs := [12]) (by kernel_rfl) (by simp) ?_
  refine AllReadyH.cons rfl (fun K hK => ?_) AllReadyH.nil
  go_simp
  go_at_call 17
  (with_reducible refine HLEN.out.mono ?_)
  rintro e u ⟨rfl, hu⟩
  subst hu
  refine hK.out _ _ (by with_reducible exact HS0.out) (fun hHeld => ?_)
  clear hK K
  refine held_take (i := 13) (d := 36) (v := (.bool true)) rfl rfl (by kernel_rfl) (by kernel_rfl) (by kernel_rfl) (fun _ _ _ h => h) (by kernel_rfl) (fun w hSw => by (obtain ⟨hS0, hS1, hS2, hS3⟩ := hSw); go_simp) hHeld ?_
  try simp only [List.setIfInBounds_toArray, List.set_cons_zero, List.set_cons_succ]
  refine held_take (i := 14) (d := 37) (v := (.bool true)) rfl rfl (by kernel_rfl) (by kernel_rfl) (by kernel_rfl) (fun _ _ _ h => h) (by kernel_rfl) (fun w hSw => by (obtain ⟨hS0, hS1, hS2, hS3⟩ := hSw); go_simp) hHeld ?_
  try simp only [List.setIfInBounds_toArray, List.set_cons_zero, List.set_cons_succ]
  refine held_take (i := 15) (d := 38) (v := (.bool true)) rfl rfl (by kernel_rfl) (by kernel_rfl) (by kernel_rfl) (fun _ _ _ h => h) (by kernel_rfl) (fun w hSw => by (obtain ⟨hS0, hS1, hS2, hS3⟩ := hSw); go_simp) hHeld ?_
  try simp only [List.setIfInBounds_toArray, List.set_cons_zero, List.set_cons_succ]
  refine held_take (i := 16) (d := 39) (v := (.int .i64 5)) rfl rfl (by kernel_rfl) (by kernel_rfl) (by kernel_rfl) (fun _ _ _ h => h) (by kernel_rfl) (fun w hSw => by (obtain ⟨hS0, hS1, hS2, hS3⟩ := hSw); go_simp) hHeld ?_
  try simp only [List.setIfInBounds_toArray, List.set_cons_zero, List.set_cons_succ]
  refine held_take (i := 17) (d := 40) (v := (.bool true)) rfl rfl (by kernel_rfl) (by kernel_rfl) (by kernel_rfl) (fun _ _ _ h => h) (by kernel_rfl) (fun w hSw => by (obtain ⟨hS0, hS1, hS2, hS3⟩ := hSw); go_simp) hHeld ?_
  try simp only [List.setIfInBounds_toArray, List.set_cons_zero, List.set_cons_succ]
  refine held_take (i := 18) (d := 41) (v := (.bool true)) rfl rfl (by kernel_rfl) (by kernel_rfl) (by kernel_rfl) (fun _ _ _ h => h) (by kernel_rfl) (fun w hSw => by (obtain ⟨hS0, hS1, hS2, hS3⟩ := hSw); go_simp) hHeld ?_
  try simp only [List.setIfInBounds_toArray, List.set_cons_zero, List.set_cons_succ]
  refine held_take (i := 19) (d := 42) (v := (.bool true)) rfl rfl (by kernel_rfl) (by kernel_rfl) (by kernel_rfl) (fun _ _ _ h => h) (by kernel_rfl) (fun w hSw => by (obtain ⟨hS0, hS1, hS2, hS3⟩ := hSw); go_simp) hHeld ?_
  try simp only [List.setIfInBounds_toArray, List.set_cons_zero, List.set_cons_succ]
  refine held_take (i := 20) (d := 43) (v := (.bool true)) rfl rfl (by kernel_rfl) (by kernel_rfl) (by kernel_rfl) (fun _ _ _ h => h) (by kernel_rfl) (fun w hSw => by (obtain ⟨hS0, hS1, hS2, hS3⟩ := hSw); go_simp) hHeld ?_
  try simp only [List.setIfInBounds_toArray, List.set_cons_zero, List.set_cons_succ]
  refine held_take (i := 21) (d := 44) (v := (.bool true)) rfl rfl (by kernel_rfl) (by kernel_rfl) (by kernel_rfl) (fun _ _ _ h => h) (by kernel_rfl) (fun w hSw => by (obtain ⟨hS0, hS1, hS2, hS3⟩ := hSw); go_simp) hHeld ?_
  try simp only [List.setIfInBounds_toArray, List.set_cons_zero, List.set_cons_succ]
  refine held_take (i := 22) (d := 0) (v := (.bool true)) rfl rfl (by kernel_rfl) (by kernel_rfl) (by kernel_rfl) (fun _ _ _ h => h) (by kernel_rfl) (fun w hSw => by (obtain ⟨hS0, hS1, hS2, hS3⟩ := hSw); go_simp) hHeld ?_
  try simp only [List.setIfInBounds_toArray, List.set_cons_zero]
  refine wpAnyH_done (by kernel_rfl) ?_ _
  go_wp2_with fail
  go_ret
  exact ⟨rfl, HFIN.out⟩
end Go.Proofs.Ytldlcddmbgcfdaa.Wh
