/-
  Texts of earlier layers, as one.
-/
import Derived.Test.YtlcggldcofncgaaIdxMine
/- The document's example of indexes. -/
namespace Go.Proofs.Ytlcggldcofncgaa.Ix
open Go.RowKit Mem Dsk Cmd Ids Ky

theorem blk2' {w : World} {g : Nat} {t : TypeId} {a b : Value} (h : Blk w g t #[a, b]) : w.cell? ⟨g, 0, none⟩ = some a ∧ w.cell? ⟨g, 1, none⟩ = some b := ⟨h.cell 0, h.cell 1⟩
theorem ex_met : metE [(⟨(0, 1), (⟨2, 1, 1, ⟨#[97]⟩, ⟨#[]⟩, 0⟩ : Cm), 3⟩ : En), ⟨(1, 1), (⟨1, 2, 1, ⟨#[98]⟩, ⟨#[]⟩, 0⟩ : Cm), 4⟩] (⟨1, 3, 1, ⟨#[97]⟩, ⟨#[]⟩, 0⟩ : Cm) (0, 0) = [⟨(0, 1), (⟨2, 1, 1, ⟨#[97]⟩, ⟨#[]⟩, 0⟩ : Cm), 3⟩] := by rfl
set_option maxRecDepth 20000 in
set_option maxHeartbeats 8000000 in
theorem index_awake (w : World) : Calls Try.prog 8 #[] w (Tells true w) := by
  have hFr : Dsk.Frame (FNew w) := frame_new w
  have HN := Lib.hid (new_any w)
  go_enter Try.func8, Try.ntmps8
  go_wp2_with fail
  refine HN.out.mono ?_
  rintro e w1 ⟨p, S, rfl, hI, hl, hb⟩
  obtain ⟨W, hW⟩ : ∃ v, (w1.alloc (.cells #[.int .i64 0, .int .i64 1] 26)).alloc (.cells #[.int .i64 1, .int .i64 1] 26) = v := ⟨_, rfl⟩
  have hbW : Below w1.heap.size w1 W := by rw [← hW]; exact bel_alloc (bel_alloc (Below.refl _ _) _) _
  have hba : Blk W w1.heap.size 26 #[.int .i64 0, .int .i64 1] := by rw [← hW]; exact (Blk.new w1 26 #[.int .i64 0, .int .i64 1]).alloc _
  have hbb : Blk W (w1.heap.size + 1) 26 #[.int .i64 1, .int .i64 1] := by
    rw [← hW]
    have := Blk.new (w1.alloc (.cells #[.int .i64 0, .int .i64 1] 26)) 26 #[.int .i64 1, .int .i64 1]
    rw [size_alloc] at this
    exact this
  have hlow := ii_low hI
  obtain ⟨b2, hb2⟩ : ∃ v, w1.heap.size = v := ⟨_, rfl⟩
  have hm0 : Mine (fun v S => (FNew w v S ∧ (Blk v b2 26 #[.int .i64 0, .int .i64 1] ∧ ¬ S b2)) ∧ (Blk v (b2 + 1) 26 #[.int .i64 1, .int .i64 1] ∧ ¬ S (b2 + 1))) W p 0 [] := by
    rw [hb2] at hba hbb
    exact ⟨S, ii_below hI hbW, ⟨hFr.go ⟨hl, hb⟩ (Keeps.ofBelow hbW) (Grew.refl S w1), hba, fun h => by have := hlow _ h; omega⟩, hbb, fun h => by have := hlow _ h; omega⟩
  have hFb : ∀ (g : Nat) (vs : Array Value), Dsk.Frame (fun v S => Blk v g 26 vs ∧ ¬ S g) := fun g vs => by
    refine ⟨fun {w w' S S'} h hk hg => ⟨(hk.block g h.1.lt h.2).trans h.1, fun hs => ?_⟩⟩
    rcases hg g hs with h' | h'
    · exact h.2 h'
    · have := h.1.lt
      omega
  have hFr2 := (hFr.and (hFb b2 #[.int .i64 0, .int .i64 1])).and (hFb (b2 + 1) #[.int .i64 1, .int .i64 1])
  have ha := put_mine hFr2 (0, 1) (⟨2, 1, 1, ⟨#[97]⟩, ⟨#[]⟩, 0⟩ : Cm) 3 hm0 (wf_small (by omega) (by omega)) (by simp [ByteArray.size]) (by rfl) (by omega)
  obtain ⟨e0, e1⟩ := blk2' hba
  rw [hb2] at e0 e1
  have HA := Lib.hid ha
  have HW := Lib.hid hW
  have HB2 := Lib.hid hb2
  have HF2 := Lib.hid hFr2
  unfold ptr cmV at HA
  unfold ptr
  clear hI hl hb hm0 hba hbb hW ha HN hlow hbW hFb hFr2
  go_upto_region 3 with fail
  rw [HW.out]
  go_wp2_with fail
  refine HA.out.mono ?_
  rintro e w2 ⟨rfl, hm2⟩
  obtain ⟨S2, hI2, hF2⟩ := hm2
  obtain ⟨e0, e1⟩ := blk2' hF2.2.1
  have ha := put_mine HF2.out (1, 1) (⟨1, 2, 1, ⟨#[98]⟩, ⟨#[]⟩, 0⟩ : Cm) 4 ⟨S2, hI2, hF2⟩ (wf_small (by omega) (by omega)) (by simp [ByteArray.size]) (by rfl) (by omega)
  have HA := Lib.hid ha
  unfold ptr cmV at HA
  clear hI2 hF2 ha
  go_wp2_with fail
  refine HA.out.mono ?_
  rintro e w3 ⟨rfl, hm3⟩
  rw [show putE (putE [] (0, 1) (⟨2, 1, 1, ⟨#[97]⟩, ⟨#[]⟩, 0⟩ : Cm) 3) (1, 1) (⟨1, 2, 1, ⟨#[98]⟩, ⟨#[]⟩, 0⟩ : Cm) 4 = [(⟨(0, 1), (⟨2, 1, 1, ⟨#[97]⟩, ⟨#[]⟩, 0⟩ : Cm), 3⟩ : En), ⟨(1, 1), (⟨1, 2, 1, ⟨#[98]⟩, ⟨#[]⟩, 0⟩ : Cm), 4⟩] by rfl] at hm3
  obtain ⟨W3, hW3⟩ : ∃ v, w3.alloc (.cells #[.int .i64 1, .int .i64 3, .int .i64 1, .string ⟨#[97]⟩, .string ⟨#[]⟩, .int .i64 0] 24) = v := ⟨_, rfl⟩
  have hb3 : Below w3.heap.size w3 W3 := by rw [← hW3]; exact bel_alloc (Below.refl _ _) _
  have hbg : Blk W3 w3.heap.size 24 #[.int .i64 1, .int .i64 3, .int .i64 1, .string ⟨#[97]⟩, .string ⟨#[]⟩, .int .i64 0] := by rw [← hW3]; exact Blk.new _ _ _
  obtain ⟨b4, hb4⟩ : ∃ v, w3.heap.size = v := ⟨_, rfl⟩
  have hm4 := hm3.bel HF2.out hb3
  have hd := deps_mine (⟨1, 3, 1, ⟨#[97]⟩, ⟨#[]⟩, 0⟩ : Cm) (0, 0) hm4 (by omega) (by simp [ByteArray.size]) (by rfl)
  have hde : depsE [(⟨(0, 1), (⟨2, 1, 1, ⟨#[97]⟩, ⟨#[]⟩, 0⟩ : Cm), 3⟩ : En), ⟨(1, 1), (⟨1, 2, 1, ⟨#[98]⟩, ⟨#[]⟩, 0⟩ : Cm), 4⟩] (⟨1, 3, 1, ⟨#[97]⟩, ⟨#[]⟩, 0⟩ : Cm) (0, 0) = [(0, 1)] := by
    unfold depsE
    rw [ex_met]
    exact setl_one _
  rw [hde] at hd
  have htp : topE [(⟨(0, 1), (⟨2, 1, 1, ⟨#[97]⟩, ⟨#[]⟩, 0⟩ : Cm), 3⟩ : En), ⟨(1, 1), (⟨1, 2, 1, ⟨#[98]⟩, ⟨#[]⟩, 0⟩ : Cm), 4⟩] (⟨1, 3, 1, ⟨#[97]⟩, ⟨#[]⟩, 0⟩ : Cm) (0, 0) = 3 := by
    unfold topE
    rw [ex_met]
    rfl
  have hs := fun u (hu : Below W3.heap.size W3 u) => seq_mine (⟨1, 3, 1, ⟨#[97]⟩, ⟨#[]⟩, 0⟩ : Cm) (0, 0) (hm4.bel HF2.out hu) (by omega) (by simp [ByteArray.size]) (by rfl) (by rw [htp]; omega)
  rw [htp] at hs
  have HSQ : Hid (∀ u, Below W3.heap.size W3 u → Calls Try.prog 17 #[.pointer (some ⟨p, 0, none⟩), .agg #[.int .i64 1, .int .i64 3, .int .i64 1, .string ⟨#[97]⟩, .string ⟨#[]⟩, .int .i64 0], .agg #[.int .i64 0, .int .i64 0]] u (fun e w' => e = .returned (.int .i64 4) ∧ Below u.heap.size u w')) := Lib.hid hs
  have HLN : Hid (∀ u, Below W3.heap.size W3 u → Calls Try.prog 13 #[.pointer (some ⟨p, 0, none⟩)] u (fun e w' => e = .returned (.int .i64 2) ∧ w' = u)) := Lib.hid fun u hu => len_mine (hm4.bel HF2.out hu)
  rw [hb4] at hbg
  have HD := Lib.hid hd
  have HG := Lib.hid hbg
  have HM4 := Lib.hid hm4
  have HW3 := Lib.hid hW3
  have HB4 := Lib.hid hb4
  unfold ptr cmV at HD
  obtain ⟨q0, q1, q2, q3, q4, q5⟩ := Cw.blk6 hbg
  clear hm3 hW3 hb3 hbg hm4 hd hde htp hs hb4 e0 e1 HA
  go_upto_region 6 with fail
  rw [HW3.out, HB4.out]
  go_wp2_with fail
  refine HD.out.mono ?_
  rintro e w4 ⟨A, k, rfl, hrs, hb4⟩
  obtain ⟨S4, hI4, ⟨⟨hN4, hA4⟩, _⟩⟩ := HM4.out
  have hrs : Rs w4 A 1 k [(0, 1)] := hrs
  obtain ⟨g, o, x, rfl, hg, hx, hc0, hc1⟩ := hrs.at_ (k := 0) (by omega)
  have hx' : x = (0, 1) := by simpa using hx.symm
  subst hx'
  rw [show o + 0 * 2 = o by omega] at hc0 hc1
  have HC0 := Lib.hid (And.intro hc0 hc1)
  have HGL := Lib.hid hg
  have HBA := Lib.hid (hA4.1.bel hb4)
  have HBG := Lib.hid (HG.out.bel hb4)
  have HSEQ := Lib.hid (fun u (hu : Below w4.heap.size w4 u) => HSQ.out u (bel_trans hb4 hu))
  have HLEN := Lib.hid (fun u (hu : Below w4.heap.size w4 u) => HLN.out u (bel_trans hb4 hu))
  have heq := eql_id (0, 1) (0, 1)
  have HEQ : Hid (∀ w, (binOp .eql 26 (.agg #[.int .i64 0, .int .i64 1]) (.agg #[.int .i64 0, .int .i64 1])).run Try.prog w = .ok (.bool true) w) := Lib.hid heq
  have HFIN := Lib.hid (show Below w.heap.size w w4 from hN4.2.trans (hb4.mono hN4.2.size))
  have HS0 := Lib.hid (show Below w4.heap.size w4 w4.drew from Below.drew (Below.refl _ _))
  clear hrs hb4 hI4 hN4 hA4 hg hx hc0 hc1 heq q0 q1 q2 q3 q4 q5
  go_upto_region 7 with fail
  refine wp_region_held_drew (S := (fun w' => Below w4.heap.size w4 w')) (by kernel_rfl) (by first | (with_reducible exact HS1.out) | (with_reducible exact HS0.out)) (fun hHeld => ?_)
  refine held_take (i := 0) (d := 22) (v := (.slice (some ⟨g, o, none⟩) 1 k)) rfl rfl (by kernel_rfl) (by kernel_rfl) (by kernel_rfl) (fun _ _ _ h => h) (by kernel_rfl) (fun w hSw => by (obtain hS := hSw); go_simp) hHeld ?_
  try simp only [List.setIfInBounds_toArray, List.set_cons_zero, List.set_cons_succ]
  refine held_take (i := 1) (d := 23) (v := (.int .i64 1)) rfl rfl (by kernel_rfl) (by kernel_rfl) (by kernel_rfl) (fun _ _ _ h => h) (by kernel_rfl) (fun w hSw => by (obtain hS := hSw); go_simp) hHeld ?_
  try simp only [List.setIfInBounds_toArray, List.set_cons_zero, List.set_cons_succ]
  refine held_take (i := 2) (d := 24) (v := (.bool true)) rfl rfl (by kernel_rfl) (by kernel_rfl) (by kernel_rfl) (fun _ _ _ h => h) (by kernel_rfl) (fun w hSw => by (obtain hS := hSw); go_simp) hHeld ?_
  try simp only [List.setIfInBounds_toArray, List.set_cons_zero, List.set_cons_succ]
  refine held_take (i := 3) (d := 25) (v := (.bool true)) rfl rfl (by kernel_rfl) (by kernel_rfl) (by kernel_rfl) (fun _ _ _ h => h) (by kernel_rfl) (fun w hSw => by (obtain hS := hSw); go_simp) hHeld ?_
  try simp only [List.setIfInBounds_toArray, List.set_cons_zero, List.set_cons_succ]
  refine held_take (i := 4) (d := 26) (v := (.slice (some ⟨g, o, none⟩) 1 k)) rfl rfl (by kernel_rfl) (by kernel_rfl) (by kernel_rfl) (fun _ _ _ h => h) (by kernel_rfl) (fun w hSw => by (obtain hS := hSw); go_simp) hHeld ?_
  try simp only [List.setIfInBounds_toArray, List.set_cons_zero, List.set_cons_succ]
  refine held_take (i := 5) (d := 27) (v := (.pointer (some ⟨g, o, none⟩))) rfl rfl (by kernel_rfl) (by kernel_rfl) (by kernel_rfl) (fun _ _ _ h => h) (by kernel_rfl) (fun w hSw => by (obtain hS := hSw); go_simp) hHeld ?_
  try simp only [List.setIfInBounds_toArray, List.set_cons_zero, List.set_cons_succ]
  refine held_take (i := 6) (d := 28) (v := (.agg #[.int .i64 0, .int .i64 1])) rfl rfl (by kernel_rfl) (by kernel_rfl) (by kernel_rfl) (fun _ _ _ h => h) (by kernel_rfl) (fun w1 hSw => by (have h0 := (hSw.cell (p := ⟨g, o, none⟩) HGL.out).trans HC0.out.1; have h1 := (hSw.cell (p := ⟨g, o + 1, none⟩) HGL.out).trans HC0.out.2; go_simp)) hHeld ?_
  try simp only [List.setIfInBounds_toArray, List.set_cons_zero, List.set_cons_succ]
  refine held_take (i := 7) (d := 29) (v := (.agg #[.int .i64 0, .int .i64 1])) rfl rfl (by kernel_rfl) (by kernel_rfl) (by kernel_rfl) (fun _ _ _ h => h) (by kernel_rfl) (run_load_blk 26 (.tmp 2) rfl b2 26 #[.int .i64 0, .int .i64 1] _ rfl (fun _ h => HBA.out.bel h) Try.underlying26 rfl (by kernel_rfl)) hHeld ?_
  try simp only [List.setIfInBounds_toArray, List.set_cons_zero, List.set_cons_succ]
  refine held_take (i := 8) (d := 30) (v := (.bool true)) rfl rfl (by kernel_rfl) (by kernel_rfl) (by kernel_rfl) (fun _ _ _ h => h) (by kernel_rfl) (fun w _ => by (have hq := HEQ.out w; go_simp)) hHeld ?_
  try simp only [List.setIfInBounds_toArray, List.set_cons_zero, List.set_cons_succ]
  refine held_take (i := 9) (d := 31) (v := (.bool true)) rfl rfl (by kernel_rfl) (by kernel_rfl) (by kernel_rfl) (fun _ _ _ h => h) (by kernel_rfl) (fun w hSw => by (obtain hS := hSw); go_simp) hHeld ?_
  try simp only [List.setIfInBounds_toArray, List.set_cons_zero, List.set_cons_succ]
  refine held_take (i := 10) (d := 32) (v := (.bool true)) rfl rfl (by kernel_rfl) (by kernel_rfl) (by kernel_rfl) (fun _ _ _ h => h) (by kernel_rfl) (fun w hSw => by (obtain hS := hSw); go_simp) hHeld ?_
  try simp only [List.setIfInBounds_toArray, List.set_cons_zero, List.set_cons_succ]
  refine held_take (i := 11) (d := 33) (v := (.pointer (some ⟨p, 0, none⟩))) rfl rfl (by kernel_rfl) (by kernel_rfl) (by kernel_rfl) (fun _ _ _ h => h) (by kernel_rfl) (fun w hSw => by (obtain hS := hSw); go_simp) hHeld ?_
  try simp only [List.setIfInBounds_toArray, List.set_cons_zero, List.set_cons_succ]
  refine held_take (i := 12) (d := 34) (v := (.agg #[.int .i64 1, .int .i64 3, .int .i64 1, .string ⟨#[97]⟩, .string ⟨#[]⟩, .int .i64 0])) rfl rfl (by kernel_rfl) (by kernel_rfl) (by kernel_rfl) (fun _ _ _ h => h) (by kernel_rfl) (run_load_blk 24 (.tmp 4) rfl b4 24 #[.int .i64 1, .int .i64 3, .int .i64 1, .string ⟨#[97]⟩, .string ⟨#[]⟩, .int .i64 0] _ rfl (fun _ h => HBG.out.bel h) Try.underlying24 rfl (by kernel_rfl)) hHeld ?_
  try simp only [List.setIfInBounds_toArray, List.set_cons_zero, List.set_cons_succ]
  refine held_take (i := 13) (d := 35) (v := (.agg #[.int .i64 0, .int .i64 0])) rfl rfl (by kernel_rfl) (by kernel_rfl) (by kernel_rfl) (fun _ _ _ h => h) (by kernel_rfl) (fun w hSw => by (obtain hS := hSw); go_simp) hHeld ?_
  try simp only [List.setIfInBounds_toArray, List.set_cons_zero, List.set_cons_succ]
  refine wpAnyH_ready (rs := [14]) (by kernel_rfl) (by simp) ?_
  refine AllReadyH.cons rfl (fun K hK => ?_) AllReadyH.nil
  go_simp
  go_at_call 17
  (with_reducible refine (HSEQ.out _ HS0.out).mono ?_)
  rintro e u ⟨rfl, hu⟩
  have HS1 := Lib.hid (bel_trans HS0.out hu)
  clear hu
  refine hK.out _ _ (by first | (with_reducible exact HS1.out) | (with_reducible exact HS0.out)) (fun hHeld => ?_)
  clear hK K
  refine held_take (i := 15) (d := 37) (v := (.bool true)) rfl rfl (by kernel_rfl) (by kernel_rfl) (by kernel_rfl) (fun _ _ _ h => h) (by kernel_rfl) (fun w hSw => by (obtain hS := hSw); go_simp) hHeld ?_
  try simp only [List.setIfInBounds_toArray, List.set_cons_zero, List.set_cons_succ]
  refine held_take (i := 16) (d := 38) (v := (.bool true)) rfl rfl (by kernel_rfl) (by kernel_rfl) (by kernel_rfl) (fun _ _ _ h => h) (by kernel_rfl) (fun w hSw => by (obtain hS := hSw); go_simp) hHeld ?_
  try simp only [List.setIfInBounds_toArray, List.set_cons_zero, List.set_cons_succ]
  refine held_take (i := 17) (d := 39) (v := (.bool true)) rfl rfl (by kernel_rfl) (by kernel_rfl) (by kernel_rfl) (fun _ _ _ h => h) (by kernel_rfl) (fun w hSw => by (obtain hS := hSw); go_simp) hHeld ?_
  try simp only [List.setIfInBounds_toArray, List.set_cons_zero, List.set_cons_succ]
  refine held_take (i := 18) (d := 40) (v := (.pointer (some ⟨p, 0, none⟩))) rfl rfl (by kernel_rfl) (by kernel_rfl) (by kernel_rfl) (fun _ _ _ h => h) (by kernel_rfl) (fun w hSw => by (obtain hS := hSw); go_simp) hHeld ?_
  try simp only [List.setIfInBounds_toArray, List.set_cons_zero, List.set_cons_succ]
  refine wpAnyH_ready (rs := [19]) (by kernel_rfl) (by simp) ?_
  refine AllReadyH.cons rfl (fun K hK => ?_) AllReadyH.nil
  go_simp
  go_at_call 13
  (with_reducible refine (HLEN.out _ HS1.out).mono ?_)
  rintro e u' ⟨rfl, hu⟩
  subst hu
  refine hK.out _ _ (by first | (with_reducible exact HS1.out) | (with_reducible exact HS0.out)) (fun hHeld => ?_)
  clear hK K
  refine held_take (i := 20) (d := 42) (v := (.bool true)) rfl rfl (by kernel_rfl) (by kernel_rfl) (by kernel_rfl) (fun _ _ _ h => h) (by kernel_rfl) (fun w hSw => by (obtain hS := hSw); go_simp) hHeld ?_
  try simp only [List.setIfInBounds_toArray, List.set_cons_zero, List.set_cons_succ]
  refine held_take (i := 21) (d := 43) (v := (.bool true)) rfl rfl (by kernel_rfl) (by kernel_rfl) (by kernel_rfl) (fun _ _ _ h => h) (by kernel_rfl) (fun w hSw => by (obtain hS := hSw); go_simp) hHeld ?_
  try simp only [List.setIfInBounds_toArray, List.set_cons_zero, List.set_cons_succ]
  refine held_take (i := 22) (d := 0) (v := (.bool true)) rfl rfl (by kernel_rfl) (by kernel_rfl) (by kernel_rfl) (fun _ _ _ h => h) (by kernel_rfl) (fun w hSw => by (obtain hS := hSw); go_simp) hHeld ?_
  try simp only [List.setIfInBounds_toArray, List.set_cons_zero]
  refine wpAnyH_done (by kernel_rfl) ?_ _
  go_wp2_with fail
  go_ret
  exact ⟨rfl, bel_trans HFIN.out HS1.out⟩
end Go.Proofs.Ytlcggldcofncgaa.Ix
