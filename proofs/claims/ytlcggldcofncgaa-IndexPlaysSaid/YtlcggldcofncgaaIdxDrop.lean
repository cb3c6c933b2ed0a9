/-
  Texts of earlier layers, as one.
-/
import Derived.Test.YtlcggldcofncgaaIdxAsk
import Derived.Test.YtlcggldcofncgaaIdxLeave
/- The program's Drop. -/
namespace Go.Proofs.Ytlcggldcofncgaa.Ix
open Go.RowKit Mem Dsk Go.Maps Ky Cmd


set_option maxRecDepth 20000 in
set_option maxHeartbeats 8000000 in
theorem drop_any {S : Nat → Prop} {p M : Nat} {l : List En} (i : Int × Int) (w : World) (hw : II w S p M l) (hi : Wf i) :
    Calls Try.prog 12 #[ptr p, .agg #[.int .i64 i.1, .int .i64 i.2]] w (fun e w' => e = .returned (.tuple #[]) ∧ II w' S p M (dropE l i) ∧ Keeps S w w') := by
  have hii := hw
  obtain ⟨g1, g2, g3, g4, G, m, fk, fc, ho⟩ := hw
  obtain ⟨i1, i2⟩ := i
  have hb1 := bel_alloc (Below.refl w.heap.size w) (.cells #[.int .i64 i1, .int .i64 i2] 26)
  have hbx := Blk.new w 26 #[.int .i64 i1, .int .i64 i2]
  obtain ⟨W, hW⟩ : ∃ v, w.alloc (.cells #[.int .i64 i1, .int .i64 i2] 26) = v := ⟨_, rfl⟩
  have hsW : W.heap.size = w.heap.size + 1 := by rw [← hW]; simp
  rw [hW] at hb1 hbx
  have hoW := ho.below hb1
  have hlk : ∀ W', Below W.heap.size W W' → (Instr.lookup 54 (.map (some g1)) (.agg #[.int .i64 i1, .int .i64 i2]) true).run Try.prog W' = .ok (.tuple #[entE ((heldF l (i1, i2)).getD (zeroCm, 0)), .bool (heldF l (i1, i2)).isSome]) W' := fun W' hb => (hoW.held.bel hb hoW.held.lt).look_ok (x := (i1, i2)) Try.underlying54 zero_ent hi
  have HBX := Lib.hid hbx
  have HC := Lib.hid hoW.cells
  have HPL := Lib.hid (show p < W.heap.size from hoW.box.lt)
  have HB := Lib.hid hb1
  have HW := Lib.hid hW
  have HSW := Lib.hid hsW
  have HS0 := Lib.hid (show Below W.heap.size W W.drew from Below.drew (Below.refl _ _))
  cases hf : heldF l (i1, i2) with
  | none =>
    rw [dropE_out (heldF_none hf)]
    rw [hf] at hlk
    obtain ⟨x, hx⟩ : ∃ x, (none : Option (Cm × Int)).getD (zeroCm, 0) = x := ⟨_, rfl⟩
    rw [hx] at hlk
    obtain ⟨⟨kd, cl, sq, ky, vl, rv⟩, s⟩ := x
    have HLK : Hid (∀ W', Below W.heap.size W W' → (Instr.lookup 54 (.map (some g1)) (.agg #[.int .i64 i1, .int .i64 i2]) true).run Try.prog W' = .ok (.tuple #[.agg #[.int .i64 kd, .int .i64 cl, .int .i64 sq, .string ky, .string vl, .int .i64 rv, .int .i64 s], .bool false]) W') := Lib.hid hlk
    have HII := Lib.hid hii
    clear hlk hx hf hii ho hb1 hbx hW hsW hoW hi
    unfold ptr
    go_enter Try.func12, Try.ntmps12
    go_upto_region 1 with fail
    rw [HW.out]
    refine wp_region_held_drew (S := (fun w' => Below W.heap.size W w')) (by kernel_rfl) (by first | (with_reducible exact HS0.out) | (with_reducible exact HS1.out) | (with_reducible exact HS2.out)) (fun hHeld => ?_)
    refine held_take (i := 0) (d := 7) (v := (.pointer (some ⟨p, 0, none⟩))) rfl rfl (by kernel_rfl) (by kernel_rfl) (by kernel_rfl) (fun _ _ _ h => h) (by kernel_rfl) (fun w hSw => by (obtain hS := hSw); go_simp) hHeld ?_
    try simp only [List.setIfInBounds_toArray, List.set_cons_zero, List.set_cons_succ]
    refine held_take (i := 1) (d := 8) (v := (.pointer (some ⟨p, 0, none⟩))) rfl rfl (by kernel_rfl) (by kernel_rfl) (by kernel_rfl) (fun _ _ _ h => h) (by kernel_rfl) (fun w hSw => by (obtain hS := hSw); go_simp) hHeld ?_
    try simp only [List.setIfInBounds_toArray, List.set_cons_zero, List.set_cons_succ]
    refine held_take (i := 2) (d := 9) (v := (.pointer (some ⟨p, 0, none⟩))) rfl rfl (by kernel_rfl) (by kernel_rfl) (by kernel_rfl) (fun _ _ _ h => h) (by kernel_rfl) (fun w hSw => by (obtain hS := hSw); go_simp) hHeld ?_
    try simp only [List.setIfInBounds_toArray, List.set_cons_zero, List.set_cons_succ]
    refine held_take (i := 3) (d := 10) (v := (.map (some g1))) rfl rfl (by kernel_rfl) (by kernel_rfl) (by kernel_rfl) (fun _ _ _ h => h) (by kernel_rfl) (fun w1 hSw => by (have h0 := (hSw.cell (p := ⟨p, 0, none⟩) HPL.out).trans HC.out.1; go_simp)) hHeld ?_
    try simp only [List.setIfInBounds_toArray, List.set_cons_zero, List.set_cons_succ]
    refine held_take (i := 4) (d := 11) (v := (.agg #[.int .i64 i1, .int .i64 i2])) rfl rfl (by kernel_rfl) (by kernel_rfl) (by kernel_rfl) (fun _ _ _ h => h) (by kernel_rfl) (run_load_blk 26 (.tmp 3) rfl w.heap.size 26 #[.int .i64 i1, .int .i64 i2] _ rfl (fun _ h => HBX.out.bel h) Try.underlying26 rfl (by kernel_rfl)) hHeld ?_
    try simp only [List.setIfInBounds_toArray, List.set_cons_zero, List.set_cons_succ]
    refine held_take (i := 5) (d := 12) (v := (.tuple #[.agg #[.int .i64 kd, .int .i64 cl, .int .i64 sq, .string ky, .string vl, .int .i64 rv, .int .i64 s], .bool false])) rfl rfl (by kernel_rfl) (by kernel_rfl) (by kernel_rfl) (fun _ _ _ h => h) (by kernel_rfl) (fun w1 hSw => by (have h0 := HLK.out _ hSw; go_simp)) hHeld ?_
    try simp only [List.setIfInBounds_toArray, List.set_cons_zero, List.set_cons_succ]
    refine held_take (i := 6) (d := 6) (v := (.tuple #[.agg #[.int .i64 kd, .int .i64 cl, .int .i64 sq, .string ky, .string vl, .int .i64 rv, .int .i64 s], .bool false])) rfl rfl (by kernel_rfl) (by kernel_rfl) (by kernel_rfl) (fun _ _ _ h => h) (by kernel_rfl) (fun w hSw => by (obtain hS := hSw); go_simp) hHeld ?_
    try simp only [List.setIfInBounds_toArray, List.set_cons_zero, List.set_cons_succ]
    refine held_take (i := 7) (d := 13) (v := (.agg #[.int .i64 kd, .int .i64 cl, .int .i64 sq, .string ky, .string vl, .int .i64 rv, .int .i64 s])) rfl rfl (by kernel_rfl) (by kernel_rfl) (by kernel_rfl) (fun _ _ _ h => h) (by kernel_rfl) (fun w hSw => by (obtain hS := hSw); go_simp) hHeld ?_
    try simp only [List.setIfInBounds_toArray, List.set_cons_zero, List.set_cons_succ]
    refine held_take (i := 8) (d := 14) (v := (.bool false)) rfl rfl (by kernel_rfl) (by kernel_rfl) (by kernel_rfl) (fun _ _ _ h => h) (by kernel_rfl) (fun w hSw => by (obtain hS := hSw); go_simp) hHeld ?_
    try simp only [List.setIfInBounds_toArray, List.set_cons_zero, List.set_cons_succ]
    refine wpAnyH_ready (rs := [9]) (by kernel_rfl) (by simp) ?_
    refine AllReadyH.cons rfl (fun K hK => ?_) AllReadyH.nil
    go_simp
    have HS1 := Lib.hid (show Below W.heap.size W (W.alloc (.cells #[.int .i64 0, .int .i64 0, .int .i64 0, .string ⟨#[]⟩, .string ⟨#[]⟩, .int .i64 0, .int .i64 0] 63)).drew from Below.drew (bel_alloc (Below.refl _ _) _))
    refine hK.out _ _ (by first | (with_reducible exact HS0.out) | (with_reducible exact HS1.out) | (with_reducible exact HS2.out)) (fun hHeld => ?_)
    clear hK K
    refine wpAnyH_ready (rs := [10]) (by kernel_rfl) (by simp) ?_
    refine AllReadyH.cons rfl (fun K hK => ?_) AllReadyH.nil
    refine step_store_blk rfl 63 (.tmp 4) (.tmp 13) rfl W.heap.size 63 #[.int .i64 0, .int .i64 0, .int .i64 0, .string ⟨#[]⟩, .string ⟨#[]⟩, .int .i64 0, .int .i64 0] #[.int .i64 kd, .int .i64 cl, .int .i64 sq, .string ky, .string vl, .int .i64 rv, .int .i64 s] rfl rfl (show Blk (W.alloc (.cells #[.int .i64 0, .int .i64 0, .int .i64 0, .string ⟨#[]⟩, .string ⟨#[]⟩, .int .i64 0, .int .i64 0] 63)).drew W.heap.size 63 #[.int .i64 0, .int .i64 0, .int .i64 0, .string ⟨#[]⟩, .string ⟨#[]⟩, .int .i64 0, .int .i64 0] from Blk.new W 63 #[.int .i64 0, .int .i64 0, .int .i64 0, .string ⟨#[]⟩, .string ⟨#[]⟩, .int .i64 0, .int .i64 0]) (by kernel_rfl) rfl (by kernel_rfl) ?_
    intro u3 hblk hg3
    show K (Act.put _ none _) _
    try simp only [Act.put]
    have hb3 := bel_grown HS1.out hg3 (fun k e => by injection e with e; subst e; exact Nat.le_refl _)
    have HS2 := Lib.hid hb3
    have HEND := Lib.hid hblk
    clear hblk hg3 hb3
    refine hK.out _ _ (by first | (with_reducible exact HS0.out) | (with_reducible exact HS1.out) | (with_reducible exact HS2.out)) (fun hHeld => ?_)
    clear hK K
    refine held_take (i := 11) (d := 5) (v := (.bool false)) rfl rfl (by kernel_rfl) (by kernel_rfl) (by kernel_rfl) (fun _ _ _ h => h) (by kernel_rfl) (fun w hSw => by (obtain hS := hSw); go_simp) hHeld ?_
    try simp only [List.setIfInBounds_toArray]
    refine wpAnyH_done (by kernel_rfl) ?_ _
    go_wp2_with fail
    refine bodyPost_ret (results_none rfl _ _ _) rfl ?_
    have hb := bel_trans HB.out HS2.out
    exact ⟨rfl, ii_below HII.out hb, Keeps.ofBelow hb⟩
  | some x =>
    obtain ⟨e, hel, hei, hxe⟩ := heldF_some hf
    have hky := ho.ky_ok hel
    have hcl := ho.cl_ok hel
    rw [hf] at hlk
    subst hxe
    have hlen := length_dropE_in ho.uq hel
    rw [hei] at hlen
    obtain ⟨c', hc'⟩ : ∃ c', ask e.c = c' := ⟨_, rfl⟩
    rw [hc'] at hky hcl
    obtain ⟨s, hs⟩ : ∃ s, e.s = s := ⟨_, rfl⟩
    obtain ⟨kd, cl, sq, ky, vl, rv⟩ := c'
    have HLK : Hid (∀ W', Below W.heap.size W W' → (Instr.lookup 54 (.map (some g1)) (.agg #[.int .i64 i1, .int .i64 i2]) true).run Try.prog W' = .ok (.tuple #[.agg #[.int .i64 kd, .int .i64 cl, .int .i64 sq, .string ky, .string vl, .int .i64 rv, .int .i64 s], .bool true]) W') := by
      refine Lib.hid ?_
      intro W' hb
      have := hlk W' hb
      rw [Option.getD_some, hc', hs] at this
      exact this
    have hky : ky.size ≤ maxLen := hky
    have hcl : (Lit.int .i64 cl).wf = true := hcl
    have HO := Lib.hid hoW
    have HI := Lib.hid hi
    have HKY := Lib.hid hky
    have HCL := Lib.hid hcl
    have HSF := Lib.hid (show (heldF l (i1, i2)).isSome = true by rw [hf]; rfl)
    have HLEN := Lib.hid hlen
    have HLT := Lib.hid ho.lt
    clear hlk hf hii ho hb1 hbx hW hsW hoW hi hel hei hc' hs hky hcl hlen
    unfold ptr
    go_enter Try.func12, Try.ntmps12
    go_upto_region 1 with fail
    rw [HW.out]
    refine wp_region_held_drew (S := (fun w' => Below W.heap.size W w')) (by kernel_rfl) (by first | (with_reducible exact HS0.out) | (with_reducible exact HS1.out) | (with_reducible exact HS2.out)) (fun hHeld => ?_)
    refine held_take (i := 0) (d := 7) (v := (.pointer (some ⟨p, 0, none⟩))) rfl rfl (by kernel_rfl) (by kernel_rfl) (by kernel_rfl) (fun _ _ _ h => h) (by kernel_rfl) (fun w hSw => by (obtain hS := hSw); go_simp) hHeld ?_
    try simp only [List.setIfInBounds_toArray, List.set_cons_zero, List.set_cons_succ]
    refine held_take (i := 1) (d := 8) (v := (.pointer (some ⟨p, 0, none⟩))) rfl rfl (by kernel_rfl) (by kernel_rfl) (by kernel_rfl) (fun _ _ _ h => h) (by kernel_rfl) (fun w hSw => by (obtain hS := hSw); go_simp) hHeld ?_
    try simp only [List.setIfInBounds_toArray, List.set_cons_zero, List.set_cons_succ]
    refine held_take (i := 2) (d := 9) (v := (.pointer (some ⟨p, 0, none⟩))) rfl rfl (by kernel_rfl) (by kernel_rfl) (by kernel_rfl) (fun _ _ _ h => h) (by kernel_rfl) (fun w hSw => by (obtain hS := hSw); go_simp) hHeld ?_
    try simp only [List.setIfInBounds_toArray, List.set_cons_zero, List.set_cons_succ]
    refine held_take (i := 3) (d := 10) (v := (.map (some g1))) rfl rfl (by kernel_rfl) (by kernel_rfl) (by kernel_rfl) (fun _ _ _ h => h) (by kernel_rfl) (fun w1 hSw => by (have h0 := (hSw.cell (p := ⟨p, 0, none⟩) HPL.out).trans HC.out.1; go_simp)) hHeld ?_
    try simp only [List.setIfInBounds_toArray, List.set_cons_zero, List.set_cons_succ]
    refine held_take (i := 4) (d := 11) (v := (.agg #[.int .i64 i1, .int .i64 i2])) rfl rfl (by kernel_rfl) (by kernel_rfl) (by kernel_rfl) (fun _ _ _ h => h) (by kernel_rfl) (run_load_blk 26 (.tmp 3) rfl w.heap.size 26 #[.int .i64 i1, .int .i64 i2] _ rfl (fun _ h => HBX.out.bel h) Try.underlying26 rfl (by kernel_rfl)) hHeld ?_
    try simp only [List.setIfInBounds_toArray, List.set_cons_zero, List.set_cons_succ]
    refine held_take (i := 5) (d := 12) (v := (.tuple #[.agg #[.int .i64 kd, .int .i64 cl, .int .i64 sq, .string ky, .string vl, .int .i64 rv, .int .i64 s], .bool true])) rfl rfl (by kernel_rfl) (by kernel_rfl) (by kernel_rfl) (fun _ _ _ h => h) (by kernel_rfl) (fun w1 hSw => by (have h0 := HLK.out _ hSw; go_simp)) hHeld ?_
    try simp only [List.setIfInBounds_toArray, List.set_cons_zero, List.set_cons_succ]
    refine held_take (i := 6) (d := 6) (v := (.tuple #[.agg #[.int .i64 kd, .int .i64 cl, .int .i64 sq, .string ky, .string vl, .int .i64 rv, .int .i64 s], .bool true])) rfl rfl (by kernel_rfl) (by kernel_rfl) (by kernel_rfl) (fun _ _ _ h => h) (by kernel_rfl) (fun w hSw => by (obtain hS := hSw); go_simp) hHeld ?_
    try simp only [List.setIfInBounds_toArray, List.set_cons_zero, List.set_cons_succ]
    refine held_take (i := 7) (d := 13) (v := (.agg #[.int .i64 kd, .int .i64 cl, .int .i64 sq, .string ky, .string vl, .int .i64 rv, .int .i64 s])) rfl rfl (by kernel_rfl) (by kernel_rfl) (by kernel_rfl) (fun _ _ _ h => h) (by kernel_rfl) (fun w hSw => by (obtain hS := hSw); go_simp) hHeld ?_
    try simp only [List.setIfInBounds_toArray, List.set_cons_zero, List.set_cons_succ]
    refine held_take (i := 8) (d := 14) (v := (.bool true)) rfl rfl (by kernel_rfl) (by kernel_rfl) (by kernel_rfl) (fun _ _ _ h => h) (by kernel_rfl) (fun w hSw => by (obtain hS := hSw); go_simp) hHeld ?_
    try simp only [List.setIfInBounds_toArray, List.set_cons_zero, List.set_cons_succ]
    refine wpAnyH_ready (rs := [9]) (by kernel_rfl) (by simp) ?_
    refine AllReadyH.cons rfl (fun K hK => ?_) AllReadyH.nil
    go_simp
    have HS1 := Lib.hid (show Below W.heap.size W (W.alloc (.cells #[.int .i64 0, .int .i64 0, .int .i64 0, .string ⟨#[]⟩, .string ⟨#[]⟩, .int .i64 0, .int .i64 0] 63)).drew from Below.drew (bel_alloc (Below.refl _ _) _))
    refine hK.out _ _ (by first | (with_reducible exact HS0.out) | (with_reducible exact HS1.out) | (with_reducible exact HS2.out)) (fun hHeld => ?_)
    clear hK K
    refine wpAnyH_ready (rs := [10]) (by kernel_rfl) (by simp) ?_
    refine AllReadyH.cons rfl (fun K hK => ?_) AllReadyH.nil
    refine step_store_blk rfl 63 (.tmp 4) (.tmp 13) rfl W.heap.size 63 #[.int .i64 0, .int .i64 0, .int .i64 0, .string ⟨#[]⟩, .string ⟨#[]⟩, .int .i64 0, .int .i64 0] #[.int .i64 kd, .int .i64 cl, .int .i64 sq, .string ky, .string vl, .int .i64 rv, .int .i64 s] rfl rfl (show Blk (W.alloc (.cells #[.int .i64 0, .int .i64 0, .int .i64 0, .string ⟨#[]⟩, .string ⟨#[]⟩, .int .i64 0, .int .i64 0] 63)).drew W.heap.size 63 #[.int .i64 0, .int .i64 0, .int .i64 0, .string ⟨#[]⟩, .string ⟨#[]⟩, .int .i64 0, .int .i64 0] from Blk.new W 63 #[.int .i64 0, .int .i64 0, .int .i64 0, .string ⟨#[]⟩, .string ⟨#[]⟩, .int .i64 0, .int .i64 0]) (by kernel_rfl) rfl (by kernel_rfl) ?_
    intro u3 hblk hg3
    show K (Act.put _ none _) _
    try simp only [Act.put]
    have hb3 := bel_grown HS1.out hg3 (fun k e => by injection e with e; subst e; exact Nat.le_refl _)
    have HS2 := Lib.hid hb3
    have HEND := Lib.hid hblk
    clear hblk hg3 hb3
    refine hK.out _ _ (by first | (with_reducible exact HS0.out) | (with_reducible exact HS1.out) | (with_reducible exact HS2.out)) (fun hHeld => ?_)
    clear hK K
    refine held_take (i := 11) (d := 5) (v := (.bool true)) rfl rfl (by kernel_rfl) (by kernel_rfl) (by kernel_rfl) (fun _ _ _ h => h) (by kernel_rfl) (fun w hSw => by (obtain hS := hSw); go_simp) hHeld ?_
    try simp only [List.setIfInBounds_toArray]
    refine wpAnyH_done (by kernel_rfl) ?_ _
    go_upto_region 3 with fail
    clear HS0 HS1
    have ho3 := HO.out.below HS2.out
    have hb3 := HBX.out.bel HS2.out
    have hsz3 := HS2.out.size
    have hsw := HSW.out
    obtain ⟨s0, s1, s2, s3⟩ := ho3.mine
    obtain ⟨hp1, hp2, hp3, h12, h13, h23⟩ := ho3.ap
    obtain ⟨aG0, aG1, aG2, aG3⟩ := ho3.aG
    have hws : ¬ S w.heap.size := fun h => by have := HLT.out _ h; omega
    have hWs : ¬ S W.heap.size := fun h => by have := HLT.out _ h; omega
    obtain ⟨V1, hr1, hm1, ht1⟩ := (show Mp idK entE u3.drew g1 l.length (heldF l) from ho3.held).drop (x := (i1, i2)) Try.underlying54 HI.out 0
    rw [HSF.out, if_pos rfl] at hm1
    have hK1 := drew_turned ht1
    have hb41 := blk_kept hb3 hK1 fun e => hws (by rw [e]; exact s1)
    have he41 := blk_kept HEND.out hK1 fun e => hWs (by rw [e]; exact s1)
    have hx41 := blk_kept ho3.box hK1 hp1
    obtain ⟨N4, hN4, hg4⟩ := ho3.grp g4 ho3.wide
    have hg41 := hg4.keep (hK1.block g4 hg4.lt fun e => aG1 (by rw [← e]; exact ho3.wide))
    obtain ⟨V2, hr2, hm2, ht2⟩ := (show Mp idK unE V1.drew g4 N4 (m g4) from hg41).drop (x := (i1, i2)) Try.underlying58 HI.out 0
    have hK2 := drew_turned ht2
    have w4 := ho3.wide
    have hsz1 := hK1.size
    have hsz2 := hK2.size
    have hb42 := blk_kept hb41 hK2 fun e => hws (by rw [e]; exact ho3.mineG g4 w4)
    have he42 := blk_kept he41 hK2 fun e => hWs (by rw [e]; exact ho3.mineG g4 w4)
    have hx42 := blk_kept hx41 hK2 fun e => aG0 (by have e : p = g4 := e; rw [e]; exact w4)
    have hold2 : ∀ k, k < u3.heap.size → k ≠ g1 → k ≠ g4 → V2.heap[k]? = u3.heap[k]? := fun k hk h1 h4 => (hK2.block k (by omega) h4).trans (hK1.block k hk h1)
    have hn2 : (if ((m g4) (i1, i2)).isSome then N4 - 1 else N4) ≤ M := by split <;> omega
    have hG2 : Grps V2 G (atG g4 (upd (m g4) (i1, i2) none) m) M := fun g hg => by
      by_cases e : g = g4
      · subst e
        rw [atG_same]
        exact ⟨_, hn2, hm2⟩
      · rw [atG_other e]
        obtain ⟨n, hn, h⟩ := ho3.grp g hg
        exact ⟨n, hn, h.keep (hold2 g h.lt (fun e1 => aG1 (by rw [← e1]; exact hg)) e)⟩
    obtain ⟨N2, hN2, hk2⟩ := ho3.byK
    have hk22 := hk2.keep (hold2 g2 hk2.lt (fun e => h12 e.symm) fun e => aG2 (by rw [e]; exact w4))
    obtain ⟨N3, hN3, hk3⟩ := ho3.byC
    have hk32 := hk3.keep (hold2 g3 hk3.lt (fun e => h13 e.symm) fun e => aG3 (by rw [e]; exact w4))
    have hlv := leave_str ky (i1, i2) V2.drew (show Mp strK mapE V2.drew g2 N2 fk from hk22) hN2 (show Grps V2.drew G _ M from hG2) ho3.fkG aG2 HKY.out HI.out
    have hr1' : ∀ u, u = u3.drew → (Builtin.delete_ #[54, 26] 0 #[.map (some g1), (.agg #[.int .i64 i1, .int .i64 i2])]).run Try.prog u = .ok (.tuple #[]) V1 := fun u hu => by rw [hu]; exact hr1
    have hr2' : (Builtin.delete_ #[58, 26] 0 #[.map (some g4), (.agg #[.int .i64 i1, .int .i64 i2])]).run Try.prog V1.drew = .ok (.tuple #[]) V2 := hr2
    have hr1 := hr1' _ rfl
    clear hr1' hr2
    have HLV := Lib.hid hlv
    have HX := Lib.hid (And.intro hx42 (And.intro hb42 he42))
    have HS0 := Lib.hid (show u3.drew.cell? ⟨p, 0, none⟩ = some (.map (some g1)) ∧ u3.drew.cell? ⟨w.heap.size, 0, none⟩ = some (.int .i64 i1) ∧ u3.drew.cell? ⟨w.heap.size, 1, none⟩ = some (.int .i64 i2) from ⟨ho3.cells.1, hb3.cell 0, hb3.cell 1⟩)
    have HS1 := Lib.hid (show V1.cell? ⟨p, 0, none⟩ = some (.map (some g1)) ∧ V1.cell? ⟨w.heap.size, 0, none⟩ = some (.int .i64 i1) ∧ V1.cell? ⟨w.heap.size, 1, none⟩ = some (.int .i64 i2) from ⟨hx41.cell 0, hb41.cell 0, hb41.cell 1⟩)
    have HT0 := Lib.hid (show V1.drew.cell? ⟨p, 3, none⟩ = some (.map (some g4)) ∧ V1.drew.cell? ⟨w.heap.size, 0, none⟩ = some (.int .i64 i1) ∧ V1.drew.cell? ⟨w.heap.size, 1, none⟩ = some (.int .i64 i2) from ⟨hx41.cell 3, hb41.cell 0, hb41.cell 1⟩)
    have HT1 := Lib.hid (show V2.cell? ⟨p, 3, none⟩ = some (.map (some g4)) ∧ V2.cell? ⟨w.heap.size, 0, none⟩ = some (.int .i64 i1) ∧ V2.cell? ⟨w.heap.size, 1, none⟩ = some (.int .i64 i2) from ⟨hx42.cell 3, hb42.cell 0, hb42.cell 1⟩)
    have HU0 := Lib.hid (show V2.drew.cell? ⟨p, 1, none⟩ = some (.map (some g2)) ∧ V2.drew.cell? ⟨w.heap.size, 0, none⟩ = some (.int .i64 i1) ∧ V2.drew.cell? ⟨w.heap.size, 1, none⟩ = some (.int .i64 i2) ∧ V2.drew.cell? ⟨W.heap.size, 3, none⟩ = some (.string ky) from ⟨hx42.cell 1, hb42.cell 0, hb42.cell 1, he42.cell 3⟩)
    have HZ := Lib.hid (And.intro hold2 (And.intro hk32 (And.intro hm1 (And.intro hK1 (And.intro hK2 (And.intro hN3 (And.intro hws hWs)))))))
    have HO3 := Lib.hid ho3
    clear hlv hx42 hb42 he42 hx41 hb41 he41 hold2 hk22 hk32 hk2 hk3 hG2 hn2 hN2 hN3 hN4 hg4 hg41 hm1 hm2 ht1 ht2 hK1 hK2 ho3 hb3 hsz3 hsz1 hsz2 hsw s0 s1 s2 s3 hp1 hp2 hp3 h12 h13 h23 aG0 aG1 aG2 aG3 hws hWs w4
    refine wp_region_held_drew (S := (fun w' => w'.cell? ⟨p, 0, none⟩ = some (.map (some g1)) ∧ w'.cell? ⟨w.heap.size, 0, none⟩ = some (.int .i64 i1) ∧ w'.cell? ⟨w.heap.size, 1, none⟩ = some (.int .i64 i2))) (by kernel_rfl) (by first | (with_reducible exact HS0.out) | (with_reducible exact HS1.out) | (with_reducible exact HS2.out)) (fun hHeld => ?_)
    refine held_take (i := 0) (d := 17) (v := (.pointer (some ⟨p, 0, none⟩))) rfl rfl (by kernel_rfl) (by kernel_rfl) (by kernel_rfl) (fun _ _ _ h => h) (by kernel_rfl) (fun w hSw => by (obtain ⟨hS1, hS2, hS3⟩ := hSw); go_simp) hHeld ?_
    try simp only [List.setIfInBounds_toArray, List.set_cons_zero, List.set_cons_succ]
    refine held_take (i := 1) (d := 18) (v := (.pointer (some ⟨p, 0, none⟩))) rfl rfl (by kernel_rfl) (by kernel_rfl) (by kernel_rfl) (fun _ _ _ h => h) (by kernel_rfl) (fun w hSw => by (obtain ⟨hS1, hS2, hS3⟩ := hSw); go_simp) hHeld ?_
    try simp only [List.setIfInBounds_toArray, List.set_cons_zero, List.set_cons_succ]
    refine held_take (i := 2) (d := 19) (v := (.pointer (some ⟨p, 0, none⟩))) rfl rfl (by kernel_rfl) (by kernel_rfl) (by kernel_rfl) (fun _ _ _ h => h) (by kernel_rfl) (fun w hSw => by (obtain ⟨hS1, hS2, hS3⟩ := hSw); go_simp) hHeld ?_
    try simp only [List.setIfInBounds_toArray, List.set_cons_zero, List.set_cons_succ]
    refine held_take (i := 3) (d := 20) (v := (.map (some g1))) rfl rfl (by kernel_rfl) (by kernel_rfl) (by kernel_rfl) (fun _ _ _ h => h) (by kernel_rfl) (fun w hSw => by (obtain ⟨hS1, hS2, hS3⟩ := hSw); go_simp) hHeld ?_
    try simp only [List.setIfInBounds_toArray, List.set_cons_zero, List.set_cons_succ]
    refine held_take (i := 4) (d := 21) (v := (.agg #[.int .i64 i1, .int .i64 i2])) rfl rfl (by kernel_rfl) (by kernel_rfl) (by kernel_rfl) (fun _ _ _ h => h) (by kernel_rfl) (fun w hSw => by (obtain ⟨hS1, hS2, hS3⟩ := hSw); go_simp) hHeld ?_
    try simp only [List.setIfInBounds_toArray, List.set_cons_zero, List.set_cons_succ]
    refine wpAnyH_ready (rs := [5]) (by kernel_rfl) (by simp) ?_
    refine AllReadyH.cons rfl (fun K hK => ?_) AllReadyH.nil
    go_simp
    skip
    refine hK.out _ _ (by first | (with_reducible exact HS0.out) | (with_reducible exact HS1.out) | (with_reducible exact HS2.out)) (fun hHeld => ?_)
    clear hK K
    refine wpAnyH_done (by kernel_rfl) ?_ _
    go_upto_region 4 with fail
    clear HS0 HS1 hr1
    refine wp_region_held_drew (S := (fun w' => w'.cell? ⟨p, 3, none⟩ = some (.map (some g4)) ∧ w'.cell? ⟨w.heap.size, 0, none⟩ = some (.int .i64 i1) ∧ w'.cell? ⟨w.heap.size, 1, none⟩ = some (.int .i64 i2))) (by kernel_rfl) (by first | (with_reducible exact HT0.out) | (with_reducible exact HT1.out) | (with_reducible exact HT1.out)) (fun hHeld => ?_)
    refine held_take (i := 0) (d := 22) (v := (.pointer (some ⟨p, 0, none⟩))) rfl rfl (by kernel_rfl) (by kernel_rfl) (by kernel_rfl) (fun _ _ _ h => h) (by kernel_rfl) (fun w hSw => by (obtain ⟨hS1, hS2, hS3⟩ := hSw); go_simp) hHeld ?_
    try simp only [List.setIfInBounds_toArray, List.set_cons_zero, List.set_cons_succ]
    refine held_take (i := 1) (d := 23) (v := (.pointer (some ⟨p, 0, none⟩))) rfl rfl (by kernel_rfl) (by kernel_rfl) (by kernel_rfl) (fun _ _ _ h => h) (by kernel_rfl) (fun w hSw => by (obtain ⟨hS1, hS2, hS3⟩ := hSw); go_simp) hHeld ?_
    try simp only [List.setIfInBounds_toArray, List.set_cons_zero, List.set_cons_succ]
    refine held_take (i := 2) (d := 24) (v := (.pointer (some ⟨p, 3, none⟩))) rfl rfl (by kernel_rfl) (by kernel_rfl) (by kernel_rfl) (fun _ _ _ h => h) (by kernel_rfl) (fun w hSw => by (obtain ⟨hS1, hS2, hS3⟩ := hSw); go_simp) hHeld ?_
    try simp only [List.setIfInBounds_toArray, List.set_cons_zero, List.set_cons_succ]
    refine held_take (i := 3) (d := 25) (v := (.map (some g4))) rfl rfl (by kernel_rfl) (by kernel_rfl) (by kernel_rfl) (fun _ _ _ h => h) (by kernel_rfl) (fun w hSw => by (obtain ⟨hS1, hS2, hS3⟩ := hSw); go_simp) hHeld ?_
    try simp only [List.setIfInBounds_toArray, List.set_cons_zero, List.set_cons_succ]
    refine held_take (i := 4) (d := 26) (v := (.agg #[.int .i64 i1, .int .i64 i2])) rfl rfl (by kernel_rfl) (by kernel_rfl) (by kernel_rfl) (fun _ _ _ h => h) (by kernel_rfl) (fun w hSw => by (obtain ⟨hS1, hS2, hS3⟩ := hSw); go_simp) hHeld ?_
    try simp only [List.setIfInBounds_toArray, List.set_cons_zero, List.set_cons_succ]
    refine wpAnyH_ready (rs := [5]) (by kernel_rfl) (by simp) ?_
    refine AllReadyH.cons rfl (fun K hK => ?_) AllReadyH.nil
    go_simp
    skip
    refine hK.out _ _ (by first | (with_reducible exact HT0.out) | (with_reducible exact HT1.out) | (with_reducible exact HT1.out)) (fun hHeld => ?_)
    clear hK K
    refine wpAnyH_done (by kernel_rfl) ?_ _
    go_upto_region 5 with fail
    clear HT0 HT1 hr2'
    refine wp_region_held_drew (S := (fun w' => w'.cell? ⟨p, 1, none⟩ = some (.map (some g2)) ∧ w'.cell? ⟨w.heap.size, 0, none⟩ = some (.int .i64 i1) ∧ w'.cell? ⟨w.heap.size, 1, none⟩ = some (.int .i64 i2) ∧ w'.cell? ⟨W.heap.size, 3, none⟩ = some (.string ky))) (by kernel_rfl) (by first | (with_reducible exact HU0.out) | (with_reducible exact HU1.out) | (with_reducible exact HU1.out)) (fun hHeld => ?_)
    refine held_take (i := 0) (d := 27) (v := (.pointer (some ⟨p, 0, none⟩))) rfl rfl (by kernel_rfl) (by kernel_rfl) (by kernel_rfl) (fun _ _ _ h => h) (by kernel_rfl) (fun w hSw => by (obtain ⟨hS1, hS2, hS3, hS4⟩ := hSw); go_simp) hHeld ?_
    try simp only [List.setIfInBounds_toArray, List.set_cons_zero, List.set_cons_succ]
    refine held_take (i := 1) (d := 28) (v := (.pointer (some ⟨p, 0, none⟩))) rfl rfl (by kernel_rfl) (by kernel_rfl) (by kernel_rfl) (fun _ _ _ h => h) (by kernel_rfl) (fun w hSw => by (obtain ⟨hS1, hS2, hS3, hS4⟩ := hSw); go_simp) hHeld ?_
    try simp only [List.setIfInBounds_toArray, List.set_cons_zero, List.set_cons_succ]
    refine held_take (i := 2) (d := 29) (v := (.pointer (some ⟨p, 1, none⟩))) rfl rfl (by kernel_rfl) (by kernel_rfl) (by kernel_rfl) (fun _ _ _ h => h) (by kernel_rfl) (fun w hSw => by (obtain ⟨hS1, hS2, hS3, hS4⟩ := hSw); go_simp) hHeld ?_
    try simp only [List.setIfInBounds_toArray, List.set_cons_zero, List.set_cons_succ]
    refine held_take (i := 3) (d := 30) (v := (.map (some g2))) rfl rfl (by kernel_rfl) (by kernel_rfl) (by kernel_rfl) (fun _ _ _ h => h) (by kernel_rfl) (fun w hSw => by (obtain ⟨hS1, hS2, hS3, hS4⟩ := hSw); go_simp) hHeld ?_
    try simp only [List.setIfInBounds_toArray, List.set_cons_zero, List.set_cons_succ]
    refine held_take (i := 4) (d := 31) (v := (.pointer (some ⟨W.heap.size, 0, none⟩))) rfl rfl (by kernel_rfl) (by kernel_rfl) (by kernel_rfl) (fun _ _ _ h => h) (by kernel_rfl) (fun w hSw => by (obtain ⟨hS1, hS2, hS3, hS4⟩ := hSw); go_simp) hHeld ?_
    try simp only [List.setIfInBounds_toArray, List.set_cons_zero, List.set_cons_succ]
    refine held_take (i := 5) (d := 32) (v := (.pointer (some ⟨W.heap.size, 3, none⟩))) rfl rfl (by kernel_rfl) (by kernel_rfl) (by kernel_rfl) (fun _ _ _ h => h) (by kernel_rfl) (fun w hSw => by (obtain ⟨hS1, hS2, hS3, hS4⟩ := hSw); go_simp) hHeld ?_
    try simp only [List.setIfInBounds_toArray, List.set_cons_zero, List.set_cons_succ]
    refine held_take (i := 6) (d := 33) (v := (.string ky)) rfl rfl (by kernel_rfl) (by kernel_rfl) (by kernel_rfl) (fun _ _ _ h => h) (by kernel_rfl) (fun w hSw => by (obtain ⟨hS1, hS2, hS3, hS4⟩ := hSw); go_simp) hHeld ?_
    try simp only [List.setIfInBounds_toArray, List.set_cons_zero, List.set_cons_succ]
    refine held_take (i := 7) (d := 34) (v := (.agg #[.int .i64 i1, .int .i64 i2])) rfl rfl (by kernel_rfl) (by kernel_rfl) (by kernel_rfl) (fun _ _ _ h => h) (by kernel_rfl) (fun w hSw => by (obtain ⟨hS1, hS2, hS3, hS4⟩ := hSw); go_simp) hHeld ?_
    try simp only [List.setIfInBounds_toArray, List.set_cons_zero, List.set_cons_succ]
    refine wpAnyH_ready (rs := [8]) (by kernel_rfl) (by simp) ?_
    refine AllReadyH.cons rfl (fun K hK => ?_) AllReadyH.nil
    go_simp
    go_at_call 26
    (with_reducible refine HLV.out.mono ?_)
    rintro e4 V3 ⟨rfl, N5, m5, fk5, hN5, hk5, hG5, hfk5, hmm5, hst5, hK5⟩
    have ho3 := HO3.out
    obtain ⟨s0, s1, s2, s3⟩ := ho3.mine
    obtain ⟨hp1, hp2, hp3, h12, h13, h23⟩ := ho3.ap
    obtain ⟨aG0, aG1, aG2, aG3⟩ := ho3.aG
    have w4 := ho3.wide
    obtain ⟨hold2, hk32, hm1, hK1, hK2, hN3, hws, hWs⟩ := HZ.out
    obtain ⟨hx42, hb42, he42⟩ := HX.out
    have hK5 := drew_keeps hK5
    have nS : ∀ k, ¬ S k → ¬ (k = g2 ∨ G k) := fun k h h' => h'.elim (fun e => h (by rw [e]; exact s2)) fun g => h (ho3.mineG k g)
    have hx43 := blk_kept hx42 hK5 fun h => h.elim hp2 aG0
    have hb43 := blk_kept hb42 hK5 (nS _ hws)
    have he43 := blk_kept he42 hK5 (nS _ hWs)
    have hk33 := hk32.keep (hK5.block g3 hk32.lt fun h => h.elim (fun e => h23 e.symm) aG3)
    have hlv := leave_int cl (i1, i2) V3.drew (show Mp intK mapE V3.drew g3 _ fc from hk33) hN3 (show Grps V3.drew G _ M from hG5) ho3.fcG aG3 HCL.out HI.out
    have HLV2 := Lib.hid hlv
    have HU1 := Lib.hid (show V3.cell? ⟨p, 1, none⟩ = some (.map (some g2)) ∧ V3.cell? ⟨w.heap.size, 0, none⟩ = some (.int .i64 i1) ∧ V3.cell? ⟨w.heap.size, 1, none⟩ = some (.int .i64 i2) ∧ V3.cell? ⟨W.heap.size, 3, none⟩ = some (.string ky) from ⟨hx43.cell 1, hb43.cell 0, hb43.cell 1, he43.cell 3⟩)
    have HV0 := Lib.hid (show V3.drew.cell? ⟨p, 2, none⟩ = some (.map (some g3)) ∧ V3.drew.cell? ⟨w.heap.size, 0, none⟩ = some (.int .i64 i1) ∧ V3.drew.cell? ⟨w.heap.size, 1, none⟩ = some (.int .i64 i2) ∧ V3.drew.cell? ⟨W.heap.size, 1, none⟩ = some (.int .i64 cl) from ⟨hx43.cell 2, hb43.cell 0, hb43.cell 1, he43.cell 1⟩)
    have HX3 := Lib.hid (And.intro hx43 (And.intro hb43 he43))
    have H5 := Lib.hid (And.intro hN5 (And.intro hk5 (And.intro hG5 (And.intro hfk5 (And.intro hmm5 (And.intro hst5 hK5))))))
    clear hN5 hk5 hG5 hfk5 hmm5 hst5 hK5 ho3 s0 s1 s2 s3 hp1 hp2 hp3 h12 h13 h23 aG0 aG1 aG2 aG3 w4 hold2 hk32 hm1 hK1 hK2 hN3 hws hWs hx42 hb42 he42 nS hx43 hb43 he43 hk33 hlv
    refine hK.out _ _ (by first | (with_reducible exact HU0.out) | (with_reducible exact HU1.out) | (with_reducible exact HU1.out)) (fun hHeld => ?_)
    clear hK K
    refine wpAnyH_done (by kernel_rfl) ?_ _
    go_upto_region 6 with fail
    refine wp_region_held_drew (S := (fun w' => w'.cell? ⟨p, 2, none⟩ = some (.map (some g3)) ∧ w'.cell? ⟨w.heap.size, 0, none⟩ = some (.int .i64 i1) ∧ w'.cell? ⟨w.heap.size, 1, none⟩ = some (.int .i64 i2) ∧ w'.cell? ⟨W.heap.size, 1, none⟩ = some (.int .i64 cl))) (by kernel_rfl) (by first | (with_reducible exact HV0.out) | (with_reducible exact HV1.out) | (with_reducible exact HV1.out)) (fun hHeld => ?_)
    refine held_take (i := 0) (d := 36) (v := (.pointer (some ⟨p, 0, none⟩))) rfl rfl (by kernel_rfl) (by kernel_rfl) (by kernel_rfl) (fun _ _ _ h => h) (by kernel_rfl) (fun w hSw => by (obtain ⟨hS1, hS2, hS3, hS4⟩ := hSw); go_simp) hHeld ?_
    try simp only [List.setIfInBounds_toArray, List.set_cons_zero, List.set_cons_succ]
    refine held_take (i := 1) (d := 37) (v := (.pointer (some ⟨p, 0, none⟩))) rfl rfl (by kernel_rfl) (by kernel_rfl) (by kernel_rfl) (fun _ _ _ h => h) (by kernel_rfl) (fun w hSw => by (obtain ⟨hS1, hS2, hS3, hS4⟩ := hSw); go_simp) hHeld ?_
    try simp only [List.setIfInBounds_toArray, List.set_cons_zero, List.set_cons_succ]
    refine held_take (i := 2) (d := 38) (v := (.pointer (some ⟨p, 2, none⟩))) rfl rfl (by kernel_rfl) (by kernel_rfl) (by kernel_rfl) (fun _ _ _ h => h) (by kernel_rfl) (fun w hSw => by (obtain ⟨hS1, hS2, hS3, hS4⟩ := hSw); go_simp) hHeld ?_
    try simp only [List.setIfInBounds_toArray, List.set_cons_zero, List.set_cons_succ]
    refine held_take (i := 3) (d := 39) (v := (.map (some g3))) rfl rfl (by kernel_rfl) (by kernel_rfl) (by kernel_rfl) (fun _ _ _ h => h) (by kernel_rfl) (fun w hSw => by (obtain ⟨hS1, hS2, hS3, hS4⟩ := hSw); go_simp) hHeld ?_
    try simp only [List.setIfInBounds_toArray, List.set_cons_zero, List.set_cons_succ]
    refine held_take (i := 4) (d := 40) (v := (.pointer (some ⟨W.heap.size, 0, none⟩))) rfl rfl (by kernel_rfl) (by kernel_rfl) (by kernel_rfl) (fun _ _ _ h => h) (by kernel_rfl) (fun w hSw => by (obtain ⟨hS1, hS2, hS3, hS4⟩ := hSw); go_simp) hHeld ?_
    try simp only [List.setIfInBounds_toArray, List.set_cons_zero, List.set_cons_succ]
    refine held_take (i := 5) (d := 41) (v := (.pointer (some ⟨W.heap.size, 1, none⟩))) rfl rfl (by kernel_rfl) (by kernel_rfl) (by kernel_rfl) (fun _ _ _ h => h) (by kernel_rfl) (fun w hSw => by (obtain ⟨hS1, hS2, hS3, hS4⟩ := hSw); go_simp) hHeld ?_
    try simp only [List.setIfInBounds_toArray, List.set_cons_zero, List.set_cons_succ]
    refine held_take (i := 6) (d := 42) (v := (.int .i64 cl)) rfl rfl (by kernel_rfl) (by kernel_rfl) (by kernel_rfl) (fun _ _ _ h => h) (by kernel_rfl) (fun w hSw => by (obtain ⟨hS1, hS2, hS3, hS4⟩ := hSw); go_simp) hHeld ?_
    try simp only [List.setIfInBounds_toArray, List.set_cons_zero, List.set_cons_succ]
    refine held_take (i := 7) (d := 43) (v := (.agg #[.int .i64 i1, .int .i64 i2])) rfl rfl (by kernel_rfl) (by kernel_rfl) (by kernel_rfl) (fun _ _ _ h => h) (by kernel_rfl) (fun w hSw => by (obtain ⟨hS1, hS2, hS3, hS4⟩ := hSw); go_simp) hHeld ?_
    try simp only [List.setIfInBounds_toArray, List.set_cons_zero, List.set_cons_succ]
    refine wpAnyH_ready (rs := [8]) (by kernel_rfl) (by simp) ?_
    refine AllReadyH.cons rfl (fun K hK => ?_) AllReadyH.nil
    go_simp
    go_at_call 27
    (with_reducible refine HLV2.out.mono ?_)
    rintro e4 V4 ⟨rfl, N6, m6, fc6, hN6, hk6, hG6, hfc6, hmm6, hst6, hK6⟩
    have ho3 := HO3.out
    obtain ⟨s0, s1, s2, s3⟩ := ho3.mine
    obtain ⟨hp1, hp2, hp3, h12, h13, h23⟩ := ho3.ap
    obtain ⟨aG0, aG1, aG2, aG3⟩ := ho3.aG
    have w4 := ho3.wide
    obtain ⟨hold2, hk32, hm1, hK1, hK2, hN3, hws, hWs⟩ := HZ.out
    obtain ⟨hx43, hb43, he43⟩ := HX3.out
    obtain ⟨hN5, hk5, hG5, hfk5, hmm5, hst5, hK5⟩ := H5.out
    have hK6 := drew_keeps hK6
    have nS : ∀ k, ¬ S k → ¬ (k = g3 ∨ G k) := fun k h h' => h'.elim (fun e => h (by rw [e]; exact s3)) fun g => h (ho3.mineG k g)
    have hx44 := blk_kept hx43 hK6 fun h => h.elim hp3 aG0
    have hb44 := blk_kept hb43 hK6 (nS _ hws)
    have he44 := blk_kept he43 hK6 (nS _ hWs)
    have HV1 := Lib.hid (show V4.cell? ⟨p, 2, none⟩ = some (.map (some g3)) ∧ V4.cell? ⟨w.heap.size, 0, none⟩ = some (.int .i64 i1) ∧ V4.cell? ⟨w.heap.size, 1, none⟩ = some (.int .i64 i2) ∧ V4.cell? ⟨W.heap.size, 1, none⟩ = some (.int .i64 cl) from ⟨hx44.cell 2, hb44.cell 0, hb44.cell 1, he44.cell 1⟩)
    have hKS : Keeps S u3 V4 := ((Keeps.weak hK1 fun k e => by have e : k = g1 := e; rw [e]; exact s1).trans ((Keeps.weak hK2 fun k e => by have e : k = g4 := e; rw [e]; exact ho3.mineG g4 w4).trans ((Keeps.weak hK5 fun k h => h.elim (fun e => by rw [e]; exact s2) (ho3.mineG k)).trans (Keeps.weak hK6 fun k h => h.elim (fun e => by rw [e]; exact s3) (ho3.mineG k)) (Grew.refl _ _)) (Grew.refl _ _)) (Grew.refl _ _))
    have hm1V : V4.heap[g1]? = V1.heap[g1]? := by rw [hK6.block g1 (by have := hm1.lt; have := hK2.size; have := hK5.size; omega) (fun h => h.elim h13 aG1), hK5.block g1 (by have := hm1.lt; have := hK2.size; omega) (fun h => h.elim h12 aG1), hK2.block g1 hm1.lt (fun e => aG1 (by have e : g1 = g4 := e; rw [e]; exact w4))]
    have hm1d : Mp idK entE V4 g1 (dropE l (i1, i2)).length (heldF (dropE l (i1, i2))) := by
      have h := hm1.keep hm1V
      have e1 : l.length - 1 = (dropE l (i1, i2)).length := by have := HLEN.out; omega
      have e2 : upd (heldF l) (i1, i2) none = heldF (dropE l (i1, i2)) := by funext j; rw [heldF_drop]; rfl
      rw [e1, e2] at h
      exact h
    have hk54 := hk5.keep (hK6.block g2 hk5.lt fun h => h.elim h23 aG2)
    have hmem : ∀ g j, G g → j ≠ (i1, i2) → (m g j).isSome → ((atG g4 (upd (m g4) (i1, i2) none) m) g j).isSome := fun g j _ hj h => by
      by_cases e : g = g4
      · subst e; rw [atG_same, upd_other hj]; exact h
      · rw [atG_other e]; exact h
    have hfin : II V4 S p M (dropE l (i1, i2)) := ⟨g1, g2, g3, g4, G, m6, fk5, fc6, {
      box := hx44
      held := hm1d
      byK := ⟨N5, hN5, hk54⟩
      byC := ⟨N6, hN6, hk6⟩
      grp := hG6
      wide := w4
      fkG := fun k o h => ho3.fkG k o (hfk5 k o h)
      fcG := fun k o h => ho3.fcG k o (hfc6 k o h)
      uq := ho3.uq.drop _
      len := Nat.le_trans (length_dropE _ _) ho3.len
      ap := ho3.ap
      aG := ho3.aG
      inv := fun e he => by
        obtain ⟨he1, he2⟩ := mem_dropE.1 he
        have hn := ho3.inv e he1
        refine ⟨fun h => hmm6 _ _ w4 he2 (hmm5 _ _ w4 he2 (hmem _ _ w4 he2 (hn.wide h))), fun h0 h5 h6 => ?_, fun h0 h5 h6 => ?_⟩
        · obtain ⟨g, q1, q2⟩ := hn.key h0 h5 h6
          obtain ⟨g', q3, q4⟩ := ho3.fkG _ _ q1
          injection q3 with q3
          subst q3
          exact ⟨g, hst5 _ _ _ q1 he2 (hmem _ _ q4 he2 q2), hmm6 _ _ q4 he2 (hmm5 _ _ q4 he2 (hmem _ _ q4 he2 q2))⟩
        · obtain ⟨g, q1, q2⟩ := hn.client h0 h5 h6
          obtain ⟨g', q3, q4⟩ := ho3.fcG _ _ q1
          injection q3 with q3
          subst q3
          exact ⟨g, hst6 _ _ _ q1 he2 (hmm5 _ _ q4 he2 (hmem _ _ q4 he2 q2)), hmm6 _ _ q4 he2 (hmm5 _ _ q4 he2 (hmem _ _ q4 he2 q2))⟩
      fine := fun e he => ho3.fine e (mem_dropE.1 he).1
      mine := ho3.mine
      mineG := ho3.mineG
      lt := fun k hk => Nat.lt_of_lt_of_le (ho3.lt k hk) hKS.size }⟩
    have HFIN := Lib.hid (And.intro hfin ((Keeps.ofBelow (bel_trans HB.out HS2.out)).trans hKS (Grew.refl _ _)))
    clear hN6 hk6 hG6 hfc6 hmm6 hst6 hK6 ho3 s0 s1 s2 s3 hp1 hp2 hp3 h12 h13 h23 aG0 aG1 aG2 aG3 w4 hold2 hk32 hm1 hK1 hK2 hN3 hws hWs hx43 hb43 he43 hN5 hk5 hG5 hfk5 hmm5 hst5 hK5 nS hx44 hb44 he44 hKS hm1V hm1d hk54 hmem hfin
    refine hK.out _ _ (by first | (with_reducible exact HV0.out) | (with_reducible exact HV1.out) | (with_reducible exact HV1.out)) (fun hHeld => ?_)
    clear hK K
    refine wpAnyH_done (by kernel_rfl) ?_ _
    go_wp2_with fail
    go_end0
    exact ⟨rfl, HFIN.out⟩
end Go.Proofs.Ytlcggldcofncgaa.Ix
