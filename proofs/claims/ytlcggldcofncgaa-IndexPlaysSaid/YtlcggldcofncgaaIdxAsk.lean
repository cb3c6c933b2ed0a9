/-
  Texts of earlier layers, as one.
-/
import Derived.Test.YtlcggldcofncgaaIdxOwn
import Derived.Test.YtlcggldcofncgaaShelf
/- The program's asked, New, Len. -/
namespace Go.Proofs.Ytlcggldcofncgaa.Ix
open Go.RowKit Mem Dsk Go.Maps Ky Cmd


theorem sclone_any (s : ByteArray) (w : World) (hs : s.size ≤ 281474976710656) : Calls Try.prog 40 #[.string s] w (fun e w' => e = .returned (.string s) ∧ Below w.heap.size w w') := by
  have HC := Lib.hid (Try.stringslite_Clone s w hs)
  go_enter Try.func40, Try.ntmps40
  go_wp2_with fail
  refine HC.out.mono ?_
  rintro e u ⟨rfl, hb⟩
  have HB := Lib.hid hb
  clear hb
  go_wp2_with fail
  go_ret
  exact ⟨rfl, HB.out⟩
theorem blk_grown {w w' : World} {b g : Nat} {t : TypeId} {vs : Array Value} (h : Blk w b t vs) (hg : w.grownBy w' (some g)) (hne : some b ≠ some g) : Blk w' b t vs := (hg.block b h.lt hne).trans h
theorem ask_cells {w : World} {b : Nat} {t : TypeId} {kd cl sq rv : Int} {ky vl : ByteArray} (h : Blk w b t #[.int .i64 kd, .int .i64 cl, .int .i64 sq, .string ky, .string vl, .int .i64 rv]) : w.cell? ⟨b, 0, none⟩ = some (.int .i64 kd) ∧ w.cell? ⟨b, 1, none⟩ = some (.int .i64 cl) ∧ w.cell? ⟨b, 3, none⟩ = some (.string ky) := ⟨h.cell 0, h.cell 1, h.cell 3⟩
set_option maxRecDepth 20000 in
set_option maxHeartbeats 4000000 in
theorem asked_any (c : Cm) (hs : c.ky.size ≤ 281474976710656) (w : World) : Calls Try.prog 23 #[cmV c] w (fun e w' => e = .returned (cmV (ask c)) ∧ Below w.heap.size w w') := by
  obtain ⟨kd, cl, sq, ky, vl, rv⟩ := c
  unfold cmV
  obtain ⟨hk1, hk2, hb1⟩ := Cw.two_boxes w 24 #[.int .i64 kd, .int .i64 cl, .int .i64 sq, .string ky, .string vl, .int .i64 rv] #[.int .i64 0, .int .i64 0, .int .i64 0, .string ⟨#[]⟩, .string ⟨#[]⟩, .int .i64 0]
  obtain ⟨W, hW⟩ : ∃ v, (w.alloc (.cells #[.int .i64 kd, .int .i64 cl, .int .i64 sq, .string ky, .string vl, .int .i64 rv] 24)).alloc (.cells #[.int .i64 0, .int .i64 0, .int .i64 0, .string ⟨#[]⟩, .string ⟨#[]⟩, .int .i64 0] 24) = v := ⟨_, rfl⟩
  rw [hW] at hk1 hk2 hb1
  have hsW : W.heap.size = w.heap.size + 2 := by rw [← hW]; simp
  have hs : ky.size ≤ 281474976710656 := hs
  have HCL := Lib.hid (fun u => sclone_any ky u hs)
  have HB := Lib.hid hb1
  have HSW := Lib.hid hsW
  have HW := Lib.hid hW
  have HK1 := Lib.hid (show Blk W.drew _ _ _ from hk1)
  have HK2 := Lib.hid (show Blk W.drew _ _ _ from hk2)
  obtain ⟨k0, k1, k2, k3, k4, k5⟩ := Cw.blk6 hk1
  by_cases h : kd = 0 ∨ kd = 6
  · have hm : ask ⟨kd, cl, sq, ky, vl, rv⟩ = ⟨kd, 0, 0, ⟨#[]⟩, ⟨#[]⟩, 0⟩ := if_pos h
    rw [hm]
    clear hm hs HCL hsW hb1 HK1 HK2 hk1
    have HK2 := Lib.hid hk2
    clear hk2 hW
    rcases h with rfl | rfl
    all_goals
      go_enter Try.func23, Try.ntmps23
      go_upto_region 1 with fail
      rw [HW.out]
      go_wp2_with ((first | (with_reducible refine wpList_store_blk rfl 24 (.tmp 2) (.tmp 13) rfl (w.heap.size + 1) 24 #[.int .i64 0, .int .i64 0, .int .i64 0, .string ⟨#[]⟩, .string ⟨#[]⟩, .int .i64 0] #[.int .i64 0, .int .i64 0, .int .i64 0, .string ⟨#[]⟩, .string ⟨#[]⟩, .int .i64 0] rfl rfl HK2.out (by kernel_rfl) rfl (by kernel_rfl) ?_) | (with_reducible refine wpList_store_blk rfl 24 (.tmp 2) (.tmp 13) rfl (w.heap.size + 1) 24 #[.int .i64 0, .int .i64 0, .int .i64 0, .string ⟨#[]⟩, .string ⟨#[]⟩, .int .i64 0] #[.int .i64 6, .int .i64 0, .int .i64 0, .string ⟨#[]⟩, .string ⟨#[]⟩, .int .i64 0] rfl rfl HK2.out (by kernel_rfl) rfl (by kernel_rfl) ?_)); intro u3 hblk hg3; have HEND := Lib.hid (And.intro hblk hg3); clear hblk hg3)
      refine bodyPost_ret (results_blk (ty := 24) rfl _ _ (w.heap.size + 1) 24 _ _ rfl HEND.out.1 Try.underlying24 rfl (by kernel_rfl)) rfl ?_
      exact ⟨rfl, bel_grown HB.out HEND.out.2 fun k e => by injection e with e; omega⟩
  · have hm : ask ⟨kd, cl, sq, ky, vl, rv⟩ = ⟨kd, cl, 0, ky, ⟨#[]⟩, 0⟩ := if_neg h
    rw [hm]
    have n1 : (kd == 0) = false := beq_false_of_ne fun e => h (.inl e)
    have n2 : (kd == 6) = false := beq_false_of_ne fun e => h (.inr e)
    have HS0 := Lib.hid (ask_cells HK1.out)
    clear hm hs hsW hb1 hk1 hk2 hW h
    go_enter Try.func23, Try.ntmps23
    go_upto_region 1 with fail
    rw [HW.out]
    go_upto_region 3 with fail
    refine wp_region_held_drew (S := (fun w' => w'.cell? ⟨w.heap.size, 0, none⟩ = some (.int .i64 kd) ∧ w'.cell? ⟨w.heap.size, 1, none⟩ = some (.int .i64 cl) ∧ w'.cell? ⟨w.heap.size, 3, none⟩ = some (.string ky))) (by kernel_rfl) (by first | (with_reducible exact HS0.out) | (with_reducible exact HS1.out) | (with_reducible exact HS2.out)) (fun hHeld => ?_)
    refine held_take (i := 0) (d := 14) (v := (.pointer (some ⟨w.heap.size, 0, none⟩))) rfl rfl (by kernel_rfl) (by kernel_rfl) (by kernel_rfl) (fun _ _ _ h => h) (by kernel_rfl) (fun w hSw => by (obtain ⟨hS1, hS2, hS3⟩ := hSw); go_simp) hHeld ?_
    try simp only [List.setIfInBounds_toArray, List.set_cons_zero, List.set_cons_succ]
    refine held_take (i := 1) (d := 15) (v := (.int .i64 kd)) rfl rfl (by kernel_rfl) (by kernel_rfl) (by kernel_rfl) (fun _ _ _ h => h) (by kernel_rfl) (fun w hSw => by (obtain ⟨hS1, hS2, hS3⟩ := hSw); go_simp) hHeld ?_
    try simp only [List.setIfInBounds_toArray, List.set_cons_zero, List.set_cons_succ]
    refine held_take (i := 2) (d := 16) (v := (.pointer (some ⟨w.heap.size, 1, none⟩))) rfl rfl (by kernel_rfl) (by kernel_rfl) (by kernel_rfl) (fun _ _ _ h => h) (by kernel_rfl) (fun w hSw => by (obtain ⟨hS1, hS2, hS3⟩ := hSw); go_simp) hHeld ?_
    try simp only [List.setIfInBounds_toArray, List.set_cons_zero, List.set_cons_succ]
    refine held_take (i := 3) (d := 17) (v := (.int .i64 cl)) rfl rfl (by kernel_rfl) (by kernel_rfl) (by kernel_rfl) (fun _ _ _ h => h) (by kernel_rfl) (fun w hSw => by (obtain ⟨hS1, hS2, hS3⟩ := hSw); go_simp) hHeld ?_
    try simp only [List.setIfInBounds_toArray, List.set_cons_zero, List.set_cons_succ]
    refine held_take (i := 4) (d := 18) (v := (.pointer (some ⟨w.heap.size, 3, none⟩))) rfl rfl (by kernel_rfl) (by kernel_rfl) (by kernel_rfl) (fun _ _ _ h => h) (by kernel_rfl) (fun w hSw => by (obtain ⟨hS1, hS2, hS3⟩ := hSw); go_simp) hHeld ?_
    try simp only [List.setIfInBounds_toArray, List.set_cons_zero, List.set_cons_succ]
    refine held_take (i := 5) (d := 19) (v := (.string ky)) rfl rfl (by kernel_rfl) (by kernel_rfl) (by kernel_rfl) (fun _ _ _ h => h) (by kernel_rfl) (fun w hSw => by (obtain ⟨hS1, hS2, hS3⟩ := hSw); go_simp) hHeld ?_
    try simp only [List.setIfInBounds_toArray, List.set_cons_zero, List.set_cons_succ]
    refine wpAnyH_ready (rs := [6]) (by kernel_rfl) (by simp) ?_
    refine AllReadyH.cons rfl (fun K hK => ?_) AllReadyH.nil
    go_simp
    go_at_call 40
    (with_reducible refine (HCL.out _).mono ?_)
    rintro e u ⟨rfl, hbu⟩
    have hk1 := HK1.out.bel hbu
    have hk2 := HK2.out.bel hbu
    have HS1 := Lib.hid (ask_cells hk1)
    have HB2 := Lib.hid hbu
    have HK2u := Lib.hid hk2
    have HK1u := Lib.hid hk1
    clear hbu hk1 hk2
    refine hK.out _ _ (by first | (with_reducible exact HS0.out) | (with_reducible exact HS1.out) | (with_reducible exact HS2.out)) (fun hHeld => ?_)
    clear hK K
    refine held_take (i := 7) (d := 21) (v := (.agg #[.int .i64 kd, .int .i64 cl, .int .i64 0, .string ky, .string ⟨#[]⟩, .int .i64 0])) rfl rfl (by kernel_rfl) (by kernel_rfl) (by kernel_rfl) (fun _ _ _ h => h) (by kernel_rfl) (fun w hSw => by (obtain ⟨hS1, hS2, hS3⟩ := hSw); go_simp) hHeld ?_
    try simp only [List.setIfInBounds_toArray, List.set_cons_zero, List.set_cons_succ]
    refine wpAnyH_ready (rs := [8]) (by kernel_rfl) (by simp) ?_
    refine AllReadyH.cons rfl (fun K hK => ?_) AllReadyH.nil
    refine step_store_blk rfl 24 (.tmp 2) (.tmp 21) rfl (w.heap.size + 1) 24 #[.int .i64 0, .int .i64 0, .int .i64 0, .string ⟨#[]⟩, .string ⟨#[]⟩, .int .i64 0] #[.int .i64 kd, .int .i64 cl, .int .i64 0, .string ky, .string ⟨#[]⟩, .int .i64 0] rfl rfl HK2u.out (by kernel_rfl) rfl (by kernel_rfl) ?_
    intro u3 hblk hg3
    show K (Act.put _ none _) _
    try simp only [Act.put]
    have hk1 := HK1u.out.grown hg3 (fun e => by injection e with e; omega)
    have HS2 := Lib.hid (ask_cells hk1)
    have HEND := Lib.hid (And.intro hblk hg3)
    clear hblk hg3 hk1
    refine hK.out _ _ (by first | (with_reducible exact HS0.out) | (with_reducible exact HS1.out) | (with_reducible exact HS2.out)) (fun hHeld => ?_)
    clear hK K
    refine wpAnyH_done (by kernel_rfl) ?_ _
    go_wp2_with fail
    refine bodyPost_ret (results_blk (ty := 24) rfl _ _ (w.heap.size + 1) 24 _ _ rfl HEND.out.1 Try.underlying24 rfl (by kernel_rfl)) rfl ?_
    exact ⟨rfl, bel_grown (bel_trans (Below.drew HB.out) HB2.out) HEND.out.2 fun k e => by injection e with e; omega⟩

set_option maxRecDepth 20000 in
set_option maxHeartbeats 2000000 in
theorem new_any (w : World) : Calls Try.prog 9 #[] w (fun e w' => ∃ p S, e = .returned (ptr p) ∧ II w' S p 0 [] ∧ (∀ k, S k → w.heap.size ≤ k) ∧ Below w.heap.size w w') := by
  have hmm := @run_makeMap Try.prog
  obtain ⟨n, hn⟩ : ∃ n, w.heap.size = n := ⟨_, rfl⟩
  obtain ⟨w1, h1⟩ : ∃ v, w.alloc (.map #[] 0) = v := ⟨_, rfl⟩
  obtain ⟨w2, h2⟩ : ∃ v, w1.alloc (.map #[] 0) = v := ⟨_, rfl⟩
  obtain ⟨w3, h3⟩ : ∃ v, w2.alloc (.map #[] 0) = v := ⟨_, rfl⟩
  obtain ⟨w4, h4⟩ : ∃ v, w3.alloc (.map #[] 0) = v := ⟨_, rfl⟩
  obtain ⟨w5, h5⟩ : ∃ v, w4.alloc (.cells #[.map (some n), .map (some (n + 1)), .map (some (n + 2)), .map (some (n + 3))] 60) = v := ⟨_, rfl⟩
  have s1 : w1.heap.size = n + 1 := by rw [← h1]; simp [hn]
  have s2 : w2.heap.size = n + 2 := by rw [← h2]; simp [s1]
  have s3 : w3.heap.size = n + 3 := by rw [← h3]; simp [s2]
  have s4 : w4.heap.size = n + 4 := by rw [← h4]; simp [s3]
  have s5 : w5.heap.size = n + 5 := by rw [← h5]; simp [s4]
  have m1 : Mp idK entE w1 n 0 (fun _ => none) := by rw [← hn, ← h1]; exact Mp.made idK entE w
  have m2 : Mp strK mapE w2 (n + 1) 0 (fun _ => none) := by rw [← s1, ← h2]; exact Mp.made strK mapE w1
  have m3 : Mp intK mapE w3 (n + 2) 0 (fun _ => none) := by rw [← s2, ← h3]; exact Mp.made intK mapE w2
  have m4 : Mp idK unE w4 (n + 3) 0 (fun _ => none) := by rw [← s3, ← h4]; exact Mp.made idK unE w3
  have b2 : Below w1.heap.size w1 w2 := by rw [← h2]; exact bel_alloc (Below.refl _ _) _
  have b3 : Below w2.heap.size w2 w3 := by rw [← h3]; exact bel_alloc (Below.refl _ _) _
  have b4 : Below w3.heap.size w3 w4 := by rw [← h4]; exact bel_alloc (Below.refl _ _) _
  have b5 : Below w4.heap.size w4 w5 := by rw [← h5]; exact bel_alloc (Below.refl _ _) _
  have b1 : Below w.heap.size w w1 := by rw [← h1]; exact bel_alloc (Below.refl _ _) _
  have hbx : Blk w5 (n + 4) 60 #[.map (some n), .map (some (n + 1)), .map (some (n + 2)), .map (some (n + 3))] := by rw [← s4, ← h5]; exact Blk.new _ _ _
  have hend : II w5 (fun k => n ≤ k ∧ k < n + 5) (n + 4) 0 [] := ⟨n, n + 1, n + 2, n + 3, fun g => g = n + 3, fun _ _ => none, fun _ => none, fun _ => none, {
    box := hbx
    held := (((m1.bel b2 (by omega)).bel b3 (by omega)).bel b4 (by omega)).bel b5 (by omega)
    byK := ⟨0, Nat.le_refl _, ((m2.bel b3 (by omega)).bel b4 (by omega)).bel b5 (by omega)⟩
    byC := ⟨0, Nat.le_refl _, (m3.bel b4 (by omega)).bel b5 (by omega)⟩
    grp := fun g hg => by subst hg; exact ⟨0, Nat.le_refl _, m4.bel b5 (by omega)⟩
    wide := rfl
    fkG := fun k o h => by cases h
    fcG := fun k o h => by cases h
    uq := List.Pairwise.nil
    len := Nat.le_refl _
    ap := by omega
    aG := by omega
    inv := fun e he => by cases he
    fine := fun e he => by cases he
    mine := by omega
    mineG := fun g hg => by subst hg; omega
    lt := fun k hk => by omega }⟩
  have HE := Lib.hid (And.intro hend (bel_trans (bel_trans (bel_trans (bel_trans b1 b2) b3) b4) b5))
  have H5 : Hid (w5 = ((((w.alloc (.map #[] 0)).alloc (.map #[] 0)).alloc (.map #[] 0)).alloc (.map #[] 0)).alloc (.cells #[.map (some n), .map (some (n + 1)), .map (some (n + 2)), .map (some (n + 3))] 60)) := Lib.hid (by rw [h1, h2, h3, h4, h5])
  have HN := Lib.hid hn
  clear hend b1 b2 b3 b4 b5 m1 m2 m3 m4 hbx s1 s2 s3 s4 s5 h1 h2 h3 h4 h5 w1 w2 w3 w4 hn
  go_enter Try.func9, Try.ntmps9
  go_wp2_with fail
  go_ret
  try rw [HN.out]
  have h1 := HE.out.1
  have h2 := HE.out.2
  rw [H5.out] at h1 h2
  rw [HN.out] at h2
  exact ⟨n + 4, fun k => n ≤ k ∧ k < n + 5, rfl, h1, fun k hk => hk.1, h2⟩
theorem len_any {S : Nat → Prop} {p M : Nat} {l : List En} (w : World) (hw : II w S p M l) : Calls Try.prog 13 #[ptr p] w (fun e w' => e = .returned (.int .i64 (l.length : Int)) ∧ w' = w) := by
  obtain ⟨g1, g2, g3, g4, G, m, fk, fc, ho⟩ := hw
  have c0 := ho.cells.1
  have hl := fun ty => ho.held.len Try.underlying54 ty
  unfold ptr
  clear ho
  go_enter Try.func13, Try.ntmps13
  go_wp2_with fail
  go_ret
  exact ⟨rfl, rfl⟩
end Go.Proofs.Ytlcggldcofncgaa.Ix
