/-
  Texts of earlier layers, as one.
-/
import Derived.Test.YtgnpnjfoenmfbaaBagAsk
/- The program's Put: an envelope comes behind all, with bytes of its own. -/
namespace Go.Proofs.Ytgnpnjfoenmfbaa.Bg
open Go.RowKit Mem Dsk

theorem info_entry2 : (Try.prog.info? 50).map (fun i => (i.zero, i.size, i.bytes)) = some (some (.agg #[.int .i64 0, .int .i64 0, .int .i64 0, .slice none 0 0]), 4, 48) := by kernel_rfl
theorem Stays.from {p : Nat} {S : Nat → Prop} {b : Bag} {w w1 w' : World} (h : Stays BI p S b w1 w') (hb : Below w.heap.size w w1) : Stays BI p S b w w' := by
  obtain ⟨S', h1, h2, h3⟩ := h
  have := hb.size
  exact ⟨S', h1, fun k hk => (h2 k hk).imp id fun h => by omega, (Keeps.ofBelow hb).trans h3 (Grew.refl S w)⟩
set_option maxRecDepth 20000 in
set_option maxHeartbeats 8000000 in
theorem put_any (p : Nat) (S : Nat → Prop) (b : Bag) (x : En) (B : Option Addr) (d : Nat) (w : World) (h : BI w S p b) (hf : Fine b) (hr : Rd w B x.bs.length d (cs x.bs)) (hn : x.bs.length ≤ 1000) :
    Calls Try.prog 9 #[ptr p, .agg #[.int .i64 x.f, .int .i64 x.t, .slice B x.bs.length d]] w (fun e w' => e = .returned (.bool (fits b)) ∧ Stays BI p S (putB x b) w w') := by
  obtain ⟨A, c, es, ho, he⟩ := h
  have hl : es.length = b.xs.length := by rw [← he, List.length_map]
  obtain ⟨xs, r, nx⟩ := b
  obtain ⟨hf1, hf2, hf3, _⟩ := hf
  obtain ⟨f, t, bs⟩ := x
  simp only at he hl hf1 hf2 hf3 hr hn ho ⊢
  unfold putB fits
  simp only [← hl]
  rw [← hl] at hf1
  obtain ⟨n, hnl⟩ : ∃ n, es.length = n := ⟨_, rfl⟩
  obtain ⟨m, hml⟩ : ∃ m, bs.length = m := ⟨_, rfl⟩
  have hbel := bel_alloc (Below.refl w.heap.size w) (.cells #[.int .i64 f, .int .i64 t, .slice B m d] 29)
  have hbx := Blk.new w 29 #[.int .i64 f, .int .i64 t, .slice B m d]
  obtain ⟨W, hW⟩ : ∃ v, w.alloc (.cells #[.int .i64 f, .int .i64 t, .slice B m d] 29) = v := ⟨_, rfl⟩
  rw [hW] at hbel hbx
  have hoW := ho.below hbel
  obtain ⟨c0, c1, c2⟩ := hoW.cells
  rw [hnl] at c0 hf1 ⊢
  rw [hml]
  have HLT := Lib.hid ho.lt
  have HPL := Lib.hid (ho.lt p ho.sp)
  have HLS := Lib.hid ho.sr
  have HO := Lib.hid hoW
  have HB := Lib.hid (And.intro hbel hbx)
  have HE := Lib.hid (And.intro he hnl)
  have HW := Lib.hid hW
  have HM := Lib.hid hml
  have HR := Lib.hid (hr.below hbel)
  clear ho hW hbel hbx he hnl hr hl hoW
  unfold ptr
  by_cases hfit : (n : Int) < r
  · have b1 : decide ((n : Int) < r) = true := decide_eq_true hfit
    have b2 : decide (r ≤ (n : Int)) = false := decide_eq_false (by omega)
    have b3 : ¬ r ≤ (n : Int) := by omega
    rw [b1, if_pos rfl]
    clear b1
    go_enter Try.func9, Try.ntmps9
    go_upto_region 1 with fail
    rw [HW.out]
    go_wp2_with fail
    go_quiet (fail)
    go_upto_region 3 with fail
    obtain ⟨U, hU⟩ : ∃ v, W.drewN nq = v := ⟨_, rfl⟩
    have hbu : Below W.heap.size W U.drew := by rw [← hU]; exact Below.drew (below_drewN (Below.refl _ _) nq)
    rw [hU]
    have hou := HO.out.below hbu
    have hcop := copied_any ⟨f, t, bs⟩ B d U.drew (HR.out.below hbu) (by show bs.length ≤ 1000000; omega)
    unfold Copies at hcop
    simp only [HM.out] at hcop
    have hbxu := HB.out.2.bel hbu
    have HCOP := Lib.hid hcop
    have hs0 := hou.cells
    rw [HE.out.2] at hs0
    have q0 := hs0.1
    have HS0 := Lib.hid (show U.drew.cell? ⟨p, 2, none⟩ = some (.int .i64 nx) ∧ Blk U.drew w.heap.size 29 #[.int .i64 f, .int .i64 t, .slice B m d] from ⟨hs0.2.2, hbxu⟩)
    have hw : IntKind.i64.wrap (nx + 1) = nx + 1 := wr64 (by omega) (by omega)
    have HPU := Lib.hid (show p < U.drew.heap.size from hou.lt p hou.sp)
    have HOU := Lib.hid hou
    have HBU := Lib.hid (HB.out.1.trans (hbu.mono HB.out.1.size))
    clear hU hbu hou hcop hbxu hs0 c0 c1 c2 b2 b3
    refine wp_region_held_drew (S := (fun w' => w'.cell? ⟨p, 2, none⟩ = some (.int .i64 nx) ∧ Blk w' w.heap.size 29 #[.int .i64 f, .int .i64 t, .slice B m d])) (by kernel_rfl) (by first | (with_reducible exact HS5.out) | (with_reducible exact HS4.out) | (with_reducible exact HS3.out) | (with_reducible exact HS2.out) | (with_reducible exact HS0.out)) (fun hHeld => ?_)
    refine held_take (i := 0) (d := 15) (v := (.pointer (some ⟨p, 0, none⟩))) rfl rfl (by kernel_rfl) (by kernel_rfl) (by kernel_rfl) (fun _ _ _ h => h) (by kernel_rfl) (fun w hSw => by (obtain ⟨hS0, hS1⟩ := hSw); go_simp) hHeld ?_
    try simp only [List.setIfInBounds_toArray, List.set_cons_zero, List.set_cons_succ]
    refine held_take (i := 1) (d := 16) (v := (.pointer (some ⟨p, 0, none⟩))) rfl rfl (by kernel_rfl) (by kernel_rfl) (by kernel_rfl) (fun _ _ _ h => h) (by kernel_rfl) (fun w hSw => by (obtain ⟨hS0, hS1⟩ := hSw); go_simp) hHeld ?_
    try simp only [List.setIfInBounds_toArray, List.set_cons_zero, List.set_cons_succ]
    refine held_take (i := 2) (d := 17) (v := (.pointer (some ⟨p, 0, none⟩))) rfl rfl (by kernel_rfl) (by kernel_rfl) (by kernel_rfl) (fun _ _ _ h => h) (by kernel_rfl) (fun w hSw => by (obtain ⟨hS0, hS1⟩ := hSw); go_simp) hHeld ?_
    try simp only [List.setIfInBounds_toArray, List.set_cons_zero, List.set_cons_succ]
    refine held_take (i := 3) (d := 18) (v := (.pointer (some ⟨p, 0, none⟩))) rfl rfl (by kernel_rfl) (by kernel_rfl) (by kernel_rfl) (fun _ _ _ h => h) (by kernel_rfl) (fun w hSw => by (obtain ⟨hS0, hS1⟩ := hSw); go_simp) hHeld ?_
    try simp only [List.setIfInBounds_toArray, List.set_cons_zero, List.set_cons_succ]
    refine held_take (i := 5) (d := 20) (v := (.pointer (some ⟨p, 0, none⟩))) rfl rfl (by kernel_rfl) (by kernel_rfl) (by kernel_rfl) (fun _ _ _ h => h) (by kernel_rfl) (fun w hSw => by (obtain ⟨hS0, hS1⟩ := hSw); go_simp) hHeld ?_
    try simp only [List.setIfInBounds_toArray, List.set_cons_zero, List.set_cons_succ]
    refine held_take (i := 6) (d := 21) (v := (.pointer (some ⟨p, 0, none⟩))) rfl rfl (by kernel_rfl) (by kernel_rfl) (by kernel_rfl) (fun _ _ _ h => h) (by kernel_rfl) (fun w hSw => by (obtain ⟨hS0, hS1⟩ := hSw); go_simp) hHeld ?_
    try simp only [List.setIfInBounds_toArray, List.set_cons_zero, List.set_cons_succ]
    refine held_take (i := 7) (d := 22) (v := (.pointer (some ⟨p, 2, none⟩))) rfl rfl (by kernel_rfl) (by kernel_rfl) (by kernel_rfl) (fun _ _ _ h => h) (by kernel_rfl) (fun w hSw => by (obtain ⟨hS0, hS1⟩ := hSw); go_simp) hHeld ?_
    try simp only [List.setIfInBounds_toArray, List.set_cons_zero, List.set_cons_succ]
    refine held_take (i := 8) (d := 23) (v := (.int .i64 nx)) rfl rfl (by kernel_rfl) (by kernel_rfl) (by kernel_rfl) (fun _ _ _ h => h) (by kernel_rfl) (fun w hSw => by (obtain ⟨hS0, hS1⟩ := hSw); go_simp) hHeld ?_
    try simp only [List.setIfInBounds_toArray, List.set_cons_zero, List.set_cons_succ]
    refine held_take (i := 9) (d := 24) (v := (.agg #[.int .i64 f, .int .i64 t, .slice B m d])) rfl rfl (by kernel_rfl) (by kernel_rfl) (by kernel_rfl) (fun _ _ _ h => h) (by kernel_rfl) (run_load_blk 29 (.tmp 3) rfl w.heap.size 29 _ _ rfl (fun w hSw => hSw.2) Try.underlying29 rfl (by kernel_rfl)) hHeld ?_
    try simp only [List.setIfInBounds_toArray, List.set_cons_zero, List.set_cons_succ]
    refine wpAnyH_ready (rs := [4, 10]) (by kernel_rfl) (by simp) ?_
    refine AllReadyH.cons rfl (fun K hK => ?_) (AllReadyH.cons rfl (fun K hK => ?_) AllReadyH.nil)
    · go_simp
      skip
      refine hK.out _ _ (by first | (with_reducible exact HS5.out) | (with_reducible exact HS4.out) | (with_reducible exact HS3.out) | (with_reducible exact HS2.out) | (with_reducible exact HS0.out)) (fun hHeld => ?_)
      clear hK K
      refine wpAnyH_ready (rs := [10]) (by kernel_rfl) (by simp) ?_
      refine AllReadyH.cons rfl (fun K hK => ?_) AllReadyH.nil
      go_simp
      go_at_call 18
      (with_reducible refine HCOP.out.mono ?_)
      rintro e u1 ⟨B2, d2, rfl, hby, hb1⟩
      have HS2 := Lib.hid (show u1.cell? ⟨p, 2, none⟩ = some (.int .i64 nx) ∧ Blk u1 w.heap.size 29 #[.int .i64 f, .int .i64 t, .slice B m d] from ⟨(hb1.cell (p := ⟨p, 2, none⟩) HPU.out).trans HS0.out.1, HS0.out.2.bel hb1⟩)
      have q1 := (hb1.cell (p := ⟨p, 0, none⟩) HPU.out).trans q0
      have HP1 := Lib.hid (show p < u1.heap.size by have := hb1.size; have := HPU.out; omega)
      have HBY := Lib.hid (And.intro hby hb1)
      clear hby hb1
      refine hK.out _ _ (by first | (with_reducible exact HS5.out) | (with_reducible exact HS4.out) | (with_reducible exact HS3.out) | (with_reducible exact HS2.out) | (with_reducible exact HS0.out)) (fun hHeld => ?_)
      clear hK K
      refine held_take (i := 11) (d := 26) (v := (.agg #[.int .i64 nx, .int .i64 f, .int .i64 t, .slice B2 m d2])) rfl rfl (by kernel_rfl) (by kernel_rfl) (by kernel_rfl) (fun _ _ _ h => h) (by kernel_rfl) (fun w hSw => by (obtain ⟨hS0, hS1⟩ := hSw); go_simp) hHeld ?_
      try simp only [List.setIfInBounds_toArray, List.set_cons_zero, List.set_cons_succ]
      refine wpAnyH_ready (rs := [12]) (by kernel_rfl) (by simp) ?_
      refine AllReadyH.cons rfl (fun K hK => ?_) AllReadyH.nil
      go_simp
      have HS3 := Lib.hid (show (u1.alloc (.cells #[.int .i64 nx, .int .i64 f, .int .i64 t, .slice B2 m d2] 50)).cell? ⟨p, 2, none⟩ = some (.int .i64 nx) ∧ Blk (u1.alloc (.cells #[.int .i64 nx, .int .i64 f, .int .i64 t, .slice B2 m d2] 50)) w.heap.size 29 #[.int .i64 f, .int .i64 t, .slice B m d] from ⟨(World.cell?_alloc_lt u1 _ ⟨p, 2, none⟩ HP1.out).trans HS2.out.1, HS2.out.2.alloc _⟩)
      have q2 : (u1.alloc (.cells #[.int .i64 nx, .int .i64 f, .int .i64 t, .slice B2 m d2] 50)).cell? ⟨p, 0, none⟩ = some (.slice A n c) := (World.cell?_alloc_lt u1 _ ⟨p, 0, none⟩ HP1.out).trans q1
      refine hK.out _ _ (by first | (with_reducible exact HS5.out) | (with_reducible exact HS4.out) | (with_reducible exact HS3.out) | (with_reducible exact HS2.out) | (with_reducible exact HS0.out)) (fun hHeld => ?_)
      clear hK K
      refine wpAnyH_ready (rs := [13]) (by kernel_rfl) (by simp) ?_
      refine AllReadyH.cons rfl (fun K hK => ?_) AllReadyH.nil
      obtain ⟨i0, hi, hz0, hz1, hz2⟩ := info_parts info_entry2
      have hrow := HOU.out.row
      rw [HE.out.2] at hrow
      have hbu2 : Below U.drew.heap.size U.drew (u1.alloc (.cells #[.int .i64 nx, .int .i64 f, .int .i64 t, .slice B2 m d2] 50)) := HBY.out.2.alloc HBY.out.2.size _
      have hlit : Rw LP (u1.alloc (.cells #[.int .i64 nx, .int .i64 f, .int .i64 t, .slice B2 bs.length d2] 50)) (some ⟨u1.heap.size, 0, none⟩) 1 1 [⟨nx, ⟨f, t, bs⟩, B2, d2⟩] := Rw.lit (L := LP) u1 ⟨nx, ⟨f, t, bs⟩, B2, d2⟩ 50
      rw [HM.out] at hlit
      obtain ⟨V, c', u3, hrun, hown, hgr, hloc⟩ := run_append_rw (L := LP) (ty := 45) (bytes := 48) Try.underlying45 hi hz0 hz1 hz2 rfl (ownsRow_below hrow hbu2) hlit (by unfold maxLen; omega) (by omega) (Nat.zero_le _)
      refine step_append_row rfl (.tmp 19) (.tmp 27) rfl hrun ?_
      show K (Act.put _ (some 28) _) _
      try simp only [Act.put]
      have hne : ∀ k, k = p ∨ k = w.heap.size → some k ≠ (Value.slice A n c).ownBlock := by
        intro k hk e
        have h1 := row_of.1 e.symm
        rcases hk with rfl | rfl
        · exact HOU.out.rp h1
        · have := HLT.out _ (HLS.out _ h1)
          omega
      have HS4 := Lib.hid (show u3.cell? ⟨p, 2, none⟩ = some (.int .i64 nx) ∧ Blk u3 w.heap.size 29 #[.int .i64 f, .int .i64 t, .slice B m d] from ⟨hgr.cell HS3.out.1 (hne _ (.inl rfl)), HS3.out.2.grown hgr (hne _ (.inr rfl))⟩)
      have hb3 := (HOU.out.box.bel hbu2).grown hgr (hne _ (.inl rfl))
      obtain ⟨q3, _, _⟩ := blk3 hb3
      have f3 := Blk.soft hb3 0
      have f32 := Blk.soft hb3 2
      have HFIN := Lib.hid (HOU.out.put (x := ⟨nx, ⟨f, t, bs⟩, B2, d2⟩) (m := n + 1) hbu2 rfl hf2 (by rw [HM.out]; exact HBY.out.1.alloc _) (by rw [HE.out.2]) hown (by rw [HE.out.2]; exact hgr) (by rw [HE.out.2]; exact hloc) rfl)
      rw [HE.out.2] at q3
      clear hrun hown hgr hloc hb3 hlit hrow hbu2 hne hi hz0 hz1 hz2 i0
      refine hK.out _ _ (by first | (with_reducible exact HS5.out) | (with_reducible exact HS4.out) | (with_reducible exact HS3.out) | (with_reducible exact HS2.out) | (with_reducible exact HS0.out)) (fun hHeld => ?_)
      clear hK K
      refine held_take (i := 14) (d := 29) (v := (.pointer (some ⟨p, 0, none⟩))) rfl rfl (by kernel_rfl) (by kernel_rfl) (by kernel_rfl) (fun _ _ _ h => h) (by kernel_rfl) (fun w hSw => by (obtain ⟨hS0, hS1⟩ := hSw); go_simp) hHeld ?_
      try simp only [List.setIfInBounds_toArray]
      refine held_take (i := 15) (d := 30) (v := (.pointer (some ⟨p, 0, none⟩))) rfl rfl (by kernel_rfl) (by kernel_rfl) (by kernel_rfl) (fun _ _ _ h => h) (by kernel_rfl) (fun w hSw => by (obtain ⟨hS0, hS1⟩ := hSw); go_simp) hHeld ?_
      try simp only [List.setIfInBounds_toArray]
      refine wpAnyH_ready (rs := [16]) (by kernel_rfl) (by simp) ?_
      refine AllReadyH.cons rfl (fun K hK => ?_) AllReadyH.nil
      go_simp
      have HS5 := Lib.hid (show (u3.setCell ⟨p, 0, none⟩ (.slice V (n + 1) c')).cell? ⟨p, 2, none⟩ = some (.int .i64 nx) ∧ Blk (u3.setCell ⟨p, 0, none⟩ (.slice V (n + 1) c')) w.heap.size 29 #[.int .i64 f, .int .i64 t, .slice B m d] from ⟨(World.cell?_setCell_other _ _ _ _ (by simp)).trans HS4.out.1, HS4.out.2.far (by have := HPL.out; simp; omega) _⟩)
      refine hK.out _ _ (by first | (with_reducible exact HS5.out) | (with_reducible exact HS4.out) | (with_reducible exact HS3.out) | (with_reducible exact HS2.out) | (with_reducible exact HS0.out)) (fun hHeld => ?_)
      clear hK K
      refine wpAnyH_done (by kernel_rfl) ?_ _
      obtain ⟨q5, _⟩ := HS5.out
      go_wp2_with fail
      go_ret
      exact ⟨rfl, Stays.from ⟨_, ⟨V, c', _, HFIN.out.1, by rw [List.map_append, HE.out.1]; rfl⟩, plus_grew, HFIN.out.2⟩ HBU.out⟩
    · go_simp
      go_at_call 18
      (with_reducible refine HCOP.out.mono ?_)
      rintro e u1 ⟨B2, d2, rfl, hby, hb1⟩
      have HS2 := Lib.hid (show u1.cell? ⟨p, 2, none⟩ = some (.int .i64 nx) ∧ Blk u1 w.heap.size 29 #[.int .i64 f, .int .i64 t, .slice B m d] from ⟨(hb1.cell (p := ⟨p, 2, none⟩) HPU.out).trans HS0.out.1, HS0.out.2.bel hb1⟩)
      have q1 := (hb1.cell (p := ⟨p, 0, none⟩) HPU.out).trans q0
      have HP1 := Lib.hid (show p < u1.heap.size by have := hb1.size; have := HPU.out; omega)
      have HBY := Lib.hid (And.intro hby hb1)
      clear hby hb1
      refine hK.out _ _ (by first | (with_reducible exact HS5.out) | (with_reducible exact HS4.out) | (with_reducible exact HS3.out) | (with_reducible exact HS2.out) | (with_reducible exact HS0.out)) (fun hHeld => ?_)
      clear hK K
      refine held_take (i := 11) (d := 26) (v := (.agg #[.int .i64 nx, .int .i64 f, .int .i64 t, .slice B2 m d2])) rfl rfl (by kernel_rfl) (by kernel_rfl) (by kernel_rfl) (fun _ _ _ h => h) (by kernel_rfl) (fun w hSw => by (obtain ⟨hS0, hS1⟩ := hSw); go_simp) hHeld ?_
      try simp only [List.setIfInBounds_toArray, List.set_cons_zero, List.set_cons_succ]
      refine wpAnyH_ready (rs := [4, 12]) (by kernel_rfl) (by simp) ?_
      refine AllReadyH.cons rfl (fun K hK => ?_) (AllReadyH.cons rfl (fun K hK => ?_) AllReadyH.nil)
      · go_simp
        skip
        refine hK.out _ _ (by first | (with_reducible exact HS5.out) | (with_reducible exact HS4.out) | (with_reducible exact HS3.out) | (with_reducible exact HS2.out) | (with_reducible exact HS0.out)) (fun hHeld => ?_)
        clear hK K
        refine wpAnyH_ready (rs := [12]) (by kernel_rfl) (by simp) ?_
        refine AllReadyH.cons rfl (fun K hK => ?_) AllReadyH.nil
        go_simp
        have HS3 := Lib.hid (show (u1.alloc (.cells #[.int .i64 nx, .int .i64 f, .int .i64 t, .slice B2 m d2] 50)).cell? ⟨p, 2, none⟩ = some (.int .i64 nx) ∧ Blk (u1.alloc (.cells #[.int .i64 nx, .int .i64 f, .int .i64 t, .slice B2 m d2] 50)) w.heap.size 29 #[.int .i64 f, .int .i64 t, .slice B m d] from ⟨(World.cell?_alloc_lt u1 _ ⟨p, 2, none⟩ HP1.out).trans HS2.out.1, HS2.out.2.alloc _⟩)
        have q2 : (u1.alloc (.cells #[.int .i64 nx, .int .i64 f, .int .i64 t, .slice B2 m d2] 50)).cell? ⟨p, 0, none⟩ = some (.slice A n c) := (World.cell?_alloc_lt u1 _ ⟨p, 0, none⟩ HP1.out).trans q1
        refine hK.out _ _ (by first | (with_reducible exact HS5.out) | (with_reducible exact HS4.out) | (with_reducible exact HS3.out) | (with_reducible exact HS2.out) | (with_reducible exact HS0.out)) (fun hHeld => ?_)
        clear hK K
        refine wpAnyH_ready (rs := [13]) (by kernel_rfl) (by simp) ?_
        refine AllReadyH.cons rfl (fun K hK => ?_) AllReadyH.nil
        obtain ⟨i0, hi, hz0, hz1, hz2⟩ := info_parts info_entry2
        have hrow := HOU.out.row
        rw [HE.out.2] at hrow
        have hbu2 : Below U.drew.heap.size U.drew (u1.alloc (.cells #[.int .i64 nx, .int .i64 f, .int .i64 t, .slice B2 m d2] 50)) := HBY.out.2.alloc HBY.out.2.size _
        have hlit : Rw LP (u1.alloc (.cells #[.int .i64 nx, .int .i64 f, .int .i64 t, .slice B2 bs.length d2] 50)) (some ⟨u1.heap.size, 0, none⟩) 1 1 [⟨nx, ⟨f, t, bs⟩, B2, d2⟩] := Rw.lit (L := LP) u1 ⟨nx, ⟨f, t, bs⟩, B2, d2⟩ 50
        rw [HM.out] at hlit
        obtain ⟨V, c', u3, hrun, hown, hgr, hloc⟩ := run_append_rw (L := LP) (ty := 45) (bytes := 48) Try.underlying45 hi hz0 hz1 hz2 rfl (ownsRow_below hrow hbu2) hlit (by unfold maxLen; omega) (by omega) (Nat.zero_le _)
        refine step_append_row rfl (.tmp 19) (.tmp 27) rfl hrun ?_
        show K (Act.put _ (some 28) _) _
        try simp only [Act.put]
        have hne : ∀ k, k = p ∨ k = w.heap.size → some k ≠ (Value.slice A n c).ownBlock := by
          intro k hk e
          have h1 := row_of.1 e.symm
          rcases hk with rfl | rfl
          · exact HOU.out.rp h1
          · have := HLT.out _ (HLS.out _ h1)
            omega
        have HS4 := Lib.hid (show u3.cell? ⟨p, 2, none⟩ = some (.int .i64 nx) ∧ Blk u3 w.heap.size 29 #[.int .i64 f, .int .i64 t, .slice B m d] from ⟨hgr.cell HS3.out.1 (hne _ (.inl rfl)), HS3.out.2.grown hgr (hne _ (.inr rfl))⟩)
        have hb3 := (HOU.out.box.bel hbu2).grown hgr (hne _ (.inl rfl))
        obtain ⟨q3, _, _⟩ := blk3 hb3
        have f3 := Blk.soft hb3 0
        have f32 := Blk.soft hb3 2
        have HFIN := Lib.hid (HOU.out.put (x := ⟨nx, ⟨f, t, bs⟩, B2, d2⟩) (m := n + 1) hbu2 rfl hf2 (by rw [HM.out]; exact HBY.out.1.alloc _) (by rw [HE.out.2]) hown (by rw [HE.out.2]; exact hgr) (by rw [HE.out.2]; exact hloc) rfl)
        rw [HE.out.2] at q3
        clear hrun hown hgr hloc hb3 hlit hrow hbu2 hne hi hz0 hz1 hz2 i0
        refine hK.out _ _ (by first | (with_reducible exact HS5.out) | (with_reducible exact HS4.out) | (with_reducible exact HS3.out) | (with_reducible exact HS2.out) | (with_reducible exact HS0.out)) (fun hHeld => ?_)
        clear hK K
        refine held_take (i := 14) (d := 29) (v := (.pointer (some ⟨p, 0, none⟩))) rfl rfl (by kernel_rfl) (by kernel_rfl) (by kernel_rfl) (fun _ _ _ h => h) (by kernel_rfl) (fun w hSw => by (obtain ⟨hS0, hS1⟩ := hSw); go_simp) hHeld ?_
        try simp only [List.setIfInBounds_toArray]
        refine held_take (i := 15) (d := 30) (v := (.pointer (some ⟨p, 0, none⟩))) rfl rfl (by kernel_rfl) (by kernel_rfl) (by kernel_rfl) (fun _ _ _ h => h) (by kernel_rfl) (fun w hSw => by (obtain ⟨hS0, hS1⟩ := hSw); go_simp) hHeld ?_
        try simp only [List.setIfInBounds_toArray]
        refine wpAnyH_ready (rs := [16]) (by kernel_rfl) (by simp) ?_
        refine AllReadyH.cons rfl (fun K hK => ?_) AllReadyH.nil
        go_simp
        have HS5 := Lib.hid (show (u3.setCell ⟨p, 0, none⟩ (.slice V (n + 1) c')).cell? ⟨p, 2, none⟩ = some (.int .i64 nx) ∧ Blk (u3.setCell ⟨p, 0, none⟩ (.slice V (n + 1) c')) w.heap.size 29 #[.int .i64 f, .int .i64 t, .slice B m d] from ⟨(World.cell?_setCell_other _ _ _ _ (by simp)).trans HS4.out.1, HS4.out.2.far (by have := HPL.out; simp; omega) _⟩)
        refine hK.out _ _ (by first | (with_reducible exact HS5.out) | (with_reducible exact HS4.out) | (with_reducible exact HS3.out) | (with_reducible exact HS2.out) | (with_reducible exact HS0.out)) (fun hHeld => ?_)
        clear hK K
        refine wpAnyH_done (by kernel_rfl) ?_ _
        obtain ⟨q5, _⟩ := HS5.out
        go_wp2_with fail
        go_ret
        exact ⟨rfl, Stays.from ⟨_, ⟨V, c', _, HFIN.out.1, by rw [List.map_append, HE.out.1]; rfl⟩, plus_grew, HFIN.out.2⟩ HBU.out⟩
      · go_simp
        have HS3 := Lib.hid (show (u1.alloc (.cells #[.int .i64 nx, .int .i64 f, .int .i64 t, .slice B2 m d2] 50)).cell? ⟨p, 2, none⟩ = some (.int .i64 nx) ∧ Blk (u1.alloc (.cells #[.int .i64 nx, .int .i64 f, .int .i64 t, .slice B2 m d2] 50)) w.heap.size 29 #[.int .i64 f, .int .i64 t, .slice B m d] from ⟨(World.cell?_alloc_lt u1 _ ⟨p, 2, none⟩ HP1.out).trans HS2.out.1, HS2.out.2.alloc _⟩)
        have q2 : (u1.alloc (.cells #[.int .i64 nx, .int .i64 f, .int .i64 t, .slice B2 m d2] 50)).cell? ⟨p, 0, none⟩ = some (.slice A n c) := (World.cell?_alloc_lt u1 _ ⟨p, 0, none⟩ HP1.out).trans q1
        refine hK.out _ _ (by first | (with_reducible exact HS5.out) | (with_reducible exact HS4.out) | (with_reducible exact HS3.out) | (with_reducible exact HS2.out) | (with_reducible exact HS0.out)) (fun hHeld => ?_)
        clear hK K
        refine wpAnyH_ready (rs := [4]) (by kernel_rfl) (by simp) ?_
        refine AllReadyH.cons rfl (fun K hK => ?_) AllReadyH.nil
        go_simp
        skip
        refine hK.out _ _ (by first | (with_reducible exact HS5.out) | (with_reducible exact HS4.out) | (with_reducible exact HS3.out) | (with_reducible exact HS2.out) | (with_reducible exact HS0.out)) (fun hHeld => ?_)
        clear hK K
        refine wpAnyH_ready (rs := [13]) (by kernel_rfl) (by simp) ?_
        refine AllReadyH.cons rfl (fun K hK => ?_) AllReadyH.nil
        obtain ⟨i0, hi, hz0, hz1, hz2⟩ := info_parts info_entry2
        have hrow := HOU.out.row
        rw [HE.out.2] at hrow
        have hbu2 : Below U.drew.heap.size U.drew (u1.alloc (.cells #[.int .i64 nx, .int .i64 f, .int .i64 t, .slice B2 m d2] 50)) := HBY.out.2.alloc HBY.out.2.size _
        have hlit : Rw LP (u1.alloc (.cells #[.int .i64 nx, .int .i64 f, .int .i64 t, .slice B2 bs.length d2] 50)) (some ⟨u1.heap.size, 0, none⟩) 1 1 [⟨nx, ⟨f, t, bs⟩, B2, d2⟩] := Rw.lit (L := LP) u1 ⟨nx, ⟨f, t, bs⟩, B2, d2⟩ 50
        rw [HM.out] at hlit
        obtain ⟨V, c', u3, hrun, hown, hgr, hloc⟩ := run_append_rw (L := LP) (ty := 45) (bytes := 48) Try.underlying45 hi hz0 hz1 hz2 rfl (ownsRow_below hrow hbu2) hlit (by unfold maxLen; omega) (by omega) (Nat.zero_le _)
        refine step_append_row rfl (.tmp 19) (.tmp 27) rfl hrun ?_
        show K (Act.put _ (some 28) _) _
        try simp only [Act.put]
        have hne : ∀ k, k = p ∨ k = w.heap.size → some k ≠ (Value.slice A n c).ownBlock := by
          intro k hk e
          have h1 := row_of.1 e.symm
          rcases hk with rfl | rfl
          · exact HOU.out.rp h1
          · have := HLT.out _ (HLS.out _ h1)
            omega
        have HS4 := Lib.hid (show u3.cell? ⟨p, 2, none⟩ = some (.int .i64 nx) ∧ Blk u3 w.heap.size 29 #[.int .i64 f, .int .i64 t, .slice B m d] from ⟨hgr.cell HS3.out.1 (hne _ (.inl rfl)), HS3.out.2.grown hgr (hne _ (.inr rfl))⟩)
        have hb3 := (HOU.out.box.bel hbu2).grown hgr (hne _ (.inl rfl))
        obtain ⟨q3, _, _⟩ := blk3 hb3
        have f3 := Blk.soft hb3 0
        have f32 := Blk.soft hb3 2
        have HFIN := Lib.hid (HOU.out.put (x := ⟨nx, ⟨f, t, bs⟩, B2, d2⟩) (m := n + 1) hbu2 rfl hf2 (by rw [HM.out]; exact HBY.out.1.alloc _) (by rw [HE.out.2]) hown (by rw [HE.out.2]; exact hgr) (by rw [HE.out.2]; exact hloc) rfl)
        rw [HE.out.2] at q3
        clear hrun hown hgr hloc hb3 hlit hrow hbu2 hne hi hz0 hz1 hz2 i0
        refine hK.out _ _ (by first | (with_reducible exact HS5.out) | (with_reducible exact HS4.out) | (with_reducible exact HS3.out) | (with_reducible exact HS2.out) | (with_reducible exact HS0.out)) (fun hHeld => ?_)
        clear hK K
        refine held_take (i := 14) (d := 29) (v := (.pointer (some ⟨p, 0, none⟩))) rfl rfl (by kernel_rfl) (by kernel_rfl) (by kernel_rfl) (fun _ _ _ h => h) (by kernel_rfl) (fun w hSw => by (obtain ⟨hS0, hS1⟩ := hSw); go_simp) hHeld ?_
        try simp only [List.setIfInBounds_toArray]
        refine held_take (i := 15) (d := 30) (v := (.pointer (some ⟨p, 0, none⟩))) rfl rfl (by kernel_rfl) (by kernel_rfl) (by kernel_rfl) (fun _ _ _ h => h) (by kernel_rfl) (fun w hSw => by (obtain ⟨hS0, hS1⟩ := hSw); go_simp) hHeld ?_
        try simp only [List.setIfInBounds_toArray]
        refine wpAnyH_ready (rs := [16]) (by kernel_rfl) (by simp) ?_
        refine AllReadyH.cons rfl (fun K hK => ?_) AllReadyH.nil
        go_simp
        have HS5 := Lib.hid (show (u3.setCell ⟨p, 0, none⟩ (.slice V (n + 1) c')).cell? ⟨p, 2, none⟩ = some (.int .i64 nx) ∧ Blk (u3.setCell ⟨p, 0, none⟩ (.slice V (n + 1) c')) w.heap.size 29 #[.int .i64 f, .int .i64 t, .slice B m d] from ⟨(World.cell?_setCell_other _ _ _ _ (by simp)).trans HS4.out.1, HS4.out.2.far (by have := HPL.out; simp; omega) _⟩)
        refine hK.out _ _ (by first | (with_reducible exact HS5.out) | (with_reducible exact HS4.out) | (with_reducible exact HS3.out) | (with_reducible exact HS2.out) | (with_reducible exact HS0.out)) (fun hHeld => ?_)
        clear hK K
        refine wpAnyH_done (by kernel_rfl) ?_ _
        obtain ⟨q5, _⟩ := HS5.out
        go_wp2_with fail
        go_ret
        exact ⟨rfl, Stays.from ⟨_, ⟨V, c', _, HFIN.out.1, by rw [List.map_append, HE.out.1]; rfl⟩, plus_grew, HFIN.out.2⟩ HBU.out⟩
  · have b1 : decide ((n : Int) < r) = false := decide_eq_false hfit
    have b2 : decide (r ≤ (n : Int)) = true := decide_eq_true (by omega)
    have b3 : r ≤ (n : Int) := by omega
    rw [b1, if_neg (by decide)]
    clear b1
    go_enter Try.func9, Try.ntmps9
    go_upto_region 1 with fail
    rw [HW.out]
    go_wp2_with fail
    go_quiet (fail)
    go_wp2_with fail
    go_ret
    exact ⟨rfl, Stays.from ⟨S, ⟨A, c, es, HO.out.below (below_drewN (Below.refl _ _) nq), HE.out.1⟩, Grew.refl _ _, Keeps.ofBelow (below_drewN (Below.refl _ _) nq)⟩ HB.out.1⟩
end Go.Proofs.Ytgnpnjfoenmfbaa.Bg
