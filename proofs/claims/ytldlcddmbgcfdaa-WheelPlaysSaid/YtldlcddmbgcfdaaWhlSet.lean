/-
  Texts of earlier layers, as one.
-/
import Derived.Test.YtldlcddmbgcfdaaWhlAt
/- The program's Set. -/
namespace Go.Proofs.Ytldlcddmbgcfdaa.Wh
open Go.RowKit Mem Dsk Go.Maps

theorem erase_perm : ∀ {l : List Tm} {k : Nat} {x : Tm}, l[k]? = some x → l.Perm (x :: l.eraseIdx k)
  | [], k, x, h => by simp at h
  | y :: l, 0, x, h => by
    simp at h
    subst h
    exact List.Perm.refl _
  | y :: l, k + 1, x, h => by
    have ih := erase_perm (l := l) (k := k) (x := x) (by simpa using h)
    rw [List.eraseIdx_cons_succ]
    exact (ih.cons y).trans (List.Perm.swap x y _)
/-- A timer's tick is turned: what is there then. -/
theorem turn_perm {l : List Tm} {k : Nat} {x y : Tm} (u : Uq l) (hx : l[k]? = some x) (e : y.i = x.i) : (l.set k y).Perm (y :: outR l y.i) := by
  have h1 := erase_perm (l := l.set k y) (k := k) (x := y) (by rw [List.getElem?_set_self (List.getElem?_eq_some_iff.1 hx).1])
  rw [List.eraseIdx_set_eq] at h1
  refine h1.trans (List.Perm.cons y ?_)
  rw [e]
  exact out_of u (erase_perm hx)
theorem turn_ids {l : List Tm} {k : Nat} {x y : Tm} (hx : l[k]? = some x) (e : y.i = x.i) : (l.set k y).map (fun t : Tm => t.i) = l.map (fun t : Tm => t.i) := by
  rw [List.map_set, e]
  apply List.ext_getElem?
  intro j
  rw [List.getElem?_set]
  split
  · rename_i h
    subst h
    split
    · rw [List.getElem?_map, hx]
      rfl
    · rename_i h
      rw [List.getElem?_eq_none (by omega)]
  · rfl
theorem uq_ids {l m : List Tm} (h : Uq l) (e : m.map (fun t : Tm => t.i) = l.map (fun t : Tm => t.i)) : Uq m := by
  have h1 : ∀ l : List Tm, Uq l ↔ (l.map (fun t : Tm => t.i)).Pairwise (fun a b => a ≠ b) := fun l => by unfold Uq; rw [List.pairwise_map]
  rw [h1] at h ⊢
  rw [e]
  exact h
theorem G_set {l : List Tm} {k j : Nat} {y : Tm} (h : j ≠ k) : G (l.set k y) j = G l j := by
  unfold G List.getD
  rw [List.getElem?_set_ne (fun e => h e.symm)]
/-- The third cell of a timer in the row is written over. -/
theorem hdr_tick {w : World} {g : Nat} {t : TypeId} {c k : Nat} {d : List Tm} {x : Tm} (h : Hdr LT w g t c d) (hx : d[k]? = some x) (a : Int) : Hdr LT (w.setCell ⟨g, k * 3 + 2, none⟩ (.int .i64 a)) g t c (d.set k ⟨x.i, a⟩) := by
  obtain ⟨vs, h1, h2, h3, h4, h5⟩ := h
  have hk := (List.getElem?_eq_some_iff.1 hx).1
  have hs : LT.s = 3 := rfl
  rw [hs] at h2
  refine ⟨vs.setIfInBounds (k * 3 + 2) (.int .i64 a), h1.put (k * 3 + 2) (.int .i64 a), by rw [Array.size_setIfInBounds, hs]; exact h2, h3, by rw [List.length_set]; exact h4, fun j y hy i u hu => ?_⟩
  have hi : i < 3 := by
    have := (List.getElem?_eq_some_iff.1 hu).1
    rwa [LT.len] at this
  rw [hs, Array.getElem?_setIfInBounds]
  rw [List.getElem?_set] at hy
  by_cases e : k = j
  · subst e
    rw [if_pos rfl, if_pos hk] at hy
    injection hy with hy
    subst hy
    by_cases ei : i = 2
    · subst ei
      rw [if_pos rfl, if_pos (by omega)]
      simpa [LT, encT] using hu
    · rw [if_neg (by omega)]
      refine h5 k x hx i u ?_
      rcases (show i = 0 ∨ i = 1 by omega) with rfl | rfl <;> simpa [LT, encT] using hu
  · rw [if_neg e] at hy
    rw [if_neg (by omega)]
    exact h5 j y hy i u hu
set_option maxRecDepth 20000 in
set_option maxHeartbeats 8000000 in
theorem set_any {S : Nat → Prop} {p : Nat} {x : List Tm} (i : Int × Int) (a : Int) (w : World) (hw : WI w S p x) (hwf : Wf i) (hl : x.length ≤ 800000) :
    Calls Try.prog 10 #[ptr p, .agg #[.int .i64 i.1, .int .i64 i.2], .int .i64 a] w (fun e w' => e = .returned (.tuple #[]) ∧ ∃ S', WI w' S' p (setR x ⟨i, a⟩) ∧ Grew S S' w ∧ Keeps S w w') := by
  obtain ⟨A, c, b, D, h, ho, hh, hpm, hs⟩ := hw
  obtain ⟨i1, i2⟩ := i
  have hb1 := bel_alloc (Below.refl w.heap.size w) (.cells #[.int .i64 i1, .int .i64 i2] 28)
  have hbx := Blk.new w 28 #[.int .i64 i1, .int .i64 i2]
  obtain ⟨W, hW⟩ : ∃ v, w.alloc (.cells #[.int .i64 i1, .int .i64 i2] 28) = v := ⟨_, rfl⟩
  rw [hW] at hb1 hbx
  have hoW := ho.below hb1
  have hw1 := hoW.cells.2
  obtain ⟨e0, e1⟩ := blk2 hbx
  have hsW : W.heap.size = w.heap.size + 1 := by rw [← hW]; simp
  rcases find_or h (i1, i2) with ⟨k, ⟨ti, ta⟩, hk, hti⟩ | hno
  · have hti : ti = (i1, i2) := hti
    subst hti
    have hlk := fun q => look_yes (w := W.drewN q) (show PM (W.drewN q) b h.length D from hoW.mp) ho.hol hk hwf
    have hkl := (List.getElem?_eq_some_iff.1 hk).1
    obtain ⟨g, rfl, hgp, hgb, hsg, hlc, hhd⟩ := hoW.hdr (by omega)
    have c0 := hoW.cells.1
    have hc3 := (three (hhd.at_ hk)).2.2
    simp only [LT] at hc3
    have hf3 : ∀ v, (W.setCell ⟨g, k * 3 + 2, none⟩ v).heap.size = W.heap.size := fun v => by simp
    have hfz : W.frozen? ⟨g, k * 3 + 2, none⟩ = false := by
      obtain ⟨vs, hv, _⟩ := hhd
      exact hv.soft _
    have hfix : ∀ q, Calls Try.prog 19 #[ifc p, .int .i64 (k : Int)] ((W.drewN q).setCell ⟨g, k * 3 + 2, none⟩ (.int .i64 a)) (fun e w' => e = .returned (.tuple #[]) ∧ WI w' S p (setR x ⟨(i1, i2), a⟩) ∧ Keeps S w w') := fun q => by
      have hoq := hoW.below (below_drewN (Below.refl W.heap.size W) q)
      have hhq := hhd.bel (below_drewN (Below.refl W.heap.size W) q)
      have hd := hdr_tick hhq hk a
      have hkq : Keeps S (W.drewN q) ((W.drewN q).setCell ⟨g, k * 3 + 2, none⟩ (.int .i64 a)) := ⟨rfl, rfl, rfl, by simp, fun j _ hn => Below.heap_setCell _ ⟨g, k * 3 + 2, none⟩ _ j fun e => hn (by rw [e]; exact hsg)⟩
      have hids := turn_ids (y := ⟨(i1, i2), a⟩) hk rfl
      have hbq : ∀ j, j ≠ g → ((W.drewN q).setCell ⟨g, k * 3 + 2, none⟩ (.int .i64 a)).heap[j]? = (W.drewN q).heap[j]? := fun j hj => Below.heap_setCell _ ⟨g, k * 3 + 2, none⟩ _ j hj
      have ho2 := hoq.turn (w' := (W.drewN q).setCell ⟨g, k * 3 + 2, none⟩ (.int .i64 a)) (h' := h.set k ⟨(i1, i2), a⟩) hkq.size (by rw [List.length_set]; exact (hbq p fun e => hgp e.symm).trans hoq.box) (hd.own rfl 0 (Nat.zero_le _)) (pm_keep hoq.mp (hbq b fun e => hgb e.symm)) (ho.hol.same hids) (uq_ids ho.uq hids) (fun z hz => by
        rcases List.mem_or_eq_of_mem_set hz with hz | hz
        · exact ho.wf z hz
        · rw [hz]; exact hwf)
      refine (fix_any (i := k) _ ho2 (by rw [List.length_set]; exact hkl) (by rw [List.length_set]; exact hh.hole fun j _ hj => G_set hj) (by rw [List.length_set, hpm.length_eq]; omega)).mono ?_
      rintro e u ⟨rfl, D', h', ho', hh', hp', hk'⟩
      refine ⟨rfl, ⟨_, c, b, D', h', ho', hh', ?_, hs.set _⟩, (Keeps.ofBelow (below_drewN hb1 q)).trans (hkq.trans hk' (Grew.refl _ _)) (Grew.refl _ _)⟩
      exact hp'.trans ((turn_perm (y := ⟨(i1, i2), a⟩) ho.uq hk rfl).trans ((List.Perm.cons (⟨(i1, i2), a⟩ : Tm) (out_perm hpm (i1, i2))).trans (set_perm x ⟨(i1, i2), a⟩).symm))
    unfold ifc at hfix
    unfold idV at hlk
    obtain ⟨n, hn⟩ : ∃ n, h.length = n := ⟨_, rfl⟩
    rw [hn] at c0 hkl hlc
    have hln : n ≤ 800000 := by rw [← hn, hpm.length_eq]; exact hl
    have HFX := Lib.hid hfix
    have HB := Lib.hid hb1
    have HW := Lib.hid hW
    clear hwf hl ho hh hpm hs hb1 hbx hW hoW hk hhd hn hfix hsW hgp hgb hsg hf3
    unfold ptr at HFX ⊢
    go_enter Try.func10, Try.ntmps10
    go_upto_region 1 with fail
    rw [HW.out]
    go_quiet (fail)
    clear hlk
    go_wp2_with (go_at_call 19; (with_reducible refine (HFX.out _).mono ?_); rintro e u ⟨rfl, hrest⟩)
    go_end0
    exact ⟨rfl, S, hrest.1, Grew.refl S w, hrest.2⟩
  · have hlk := fun q => look_no (w := W.drewN q) (show PM (W.drewN q) b h.length D from hoW.mp) ho.hol hno hwf
    have hpu := fun U (hU : Below W.heap.size W U) => hpush_any ⟨(i1, i2), a⟩ U (hoW.below hU) hh hno hwf (by rw [hpm.length_eq]; omega)
    have hlt := ho.lt
    have hox : outR x (i1, i2) = x := out_none fun t ht => hno t (hpm.mem_iff.2 ht)
    unfold ifc at hpu
    unfold idV at hlk
    have HPW := Lib.hid hpu
    have HF := Lib.hid (And.intro hpm (And.intro hs hox))
    have HB := Lib.hid hb1
    have HBXX := Lib.hid (And.intro hbx (And.intro hsW hlt))
    have HW := Lib.hid hW
    clear hwf hl ho hh hpm hs hb1 hbx hW hoW hno hpu hsW hlt hox
    unfold ptr at HPW ⊢
    go_enter Try.func10, Try.ntmps10
    go_upto_region 1 with fail
    rw [HW.out]
    go_quiet (fail)
    clear hlk
    go_upto_region 3 with fail
    obtain ⟨U, hU⟩ : ∃ v, (W.drewN nq).drew = v := ⟨_, rfl⟩
    have hub : Below W.heap.size W U := by rw [← hU]; exact Below.drew (below_drewN (Below.refl _ _) nq)
    have HPU := Lib.hid (HPW.out U hub)
    have hbu := HBXX.out.1.bel hub
    have hszu := hub.size
    have HS0 := Lib.hid (show U.cell? ⟨w.heap.size, 0, none⟩ = some (.int .i64 i1) ∧ U.cell? ⟨w.heap.size, 1, none⟩ = some (.int .i64 i2) from blk2 hbu)
    have hbxx : ∀ u2 : World, (∃ S' A' c' D' h', Own u2 S' p A' c' b D' h' ∧ Hp h'.length (G h') ∧ h'.Perm (h ++ [(⟨(i1, i2), a⟩ : Tm)]) ∧ Grew S S' U ∧ Keeps S U u2) → u2.cell? ⟨w.heap.size, 0, none⟩ = some (.int .i64 i1) ∧ u2.cell? ⟨w.heap.size, 1, none⟩ = some (.int .i64 i2) := by
      rintro u2 ⟨S', A', c', D', h', _, _, _, _, hk⟩
      have hne : ¬ S w.heap.size := fun hs => by have := HBXX.out.2.2 _ hs; omega
      have hlt : w.heap.size < U.heap.size := by have := HBXX.out.2.1; omega
      exact ⟨(hk.cell (p := ⟨w.heap.size, 0, none⟩) hlt hne).trans HS0.out.1, (hk.cell (p := ⟨w.heap.size, 1, none⟩) hlt hne).trans HS0.out.2⟩
    have HBX := Lib.hid hbxx
    have HUB := Lib.hid hub
    have HU := Lib.hid hU
    clear hU hub hbu hszu hbxx HPW e0 e1
    refine wp_region_held_drew (S := (fun w' => w'.cell? ⟨w.heap.size, 0, none⟩ = some (.int .i64 i1) ∧ w'.cell? ⟨w.heap.size, 1, none⟩ = some (.int .i64 i2))) (by kernel_rfl) (by rw [HU.out]; exact HS0.out) (fun hHeld => ?_)
    rw [HU.out] at hHeld ⊢
    refine held_take (i := 0) (d := 20) (v := (.pointer (some ⟨p, 0, none⟩))) rfl rfl (by kernel_rfl) (by kernel_rfl) (by kernel_rfl) (fun _ _ _ h => h) (by kernel_rfl) (fun w hSw => by (obtain ⟨hS1, hS2⟩ := hSw); go_simp) hHeld ?_
    try simp only [List.setIfInBounds_toArray, List.set_cons_zero, List.set_cons_succ]
    refine held_take (i := 1) (d := 21) (v := (.pointer (some ⟨p, 0, none⟩))) rfl rfl (by kernel_rfl) (by kernel_rfl) (by kernel_rfl) (fun _ _ _ h => h) (by kernel_rfl) (fun w hSw => by (obtain ⟨hS1, hS2⟩ := hSw); go_simp) hHeld ?_
    try simp only [List.setIfInBounds_toArray, List.set_cons_zero, List.set_cons_succ]
    refine held_take (i := 2) (d := 22) (v := (.pointer (some ⟨p, 0, none⟩))) rfl rfl (by kernel_rfl) (by kernel_rfl) (by kernel_rfl) (fun _ _ _ h => h) (by kernel_rfl) (fun w hSw => by (obtain ⟨hS1, hS2⟩ := hSw); go_simp) hHeld ?_
    try simp only [List.setIfInBounds_toArray, List.set_cons_zero, List.set_cons_succ]
    refine held_take (i := 3) (d := 23) (v := (.iface 57 (.pointer (some ⟨p, 0, none⟩)))) rfl rfl (by kernel_rfl) (by kernel_rfl) (by kernel_rfl) (fun _ _ _ h => h) (by kernel_rfl) (fun w hSw => by (obtain ⟨hS1, hS2⟩ := hSw); go_simp) hHeld ?_
    try simp only [List.setIfInBounds_toArray, List.set_cons_zero, List.set_cons_succ]
    refine held_take (i := 4) (d := 24) (v := (.agg #[.int .i64 i1, .int .i64 i2])) rfl rfl (by kernel_rfl) (by kernel_rfl) (by kernel_rfl) (fun _ _ _ h => h) (by kernel_rfl) (fun w hSw => by (obtain ⟨hS1, hS2⟩ := hSw); go_simp) hHeld ?_
    try simp only [List.setIfInBounds_toArray, List.set_cons_zero, List.set_cons_succ]
    refine held_take (i := 5) (d := 25) (v := (.int .i64 a)) rfl rfl (by kernel_rfl) (by kernel_rfl) (by kernel_rfl) (fun _ _ _ h => h) (by kernel_rfl) (fun w hSw => by (obtain ⟨hS1, hS2⟩ := hSw); go_simp) hHeld ?_
    try simp only [List.setIfInBounds_toArray, List.set_cons_zero, List.set_cons_succ]
    refine held_take (i := 6) (d := 26) (v := (.agg #[.int .i64 i1, .int .i64 i2, .int .i64 a])) rfl rfl (by kernel_rfl) (by kernel_rfl) (by kernel_rfl) (fun _ _ _ h => h) (by kernel_rfl) (fun w hSw => by (obtain ⟨hS1, hS2⟩ := hSw); go_simp) hHeld ?_
    try simp only [List.setIfInBounds_toArray, List.set_cons_zero, List.set_cons_succ]
    refine held_take (i := 7) (d := 27) (v := (.iface 55 (.agg #[.int .i64 i1, .int .i64 i2, .int .i64 a]))) rfl rfl (by kernel_rfl) (by kernel_rfl) (by kernel_rfl) (fun _ _ _ h => h) (by kernel_rfl) (fun w hSw => by (obtain ⟨hS1, hS2⟩ := hSw); go_simp) hHeld ?_
    try simp only [List.setIfInBounds_toArray, List.set_cons_zero, List.set_cons_succ]
    refine wpAnyH_ready (rs := [8]) (by kernel_rfl) (by simp) ?_
    refine AllReadyH.cons rfl (fun K hK => ?_) AllReadyH.nil
    go_simp
    go_at_call 18
    (with_reducible refine HPU.out.mono ?_)
    rintro e u2 ⟨rfl, hrest⟩
    have HS1 := Lib.hid (show u2.cell? ⟨w.heap.size, 0, none⟩ = some (.int .i64 i1) ∧ u2.cell? ⟨w.heap.size, 1, none⟩ = some (.int .i64 i2) from HBX.out _ hrest)
    have HR := Lib.hid hrest
    clear hrest
    refine hK.out _ _ (by first | (with_reducible exact HS0.out) | (with_reducible exact HS1.out)) (fun hHeld => ?_)
    clear hK K
    refine wpAnyH_done (by kernel_rfl) ?_ _
    go_wp2_with fail
    refine bodyPost_ret (results_none rfl _ _ _) rfl ?_
    obtain ⟨S', A', c', D', h', ho', hh', hp', hg', hk'⟩ := HR.out
    have h1 := (set_perm x ⟨(i1, i2), a⟩).symm
    rw [show outR x (⟨(i1, i2), a⟩ : Tm).i = x from HF.out.2.2] at h1
    have hpx : h'.Perm (setR x ⟨(i1, i2), a⟩) := hp'.trans ((List.perm_append_singleton _ h).trans ((HF.out.1.cons _).trans h1))
    exact ⟨rfl, S', ⟨A', c', b, D', h', ho', hh', hpx, HF.out.2.1.set _⟩, fun k hk => (hg' k hk).imp id fun h => Nat.le_trans HB.out.size (Nat.le_trans HUB.out.size h), (Keeps.ofBelow HB.out).trans ((Keeps.ofBelow HUB.out).trans hk' (Grew.refl _ _)) (Grew.refl _ _)⟩
end Go.Proofs.Ytldlcddmbgcfdaa.Wh
