/-
  Texts of earlier layers, as one.
-/
import Derived.Test.YtldlcddmbgcfdaaWhlUp
import Derived.Deep.MidRow
import Derived.Deep.CutRange
/- The program's Swap: two timers turn round in the row, and in the map of places. -/
namespace Go.Proofs.Ytldlcddmbgcfdaa.Wh
open Go.RowKit Mem Dsk Go.Maps

theorem step_store_mid {P : Program} {ops : Array Oper} {o : Oper} {a : Act} {w : World} {K : Act → World → Prop} {Q : Exit → Act → World → Prop} {E : Prop} (hgd : o.guard = none) (ty : TypeId) (x y : Operand) (ho : o.op = .store ty x y)
    (b off : Nat) (cells : Array Value) (hx : a.eval x = .pointer (some ⟨b, off, none⟩)) (hy : a.eval y = .agg cells) (ht : w.there b off cells.size) (hi : (P.info? ty).map (·.size) = some cells.size) (h1 : cells.all (·.oneCell') = true)
    (h : ∀ w', w' = w.setCells b off cells.toList → K (a.put o.dst undef) w') : if Region.wanted o (yielded ops a.tmps) = true then Oper.wp P o a w K Q else E := by
  have hw : Region.wanted o (yielded ops a.tmps) = true := by simp [Region.wanted, hgd]
  rw [if_pos hw]
  exact wp_store_mid ty x y ho b off cells hx hy ht hi h1 (h _ rfl)
theorem step_entry {P : Program} {ops : Array Oper} {o : Oper} {a : Act} {w w' : World} {K : Act → World → Prop} {Q : Exit → Act → World → Prop} {E : Prop} {t : TypeId} {v : Value} (hgd : o.guard = none) (m k : Operand) (ho : o.op = .mapEntry t m k)
    (hrun : (Instr.mapEntry t (a.eval m) (a.eval k)).run P w = .ok v w') (h : K (a.put o.dst v) w') : if Region.wanted o (yielded ops a.tmps) = true then Oper.wp P o a w K Q else E := by
  have hw : Region.wanted o (yielded ops a.tmps) = true := by simp [Region.wanted, hgd]
  rw [if_pos hw]
  unfold Oper.wp
  simp [execOp, ho, hrun, Result.andThen]
  exact h
theorem step_entry_store {P : Program} {ops : Array Oper} {o : Oper} {a : Act} {w w' : World} {K : Act → World → Prop} {Q : Exit → Act → World → Prop} {E : Prop} {t : TypeId} (hgd : o.guard = none) (m s x : Operand) (ho : o.op = .entryStore t m s x)
    (hrun : (Instr.entryStore t (a.eval m) (a.eval s) (a.eval x)).run P w = .ok () w') (h : K (a.put o.dst undef) w') : if Region.wanted o (yielded ops a.tmps) = true then Oper.wp P o a w K Q else E := by
  have hw : Region.wanted o (yielded ops a.tmps) = true := by simp [Region.wanted, hgd]
  rw [if_pos hw]
  unfold Oper.wp
  simp [execOp, ho, hrun, Result.andThen]
  exact h
/-- Both places of the row, and the row itself, when two have turned round. -/
theorem swl_at {h : List Tm} {i j : Nat} (hi : i < h.length) (hj : j < h.length) : (swl h i j)[i]? = some (G h j) ∧ (swl h i j)[j]? = some (G h i) := by
  have e := G_swl hi hj
  refine ⟨?_, ?_⟩
  · rw [at_G (by rw [length_swl]; exact hi), e, sw_l]
  · rw [at_G (by rw [length_swl]; exact hj), e, sw_r]
theorem keeps_turned {w w' : World} {b : Nat} (h : w.mapTurned w' b) : Keeps (fun k => k = b) w w' := Keeps.ofGrown h.grown rfl
set_option maxRecDepth 20000 in
set_option maxHeartbeats 16000000 in
theorem swap_any : SwapIs := by
  intro S p c b A D h i j w0 ho0 hi hj hij hl
  have hk0 : Keeps S w0 w0.drew := Keeps.ofBelow (Below.drew (Below.refl _ _))
  have ho := ho0.below (Below.drew (Below.refl w0.heap.size w0))
  obtain ⟨w, hw⟩ : ∃ v, w0.drew = v := ⟨_, rfl⟩
  rw [hw] at hk0 ho
  obtain ⟨g, rfl, hgp, hgb, hsg, hlc, hh⟩ := ho.hdr (by omega)
  have c0 := ho.cells.1
  have r1 := hh.at_ (at_G hi)
  have r2 := hh.at_ (at_G hj)
  obtain ⟨k2, kk2⟩ := ho.swapped (i := i) (j := j) rfl hi hj
  have hat := swl_at hi hj
  have hpl := ho.lt p ho.sp
  have hbl := ho.lt b ho.sb
  have kp : ((w.setCells g (i * 3) (encT (G h j))).setCells g (j * 3) (encT (G h i))).heap[p]? = w.heap[p]? := kk2.block p hpl fun e => hgp e.symm
  have kb : ((w.setCells g (i * 3) (encT (G h j))).setCells g (j * 3) (encT (G h i))).heap[b]? = w.heap[b]? := kk2.block b hbl fun e => hgb e.symm
  have hbox2 := kp.trans ho.box
  have hm2 := pm_keep ho.mp kb
  have q1 := k2.at_ hat.1
  have q2 := k2.at_ hat.2
  have hT1 : w.there g (i * 3) 3 := hh.there (by
    have h6 := Nat.mul_le_mul_right 3 (show i + 1 ≤ c by omega)
    show i * 3 + 3 ≤ c * 3
    omega)
  have hh1 := hh.put hi (G h j)
  have hT2 : (w.setCells g (i * 3) (encT (G h j))).there g (j * 3) 3 := hh1.there (by
    have h6 := Nat.mul_le_mul_right 3 (show j + 1 ≤ c by omega)
    show j * 3 + 3 ≤ c * 3
    omega)
  have hs1 : (w.setCells g (i * 3) (encT (G h j))).cell? ⟨p, 0, none⟩ = some (.slice (some ⟨g, 0, none⟩) h.length c) := ((keeps_cells (encT (G h j)) (i * 3) w).cell (p := ⟨p, 0, none⟩) hpl fun e => hgp e.symm).trans c0
  have hs2 : ((w.setCells g (i * 3) (encT (G h j))).setCells g (j * 3) (encT (G h i))).cell? ⟨p, 0, none⟩ = some (.slice (some ⟨g, 0, none⟩) h.length c) := (kk2.cell (p := ⟨p, 0, none⟩) hpl fun e => hgp e.symm).trans c0
  obtain ⟨x, hx⟩ : ∃ x, G h i = x := ⟨_, rfl⟩
  obtain ⟨y, hy⟩ : ∃ y, G h j = y := ⟨_, rfl⟩
  have hatx : h[i]? = some x := hx ▸ at_G hi
  have haty : h[j]? = some y := hy ▸ at_G hj
  have hwx := ho.wf x (List.mem_of_getElem? hatx)
  have hwy := ho.wf y (List.mem_of_getElem? haty)
  rw [hx] at r1 q2 k2 kk2 kp kb hbox2 hm2 hs2
  rw [hy] at r2 q1 k2 kk2 kp kb hbox2 hm2 hT2 hs1 hs2 hh1
  rw [hx] at q1
  rw [hy] at q2
  obtain ⟨W2, hW2⟩ : ∃ W, (w.setCells g (i * 3) (encT y)).setCells g (j * 3) (encT x) = W := ⟨_, rfl⟩
  rw [hW2] at q1 q2 k2 kk2 kp kb hbox2 hm2 hs2
  have hsw := ho.hol.swap ho.uq ho.wf hij hatx haty
  have hmd : PM W2.drew b h.length D := hm2
  obtain ⟨v1, st1, o1, o1', e1, e2, hmA, tA1, tA2⟩ := entry_place hmd hwy i (by omega) (by unfold maxLen; omega)
  obtain ⟨v2, st2, o2, o2', e3, e4, hmB, tB1, tB2⟩ := entry_place hmA hwx j (by omega) (by unfold maxLen; omega)
  have hkA1 := keeps_turned tA1
  have hkA2 := keeps_turned tA2
  have hkB1 := hkA2.trans (keeps_turned tB1) (Grew.refl _ _)
  have hkB2 := hkA2.trans (keeps_turned tB2) (Grew.refl _ _)
  have hpW : p < W2.drew.heap.size := (Array.getElem?_eq_some_iff.1 hbox2).1
  have hgW : g < W2.drew.heap.size := k2.lt
  have hbp := ho.bp
  have hcell : ∀ {V : World}, Keeps (fun k => k = b) W2.drew V → V.cell? ⟨p, 0, none⟩ = some (.slice (some ⟨g, 0, none⟩) h.length c) ∧ V.cell? ⟨p, 1, none⟩ = some (.map (some b)) ∧ V.cell? ⟨g, i * 3, none⟩ = some (.int .i64 y.i.1) ∧ V.cell? ⟨g, i * 3 + 1, none⟩ = some (.int .i64 y.i.2) ∧ V.cell? ⟨g, j * 3, none⟩ = some (.int .i64 x.i.1) ∧ V.cell? ⟨g, j * 3 + 1, none⟩ = some (.int .i64 x.i.2) := fun hk =>
    ⟨(hk.cell (p := ⟨p, 0, none⟩) hpW (fun e => hbp e.symm)).trans (Blk.cell hbox2 0), (hk.cell (p := ⟨p, 1, none⟩) hpW (fun e => hbp e.symm)).trans (Blk.cell hbox2 1),
     (hk.cell (p := ⟨g, i * 3, none⟩) hgW (fun e => hgb e)).trans (three q1).1, (hk.cell (p := ⟨g, i * 3 + 1, none⟩) hgW (fun e => hgb e)).trans (three q1).2.1,
     (hk.cell (p := ⟨g, j * 3, none⟩) hgW (fun e => hgb e)).trans (three q2).1, (hk.cell (p := ⟨g, j * 3 + 1, none⟩) hgW (fun e => hgb e)).trans (three q2).2.1⟩
  have hfin : (∃ D', Own (Go.ChangeMaps.setBlock (Go.ChangeMaps.setBlock W2.drew b o1') b o2') S p (some ⟨g, 0, none⟩) c b D' (swl h i j)) ∧ Keeps S w0 (Go.ChangeMaps.setBlock (Go.ChangeMaps.setBlock W2.drew b o1') b o2') := by
    have hkw : Keeps S w W2.drew := ⟨kk2.os, kk2.tape, kk2.output, kk2.size, fun k hk hn => kk2.block k hk fun e => hn (by rw [e]; exact hsg)⟩
    have hkS : Keeps S W2.drew (Go.ChangeMaps.setBlock (Go.ChangeMaps.setBlock W2.drew b o1') b o2') := ⟨hkB2.os, hkB2.tape, hkB2.output, hkB2.size, fun k hk hn => hkB2.block k hk fun e => hn (by rw [e]; exact ho.sb)⟩
    have hrow := k2.own (n := (swl h i j).length) rfl 0 (Nat.zero_le _)
    refine ⟨⟨_, ho.turn (Nat.le_trans hkw.size hkS.size) ((hkB2.block p hpW fun e => hbp e.symm).trans ?_) (row_keep hrow fun k e => ?_) hmB hsw (ho.uq.perm (swl_perm hi hj).symm) fun z hz => ho.wf z ((swl_perm hi hj).mem_iff.1 hz)⟩, hk0.trans (hkw.trans hkS (Grew.refl S w)) (Grew.refl S w0)⟩
    · rw [length_swl]
      exact hbox2
    · have ek : g = k := Row.eq (row_of.1 e)
      subst ek
      exact hkB2.block g hgW fun e => hgb e
  have hM0 := hcell (Keeps.refl _ W2.drew)
  have hM1 := hcell hkA1
  have hM2 := hcell hkA2
  have hM3 := hcell hkB1
  have hM4 := hcell hkB2
  have hnl := ho.hol.size
  obtain ⟨n, hn⟩ : ∃ n, h.length = n := ⟨_, rfl⟩
  rw [hn] at c0 hM0 hM1 hM2 hM3 hM4 hs1 hs2 hi hj hl hlc
  obtain ⟨⟨x1, x2⟩, xa⟩ := x
  obtain ⟨⟨y1, y2⟩, ya⟩ := y
  obtain ⟨p1, p2, p3⟩ := three r1
  obtain ⟨p4, p5, p6⟩ := three r2
  simp only [LT] at p1 p2 p3 p4 p5 p6
  have HT1 := Lib.hid hT1
  have HT2 : Hid ((w.setCells g (i * 3) [.int .i64 y1, .int .i64 y2, .int .i64 ya]).there g (j * 3) 3) := Lib.hid hT2
  have HS0 := Lib.hid c0
  have HS1 : Hid ((w.setCells g (i * 3) [.int .i64 y1, .int .i64 y2, .int .i64 ya]).cell? ⟨p, 0, none⟩ = some (.slice (some ⟨g, 0, none⟩) n c)) := Lib.hid hs1
  have HM0 := Lib.hid hM0
  have HM1 := Lib.hid hM1
  have HM2 := Lib.hid hM2
  have HM3 := Lib.hid hM3
  have HM4 := Lib.hid hM4
  have HE1 := Lib.hid e1
  have HE2 := Lib.hid e2
  have HE3 := Lib.hid e3
  have HE4 := Lib.hid e4
  have HFIN := Lib.hid hfin
  have HW := Lib.hid hw
  have HS2 : Hid (((w.setCells g (i * 3) [.int .i64 y1, .int .i64 y2, .int .i64 ya]).setCells g (j * 3) [.int .i64 x1, .int .i64 x2, .int .i64 xa]).cell? ⟨p, 0, none⟩ = some (.slice (some ⟨g, 0, none⟩) n c)) := Lib.hid (hW2.symm ▸ hs2)
  have HW2 : Hid ((w.setCells g (i * 3) [.int .i64 y1, .int .i64 y2, .int .i64 ya]).setCells g (j * 3) [.int .i64 x1, .int .i64 x2, .int .i64 xa] = W2) := Lib.hid hW2
  clear ho0 ho hk0 hw hgp hgb hsg hh c0 r1 r2 k2 kk2 hat hpl hbl kp kb hbox2 hm2 q1 q2 hT1 hh1 hT2 hs1 hs2 hx hy hatx haty hwx hwy hW2 hsw hmd e1 e2 hmA tA1 tA2 e3 e4 hmB tB1 tB2 hkA1 hkA2 hkB1 hkB2 hpW hgW hbp hcell hfin hM0 hM1 hM2 hM3 hM4 hn hnl
  unfold ptr
  go_enter Try.func47, Try.ntmps47
  go_upto_region 0 with fail
  go_cut [] from 6 to 31 (fun wx => wx = W2)
  case first =>
    refine wp_region_held_drew (S := (fun w' => w'.cell? ⟨p, 0, none⟩ = some (.slice (some ⟨g, 0, none⟩) n c))) (by kernel_rfl) (by rw [HW.out]; exact HS0.out) (fun hHeld => ?_)
    rw [HW.out] at hHeld ⊢
    refine held_take (i := 0) (d := 6) (v := (.pointer (some ⟨p, 0, none⟩))) rfl rfl (by kernel_rfl) (by kernel_rfl) (by kernel_rfl) (fun _ _ _ h => h) (by kernel_rfl) (fun w hSw => by (obtain hS0 := hSw); go_simp) hHeld ?_
    try simp only [List.setIfInBounds_toArray, List.set_cons_zero, List.set_cons_succ]
    refine held_take (i := 1) (d := 7) (v := (.pointer (some ⟨p, 0, none⟩))) rfl rfl (by kernel_rfl) (by kernel_rfl) (by kernel_rfl) (fun _ _ _ h => h) (by kernel_rfl) (fun w hSw => by (obtain hS0 := hSw); go_simp) hHeld ?_
    try simp only [List.setIfInBounds_toArray, List.set_cons_zero, List.set_cons_succ]
    refine held_take (i := 2) (d := 8) (v := (.pointer (some ⟨p, 0, none⟩))) rfl rfl (by kernel_rfl) (by kernel_rfl) (by kernel_rfl) (fun _ _ _ h => h) (by kernel_rfl) (fun w hSw => by (obtain hS0 := hSw); go_simp) hHeld ?_
    try simp only [List.setIfInBounds_toArray, List.set_cons_zero, List.set_cons_succ]
    refine held_take (i := 3) (d := 9) (v := (.slice (some ⟨g, 0, none⟩) n c)) rfl rfl (by kernel_rfl) (by kernel_rfl) (by kernel_rfl) (fun _ _ _ h => h) (by kernel_rfl) (fun w hSw => by (obtain hS0 := hSw); go_simp) hHeld ?_
    try simp only [List.setIfInBounds_toArray, List.set_cons_zero, List.set_cons_succ]
    refine held_take (i := 4) (d := 10) (v := (.int .i64 (i : Int))) rfl rfl (by kernel_rfl) (by kernel_rfl) (by kernel_rfl) (fun _ _ _ h => h) (by kernel_rfl) (fun w hSw => by (obtain hS0 := hSw); go_simp) hHeld ?_
    try simp only [List.setIfInBounds_toArray, List.set_cons_zero, List.set_cons_succ]
    refine held_take (i := 5) (d := 11) (v := (.pointer (some ⟨p, 0, none⟩))) rfl rfl (by kernel_rfl) (by kernel_rfl) (by kernel_rfl) (fun _ _ _ h => h) (by kernel_rfl) (fun w hSw => by (obtain hS0 := hSw); go_simp) hHeld ?_
    try simp only [List.setIfInBounds_toArray, List.set_cons_zero, List.set_cons_succ]
    refine held_take (i := 6) (d := 12) (v := (.pointer (some ⟨p, 0, none⟩))) rfl rfl (by kernel_rfl) (by kernel_rfl) (by kernel_rfl) (fun _ _ _ h => h) (by kernel_rfl) (fun w hSw => by (obtain hS0 := hSw); go_simp) hHeld ?_
    try simp only [List.setIfInBounds_toArray, List.set_cons_zero, List.set_cons_succ]
    refine held_take (i := 7) (d := 13) (v := (.pointer (some ⟨p, 0, none⟩))) rfl rfl (by kernel_rfl) (by kernel_rfl) (by kernel_rfl) (fun _ _ _ h => h) (by kernel_rfl) (fun w hSw => by (obtain hS0 := hSw); go_simp) hHeld ?_
    try simp only [List.setIfInBounds_toArray, List.set_cons_zero, List.set_cons_succ]
    refine held_take (i := 8) (d := 14) (v := (.slice (some ⟨g, 0, none⟩) n c)) rfl rfl (by kernel_rfl) (by kernel_rfl) (by kernel_rfl) (fun _ _ _ h => h) (by kernel_rfl) (fun w hSw => by (obtain hS0 := hSw); go_simp) hHeld ?_
    try simp only [List.setIfInBounds_toArray, List.set_cons_zero, List.set_cons_succ]
    refine held_take (i := 9) (d := 15) (v := (.int .i64 (j : Int))) rfl rfl (by kernel_rfl) (by kernel_rfl) (by kernel_rfl) (fun _ _ _ h => h) (by kernel_rfl) (fun w hSw => by (obtain hS0 := hSw); go_simp) hHeld ?_
    try simp only [List.setIfInBounds_toArray, List.set_cons_zero, List.set_cons_succ]
    refine held_take (i := 10) (d := 16) (v := (.pointer (some ⟨p, 0, none⟩))) rfl rfl (by kernel_rfl) (by kernel_rfl) (by kernel_rfl) (fun _ _ _ h => h) (by kernel_rfl) (fun w hSw => by (obtain hS0 := hSw); go_simp) hHeld ?_
    try simp only [List.setIfInBounds_toArray, List.set_cons_zero, List.set_cons_succ]
    refine held_take (i := 11) (d := 17) (v := (.pointer (some ⟨p, 0, none⟩))) rfl rfl (by kernel_rfl) (by kernel_rfl) (by kernel_rfl) (fun _ _ _ h => h) (by kernel_rfl) (fun w hSw => by (obtain hS0 := hSw); go_simp) hHeld ?_
    try simp only [List.setIfInBounds_toArray, List.set_cons_zero, List.set_cons_succ]
    refine held_take (i := 12) (d := 18) (v := (.pointer (some ⟨p, 0, none⟩))) rfl rfl (by kernel_rfl) (by kernel_rfl) (by kernel_rfl) (fun _ _ _ h => h) (by kernel_rfl) (fun w hSw => by (obtain hS0 := hSw); go_simp) hHeld ?_
    try simp only [List.setIfInBounds_toArray, List.set_cons_zero, List.set_cons_succ]
    refine held_take (i := 13) (d := 19) (v := (.slice (some ⟨g, 0, none⟩) n c)) rfl rfl (by kernel_rfl) (by kernel_rfl) (by kernel_rfl) (fun _ _ _ h => h) (by kernel_rfl) (fun w hSw => by (obtain hS0 := hSw); go_simp) hHeld ?_
    try simp only [List.setIfInBounds_toArray, List.set_cons_zero, List.set_cons_succ]
    refine held_take (i := 14) (d := 20) (v := (.int .i64 (j : Int))) rfl rfl (by kernel_rfl) (by kernel_rfl) (by kernel_rfl) (fun _ _ _ h => h) (by kernel_rfl) (fun w hSw => by (obtain hS0 := hSw); go_simp) hHeld ?_
    try simp only [List.setIfInBounds_toArray, List.set_cons_zero, List.set_cons_succ]
    refine held_take (i := 15) (d := 21) (v := (.pointer (some ⟨g, j * 3, none⟩))) rfl rfl (by kernel_rfl) (by kernel_rfl) (by kernel_rfl) (fun _ _ _ h => h) (by kernel_rfl) (fun w hSw => by (obtain hS0 := hSw); go_simp) hHeld ?_
    try simp only [List.setIfInBounds_toArray, List.set_cons_zero, List.set_cons_succ]
    refine held_take (i := 17) (d := 23) (v := (.pointer (some ⟨p, 0, none⟩))) rfl rfl (by kernel_rfl) (by kernel_rfl) (by kernel_rfl) (fun _ _ _ h => h) (by kernel_rfl) (fun w hSw => by (obtain hS0 := hSw); go_simp) hHeld ?_
    try simp only [List.setIfInBounds_toArray, List.set_cons_zero, List.set_cons_succ]
    refine held_take (i := 18) (d := 24) (v := (.pointer (some ⟨p, 0, none⟩))) rfl rfl (by kernel_rfl) (by kernel_rfl) (by kernel_rfl) (fun _ _ _ h => h) (by kernel_rfl) (fun w hSw => by (obtain hS0 := hSw); go_simp) hHeld ?_
    try simp only [List.setIfInBounds_toArray, List.set_cons_zero, List.set_cons_succ]
    refine held_take (i := 19) (d := 25) (v := (.pointer (some ⟨p, 0, none⟩))) rfl rfl (by kernel_rfl) (by kernel_rfl) (by kernel_rfl) (fun _ _ _ h => h) (by kernel_rfl) (fun w hSw => by (obtain hS0 := hSw); go_simp) hHeld ?_
    try simp only [List.setIfInBounds_toArray, List.set_cons_zero, List.set_cons_succ]
    refine held_take (i := 20) (d := 26) (v := (.slice (some ⟨g, 0, none⟩) n c)) rfl rfl (by kernel_rfl) (by kernel_rfl) (by kernel_rfl) (fun _ _ _ h => h) (by kernel_rfl) (fun w hSw => by (obtain hS0 := hSw); go_simp) hHeld ?_
    try simp only [List.setIfInBounds_toArray, List.set_cons_zero, List.set_cons_succ]
    refine held_take (i := 21) (d := 27) (v := (.int .i64 (i : Int))) rfl rfl (by kernel_rfl) (by kernel_rfl) (by kernel_rfl) (fun _ _ _ h => h) (by kernel_rfl) (fun w hSw => by (obtain hS0 := hSw); go_simp) hHeld ?_
    try simp only [List.setIfInBounds_toArray, List.set_cons_zero, List.set_cons_succ]
    refine held_take (i := 22) (d := 28) (v := (.pointer (some ⟨g, i * 3, none⟩))) rfl rfl (by kernel_rfl) (by kernel_rfl) (by kernel_rfl) (fun _ _ _ h => h) (by kernel_rfl) (fun w hSw => by (obtain hS0 := hSw); go_simp) hHeld ?_
    try simp only [List.setIfInBounds_toArray, List.set_cons_zero, List.set_cons_succ]
    refine wpAnyH_ready (rs := [16, 23]) (by kernel_rfl) (by simp) ?_
    refine AllReadyH.cons rfl (fun K hK => ?_) (AllReadyH.cons rfl (fun K hK => ?_) AllReadyH.nil)
    · go_simp
      skip
      refine hK.out _ _ (by first | (with_reducible exact HS0.out) | (with_reducible exact HS1.out) | (with_reducible exact HS2.out)) (fun hHeld => ?_)
      clear hK K
      refine wpAnyH_ready (rs := [23]) (by kernel_rfl) (by simp) ?_
      refine AllReadyH.cons rfl (fun K hK => ?_) AllReadyH.nil
      go_simp
      skip
      refine hK.out _ _ (by first | (with_reducible exact HS0.out) | (with_reducible exact HS1.out) | (with_reducible exact HS2.out)) (fun hHeld => ?_)
      clear hK K
      refine held_take (i := 24) (d := 30) (v := (.pointer (some ⟨g, i * 3, none⟩))) rfl rfl (by kernel_rfl) (by kernel_rfl) (by kernel_rfl) (fun _ _ _ h => h) (by kernel_rfl) (fun w hSw => by (obtain hS0 := hSw); go_simp) hHeld ?_
      try simp only [List.setIfInBounds_toArray, List.set_cons_zero, List.set_cons_succ]
      refine wpAnyH_ready (rs := [25]) (by kernel_rfl) (by simp) ?_
      refine AllReadyH.cons rfl (fun K hK => ?_) AllReadyH.nil
      refine step_store_mid rfl 55 (.tmp 30) (.tmp 22) rfl g (i * 3) #[.int .i64 y1, .int .i64 y2, .int .i64 ya] rfl rfl HT1.out (by kernel_rfl) (by kernel_rfl) ?_
      rintro w1 rfl
      try simp only [Act.put]
      refine hK.out _ _ (by first | (with_reducible exact HS0.out) | (with_reducible exact HS1.out) | (with_reducible exact HS2.out)) (fun hHeld => ?_)
      clear hK K
      refine held_take (i := 26) (d := 31) (v := (.pointer (some ⟨g, j * 3, none⟩))) rfl rfl (by kernel_rfl) (by kernel_rfl) (by kernel_rfl) (fun _ _ _ h => h) (by kernel_rfl) (fun w hSw => by (obtain hS0 := hSw); go_simp) hHeld ?_
      try simp only [List.setIfInBounds_toArray]
      refine wpAnyH_ready (rs := [27]) (by kernel_rfl) (by simp) ?_
      refine AllReadyH.cons rfl (fun K hK => ?_) AllReadyH.nil
      refine step_store_mid rfl 55 (.tmp 31) (.tmp 29) rfl g (j * 3) #[.int .i64 x1, .int .i64 x2, .int .i64 xa] rfl rfl HT2.out (by kernel_rfl) (by kernel_rfl) ?_
      rintro w2 rfl
      try simp only [Act.put]
      refine hK.out _ _ (by first | (with_reducible exact HS0.out) | (with_reducible exact HS1.out) | (with_reducible exact HS2.out)) (fun hHeld => ?_)
      clear hK K
      refine wpAnyH_done (by kernel_rfl) ?_ _
      go_wp2_with fail
      go_meet
      case rel => exact HW2.out
    · go_simp
      skip
      refine hK.out _ _ (by first | (with_reducible exact HS0.out) | (with_reducible exact HS1.out) | (with_reducible exact HS2.out)) (fun hHeld => ?_)
      clear hK K
      refine wpAnyH_ready (rs := [16]) (by kernel_rfl) (by simp) ?_
      refine AllReadyH.cons rfl (fun K hK => ?_) AllReadyH.nil
      go_simp
      skip
      refine hK.out _ _ (by first | (with_reducible exact HS0.out) | (with_reducible exact HS1.out) | (with_reducible exact HS2.out)) (fun hHeld => ?_)
      clear hK K
      refine held_take (i := 24) (d := 30) (v := (.pointer (some ⟨g, i * 3, none⟩))) rfl rfl (by kernel_rfl) (by kernel_rfl) (by kernel_rfl) (fun _ _ _ h => h) (by kernel_rfl) (fun w hSw => by (obtain hS0 := hSw); go_simp) hHeld ?_
      try simp only [List.setIfInBounds_toArray, List.set_cons_zero, List.set_cons_succ]
      refine wpAnyH_ready (rs := [25]) (by kernel_rfl) (by simp) ?_
      refine AllReadyH.cons rfl (fun K hK => ?_) AllReadyH.nil
      refine step_store_mid rfl 55 (.tmp 30) (.tmp 22) rfl g (i * 3) #[.int .i64 y1, .int .i64 y2, .int .i64 ya] rfl rfl HT1.out (by kernel_rfl) (by kernel_rfl) ?_
      rintro w1 rfl
      try simp only [Act.put]
      refine hK.out _ _ (by first | (with_reducible exact HS0.out) | (with_reducible exact HS1.out) | (with_reducible exact HS2.out)) (fun hHeld => ?_)
      clear hK K
      refine held_take (i := 26) (d := 31) (v := (.pointer (some ⟨g, j * 3, none⟩))) rfl rfl (by kernel_rfl) (by kernel_rfl) (by kernel_rfl) (fun _ _ _ h => h) (by kernel_rfl) (fun w hSw => by (obtain hS0 := hSw); go_simp) hHeld ?_
      try simp only [List.setIfInBounds_toArray]
      refine wpAnyH_ready (rs := [27]) (by kernel_rfl) (by simp) ?_
      refine AllReadyH.cons rfl (fun K hK => ?_) AllReadyH.nil
      refine step_store_mid rfl 55 (.tmp 31) (.tmp 29) rfl g (j * 3) #[.int .i64 x1, .int .i64 x2, .int .i64 xa] rfl rfl HT2.out (by kernel_rfl) (by kernel_rfl) ?_
      rintro w2 rfl
      try simp only [Act.put]
      refine hK.out _ _ (by first | (with_reducible exact HS0.out) | (with_reducible exact HS1.out) | (with_reducible exact HS2.out)) (fun hHeld => ?_)
      clear hK K
      refine wpAnyH_done (by kernel_rfl) ?_ _
      go_wp2_with fail
      go_meet
      case rel => exact HW2.out
  case rest =>
    replace hcut := hcut.symm
    subst hcut
    clear p1 p2 p3 p4 p5 p6
    go_upto_region 1 with fail
    refine wp_region_held_drew (S := (fun w' => w'.cell? ⟨p, 0, none⟩ = some (.slice (some ⟨g, 0, none⟩) n c) ∧ w'.cell? ⟨p, 1, none⟩ = some (.map (some b)) ∧ w'.cell? ⟨g, i * 3, none⟩ = some (.int .i64 y1) ∧ w'.cell? ⟨g, i * 3 + 1, none⟩ = some (.int .i64 y2) ∧ w'.cell? ⟨g, j * 3, none⟩ = some (.int .i64 x1) ∧ w'.cell? ⟨g, j * 3 + 1, none⟩ = some (.int .i64 x2))) (by kernel_rfl) (by first | (with_reducible exact HM0.out) | (with_reducible exact HM1.out) | (with_reducible exact HM2.out) | (with_reducible exact HM3.out) | (with_reducible exact HM4.out)) (fun hHeld => ?_)
    refine held_take (i := 0) (d := 32) (v := (.pointer (some ⟨p, 0, none⟩))) rfl rfl (by kernel_rfl) (by kernel_rfl) (by kernel_rfl) (fun _ _ _ h => h) (by kernel_rfl) (fun w hSw => by (obtain ⟨hS0, hS1, hS2, hS3, hS4, hS5⟩ := hSw); go_simp) hHeld ?_
    try simp only [List.setIfInBounds_toArray, List.set_cons_zero, List.set_cons_succ]
    refine held_take (i := 1) (d := 33) (v := (.pointer (some ⟨p, 0, none⟩))) rfl rfl (by kernel_rfl) (by kernel_rfl) (by kernel_rfl) (fun _ _ _ h => h) (by kernel_rfl) (fun w hSw => by (obtain ⟨hS0, hS1, hS2, hS3, hS4, hS5⟩ := hSw); go_simp) hHeld ?_
    try simp only [List.setIfInBounds_toArray, List.set_cons_zero, List.set_cons_succ]
    refine held_take (i := 2) (d := 34) (v := (.pointer (some ⟨p, 1, none⟩))) rfl rfl (by kernel_rfl) (by kernel_rfl) (by kernel_rfl) (fun _ _ _ h => h) (by kernel_rfl) (fun w hSw => by (obtain ⟨hS0, hS1, hS2, hS3, hS4, hS5⟩ := hSw); go_simp) hHeld ?_
    try simp only [List.setIfInBounds_toArray, List.set_cons_zero, List.set_cons_succ]
    refine held_take (i := 3) (d := 35) (v := (.map (some b))) rfl rfl (by kernel_rfl) (by kernel_rfl) (by kernel_rfl) (fun _ _ _ h => h) (by kernel_rfl) (fun w hSw => by (obtain ⟨hS0, hS1, hS2, hS3, hS4, hS5⟩ := hSw); go_simp) hHeld ?_
    try simp only [List.setIfInBounds_toArray, List.set_cons_zero, List.set_cons_succ]
    refine held_take (i := 4) (d := 36) (v := (.pointer (some ⟨p, 0, none⟩))) rfl rfl (by kernel_rfl) (by kernel_rfl) (by kernel_rfl) (fun _ _ _ h => h) (by kernel_rfl) (fun w hSw => by (obtain ⟨hS0, hS1, hS2, hS3, hS4, hS5⟩ := hSw); go_simp) hHeld ?_
    try simp only [List.setIfInBounds_toArray, List.set_cons_zero, List.set_cons_succ]
    refine held_take (i := 5) (d := 37) (v := (.pointer (some ⟨p, 0, none⟩))) rfl rfl (by kernel_rfl) (by kernel_rfl) (by kernel_rfl) (fun _ _ _ h => h) (by kernel_rfl) (fun w hSw => by (obtain ⟨hS0, hS1, hS2, hS3, hS4, hS5⟩ := hSw); go_simp) hHeld ?_
    try simp only [List.setIfInBounds_toArray, List.set_cons_zero, List.set_cons_succ]
    refine held_take (i := 6) (d := 38) (v := (.pointer (some ⟨p, 0, none⟩))) rfl rfl (by kernel_rfl) (by kernel_rfl) (by kernel_rfl) (fun _ _ _ h => h) (by kernel_rfl) (fun w hSw => by (obtain ⟨hS0, hS1, hS2, hS3, hS4, hS5⟩ := hSw); go_simp) hHeld ?_
    try simp only [List.setIfInBounds_toArray, List.set_cons_zero, List.set_cons_succ]
    refine held_take (i := 7) (d := 39) (v := (.slice (some ⟨g, 0, none⟩) n c)) rfl rfl (by kernel_rfl) (by kernel_rfl) (by kernel_rfl) (fun _ _ _ h => h) (by kernel_rfl) (fun w hSw => by (obtain ⟨hS0, hS1, hS2, hS3, hS4, hS5⟩ := hSw); go_simp) hHeld ?_
    try simp only [List.setIfInBounds_toArray, List.set_cons_zero, List.set_cons_succ]
    refine held_take (i := 8) (d := 40) (v := (.int .i64 (i : Int))) rfl rfl (by kernel_rfl) (by kernel_rfl) (by kernel_rfl) (fun _ _ _ h => h) (by kernel_rfl) (fun w hSw => by (obtain ⟨hS0, hS1, hS2, hS3, hS4, hS5⟩ := hSw); go_simp) hHeld ?_
    try simp only [List.setIfInBounds_toArray, List.set_cons_zero, List.set_cons_succ]
    refine held_take (i := 9) (d := 41) (v := (.pointer (some ⟨g, i * 3, none⟩))) rfl rfl (by kernel_rfl) (by kernel_rfl) (by kernel_rfl) (fun _ _ _ h => h) (by kernel_rfl) (fun w hSw => by (obtain ⟨hS0, hS1, hS2, hS3, hS4, hS5⟩ := hSw); go_simp) hHeld ?_
    try simp only [List.setIfInBounds_toArray, List.set_cons_zero, List.set_cons_succ]
    refine held_take (i := 10) (d := 42) (v := (.pointer (some ⟨g, i * 3, none⟩))) rfl rfl (by kernel_rfl) (by kernel_rfl) (by kernel_rfl) (fun _ _ _ h => h) (by kernel_rfl) (fun w hSw => by (obtain ⟨hS0, hS1, hS2, hS3, hS4, hS5⟩ := hSw); go_simp) hHeld ?_
    try simp only [List.setIfInBounds_toArray, List.set_cons_zero, List.set_cons_succ]
    refine held_take (i := 11) (d := 43) (v := (.agg #[.int .i64 y1, .int .i64 y2])) rfl rfl (by kernel_rfl) (by kernel_rfl) (by kernel_rfl) (fun _ _ _ h => h) (by kernel_rfl) (fun w hSw => by (obtain ⟨hS0, hS1, hS2, hS3, hS4, hS5⟩ := hSw); go_simp) hHeld ?_
    try simp only [List.setIfInBounds_toArray, List.set_cons_zero, List.set_cons_succ]
    refine held_take (i := 12) (d := 44) (v := (.pointer (some ⟨p, 0, none⟩))) rfl rfl (by kernel_rfl) (by kernel_rfl) (by kernel_rfl) (fun _ _ _ h => h) (by kernel_rfl) (fun w hSw => by (obtain ⟨hS0, hS1, hS2, hS3, hS4, hS5⟩ := hSw); go_simp) hHeld ?_
    try simp only [List.setIfInBounds_toArray, List.set_cons_zero, List.set_cons_succ]
    refine held_take (i := 13) (d := 45) (v := (.pointer (some ⟨p, 0, none⟩))) rfl rfl (by kernel_rfl) (by kernel_rfl) (by kernel_rfl) (fun _ _ _ h => h) (by kernel_rfl) (fun w hSw => by (obtain ⟨hS0, hS1, hS2, hS3, hS4, hS5⟩ := hSw); go_simp) hHeld ?_
    try simp only [List.setIfInBounds_toArray, List.set_cons_zero, List.set_cons_succ]
    refine held_take (i := 14) (d := 46) (v := (.pointer (some ⟨p, 1, none⟩))) rfl rfl (by kernel_rfl) (by kernel_rfl) (by kernel_rfl) (fun _ _ _ h => h) (by kernel_rfl) (fun w hSw => by (obtain ⟨hS0, hS1, hS2, hS3, hS4, hS5⟩ := hSw); go_simp) hHeld ?_
    try simp only [List.setIfInBounds_toArray, List.set_cons_zero, List.set_cons_succ]
    refine held_take (i := 15) (d := 47) (v := (.map (some b))) rfl rfl (by kernel_rfl) (by kernel_rfl) (by kernel_rfl) (fun _ _ _ h => h) (by kernel_rfl) (fun w hSw => by (obtain ⟨hS0, hS1, hS2, hS3, hS4, hS5⟩ := hSw); go_simp) hHeld ?_
    try simp only [List.setIfInBounds_toArray, List.set_cons_zero, List.set_cons_succ]
    refine held_take (i := 16) (d := 48) (v := (.pointer (some ⟨p, 0, none⟩))) rfl rfl (by kernel_rfl) (by kernel_rfl) (by kernel_rfl) (fun _ _ _ h => h) (by kernel_rfl) (fun w hSw => by (obtain ⟨hS0, hS1, hS2, hS3, hS4, hS5⟩ := hSw); go_simp) hHeld ?_
    try simp only [List.setIfInBounds_toArray, List.set_cons_zero, List.set_cons_succ]
    refine held_take (i := 17) (d := 49) (v := (.pointer (some ⟨p, 0, none⟩))) rfl rfl (by kernel_rfl) (by kernel_rfl) (by kernel_rfl) (fun _ _ _ h => h) (by kernel_rfl) (fun w hSw => by (obtain ⟨hS0, hS1, hS2, hS3, hS4, hS5⟩ := hSw); go_simp) hHeld ?_
    try simp only [List.setIfInBounds_toArray, List.set_cons_zero, List.set_cons_succ]
    refine held_take (i := 18) (d := 50) (v := (.pointer (some ⟨p, 0, none⟩))) rfl rfl (by kernel_rfl) (by kernel_rfl) (by kernel_rfl) (fun _ _ _ h => h) (by kernel_rfl) (fun w hSw => by (obtain ⟨hS0, hS1, hS2, hS3, hS4, hS5⟩ := hSw); go_simp) hHeld ?_
    try simp only [List.setIfInBounds_toArray, List.set_cons_zero, List.set_cons_succ]
    refine held_take (i := 19) (d := 51) (v := (.slice (some ⟨g, 0, none⟩) n c)) rfl rfl (by kernel_rfl) (by kernel_rfl) (by kernel_rfl) (fun _ _ _ h => h) (by kernel_rfl) (fun w hSw => by (obtain ⟨hS0, hS1, hS2, hS3, hS4, hS5⟩ := hSw); go_simp) hHeld ?_
    try simp only [List.setIfInBounds_toArray, List.set_cons_zero, List.set_cons_succ]
    refine held_take (i := 20) (d := 52) (v := (.int .i64 (j : Int))) rfl rfl (by kernel_rfl) (by kernel_rfl) (by kernel_rfl) (fun _ _ _ h => h) (by kernel_rfl) (fun w hSw => by (obtain ⟨hS0, hS1, hS2, hS3, hS4, hS5⟩ := hSw); go_simp) hHeld ?_
    try simp only [List.setIfInBounds_toArray, List.set_cons_zero, List.set_cons_succ]
    refine held_take (i := 21) (d := 53) (v := (.pointer (some ⟨g, j * 3, none⟩))) rfl rfl (by kernel_rfl) (by kernel_rfl) (by kernel_rfl) (fun _ _ _ h => h) (by kernel_rfl) (fun w hSw => by (obtain ⟨hS0, hS1, hS2, hS3, hS4, hS5⟩ := hSw); go_simp) hHeld ?_
    try simp only [List.setIfInBounds_toArray, List.set_cons_zero, List.set_cons_succ]
    refine held_take (i := 22) (d := 54) (v := (.pointer (some ⟨g, j * 3, none⟩))) rfl rfl (by kernel_rfl) (by kernel_rfl) (by kernel_rfl) (fun _ _ _ h => h) (by kernel_rfl) (fun w hSw => by (obtain ⟨hS0, hS1, hS2, hS3, hS4, hS5⟩ := hSw); go_simp) hHeld ?_
    try simp only [List.setIfInBounds_toArray, List.set_cons_zero, List.set_cons_succ]
    refine held_take (i := 23) (d := 55) (v := (.agg #[.int .i64 x1, .int .i64 x2])) rfl rfl (by kernel_rfl) (by kernel_rfl) (by kernel_rfl) (fun _ _ _ h => h) (by kernel_rfl) (fun w hSw => by (obtain ⟨hS0, hS1, hS2, hS3, hS4, hS5⟩ := hSw); go_simp) hHeld ?_
    try simp only [List.setIfInBounds_toArray, List.set_cons_zero, List.set_cons_succ]
    refine held_take (i := 24) (d := 56) (v := (.int .i64 (i : Int))) rfl rfl (by kernel_rfl) (by kernel_rfl) (by kernel_rfl) (fun _ _ _ h => h) (by kernel_rfl) (fun w hSw => by (obtain ⟨hS0, hS1, hS2, hS3, hS4, hS5⟩ := hSw); go_simp) hHeld ?_
    try simp only [List.setIfInBounds_toArray, List.set_cons_zero, List.set_cons_succ]
    refine held_take (i := 25) (d := 57) (v := (.int .i64 (j : Int))) rfl rfl (by kernel_rfl) (by kernel_rfl) (by kernel_rfl) (fun _ _ _ h => h) (by kernel_rfl) (fun w hSw => by (obtain ⟨hS0, hS1, hS2, hS3, hS4, hS5⟩ := hSw); go_simp) hHeld ?_
    try simp only [List.setIfInBounds_toArray, List.set_cons_zero, List.set_cons_succ]
    refine wpAnyH_ready (rs := [26]) (by kernel_rfl) (by simp) ?_
    refine AllReadyH.cons rfl (fun K hK => ?_) AllReadyH.nil
    refine step_entry rfl (.tmp 35) (.tmp 43) rfl HE1.out ?_
    try simp only [Act.put]
    refine hK.out _ _ (by first | (with_reducible exact HM0.out) | (with_reducible exact HM1.out) | (with_reducible exact HM2.out) | (with_reducible exact HM3.out) | (with_reducible exact HM4.out)) (fun hHeld => ?_)
    clear hK K
    refine held_take (i := 27) (d := 59) (v := (.int .i64 (st1 : Int))) rfl rfl (by kernel_rfl) (by kernel_rfl) (by kernel_rfl) (fun _ _ _ h => h) (by kernel_rfl) (fun w hSw => by (obtain ⟨hS0, hS1, hS2, hS3, hS4, hS5⟩ := hSw); go_simp) hHeld ?_
    try simp only [List.setIfInBounds_toArray]
    refine wpAnyH_ready (rs := [28]) (by kernel_rfl) (by simp) ?_
    refine AllReadyH.cons rfl (fun K hK => ?_) AllReadyH.nil
    refine step_entry_store rfl (.tmp 35) (.tmp 59) (.tmp 56) rfl HE2.out ?_
    try simp only [Act.put]
    refine hK.out _ _ (by first | (with_reducible exact HM0.out) | (with_reducible exact HM1.out) | (with_reducible exact HM2.out) | (with_reducible exact HM3.out) | (with_reducible exact HM4.out)) (fun hHeld => ?_)
    clear hK K
    refine wpAnyH_ready (rs := [29]) (by kernel_rfl) (by simp) ?_
    refine AllReadyH.cons rfl (fun K hK => ?_) AllReadyH.nil
    refine step_entry rfl (.tmp 47) (.tmp 55) rfl HE3.out ?_
    try simp only [Act.put]
    refine hK.out _ _ (by first | (with_reducible exact HM0.out) | (with_reducible exact HM1.out) | (with_reducible exact HM2.out) | (with_reducible exact HM3.out) | (with_reducible exact HM4.out)) (fun hHeld => ?_)
    clear hK K
    refine held_take (i := 30) (d := 61) (v := (.int .i64 (st2 : Int))) rfl rfl (by kernel_rfl) (by kernel_rfl) (by kernel_rfl) (fun _ _ _ h => h) (by kernel_rfl) (fun w hSw => by (obtain ⟨hS0, hS1, hS2, hS3, hS4, hS5⟩ := hSw); go_simp) hHeld ?_
    try simp only [List.setIfInBounds_toArray]
    refine wpAnyH_ready (rs := [31]) (by kernel_rfl) (by simp) ?_
    refine AllReadyH.cons rfl (fun K hK => ?_) AllReadyH.nil
    refine step_entry_store rfl (.tmp 47) (.tmp 61) (.tmp 57) rfl HE4.out ?_
    try simp only [Act.put]
    refine hK.out _ _ (by first | (with_reducible exact HM0.out) | (with_reducible exact HM1.out) | (with_reducible exact HM2.out) | (with_reducible exact HM3.out) | (with_reducible exact HM4.out)) (fun hHeld => ?_)
    clear hK K
    refine wpAnyH_done (by kernel_rfl) ?_ _
    go_end0
    exact ⟨rfl, HFIN.out⟩
end Go.Proofs.Ytldlcddmbgcfdaa.Wh
