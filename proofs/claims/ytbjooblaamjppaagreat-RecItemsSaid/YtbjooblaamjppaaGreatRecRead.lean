/-
  Texts of earlier layers, as one.
-/
import Derived.Test.YtbjooblaamjppaaGreatRecPart
/- rec.read: what a row of items says as a record's parts, whatever they are. -/
namespace Go.Proofs.YtbjooblaamjppaaGreat.Rk
open Go.RowKit Mem Ids Att Cod

theorem blk16_set {w : World} {g : Nat} {t : TypeId} {v0 v1 v2 v3 v4 v5 v6 v7 v8 v9 v10 v11 v12 v13 v14 v15 : Value} (h : Blk w g t #[v0, v1, v2, v3, v4, v5, v6, v7, v8, v9, v10, v11, v12, v13, v14, v15]) (u0 u1 u2 u3 u4 u5 u6 u7 u8 u9 u10 u11 u12 u13 u14 u15 : Value) :
    Blk ((((((((((((((((w.setCell ⟨g, 0, none⟩ (u0)).setCell ⟨g, 1, none⟩ (u1)).setCell ⟨g, 2, none⟩ (u2)).setCell ⟨g, 3, none⟩ (u3)).setCell ⟨g, 4, none⟩ (u4)).setCell ⟨g, 5, none⟩ (u5)).setCell ⟨g, 6, none⟩ (u6)).setCell ⟨g, 7, none⟩ (u7)).setCell ⟨g, 8, none⟩ (u8)).setCell ⟨g, 9, none⟩ (u9)).setCell ⟨g, 10, none⟩ (u10)).setCell ⟨g, 11, none⟩ (u11)).setCell ⟨g, 12, none⟩ (u12)).setCell ⟨g, 13, none⟩ (u13)).setCell ⟨g, 14, none⟩ (u14)).setCell ⟨g, 15, none⟩ (u15)) g t #[u0, u1, u2, u3, u4, u5, u6, u7, u8, u9, u10, u11, u12, u13, u14, u15] ∧ w.grownBy ((((((((((((((((w.setCell ⟨g, 0, none⟩ (u0)).setCell ⟨g, 1, none⟩ (u1)).setCell ⟨g, 2, none⟩ (u2)).setCell ⟨g, 3, none⟩ (u3)).setCell ⟨g, 4, none⟩ (u4)).setCell ⟨g, 5, none⟩ (u5)).setCell ⟨g, 6, none⟩ (u6)).setCell ⟨g, 7, none⟩ (u7)).setCell ⟨g, 8, none⟩ (u8)).setCell ⟨g, 9, none⟩ (u9)).setCell ⟨g, 10, none⟩ (u10)).setCell ⟨g, 11, none⟩ (u11)).setCell ⟨g, 12, none⟩ (u12)).setCell ⟨g, 13, none⟩ (u13)).setCell ⟨g, 14, none⟩ (u14)).setCell ⟨g, 15, none⟩ (u15)) (some g) :=
  ⟨by simpa using (((((((((((((((h.put 0 u0).put 1 u1).put 2 u2).put 3 u3).put 4 u4).put 5 u5).put 6 u6).put 7 u7).put 8 u8).put 9 u9).put 10 u10).put 11 u11).put 12 u12).put 13 u13).put 14 u14).put 15 u15, gr_set (p := ⟨g, 15, none⟩) (gr_set (p := ⟨g, 14, none⟩) (gr_set (p := ⟨g, 13, none⟩) (gr_set (p := ⟨g, 12, none⟩) (gr_set (p := ⟨g, 11, none⟩) (gr_set (p := ⟨g, 10, none⟩) (gr_set (p := ⟨g, 9, none⟩) (gr_set (p := ⟨g, 8, none⟩) (gr_set (p := ⟨g, 7, none⟩) (gr_set (p := ⟨g, 6, none⟩) (gr_set (p := ⟨g, 5, none⟩) (gr_set (p := ⟨g, 4, none⟩) (gr_set (p := ⟨g, 3, none⟩) (gr_set (p := ⟨g, 2, none⟩) (gr_set (p := ⟨g, 1, none⟩) (gr_set (p := ⟨g, 0, none⟩) (gr_refl w (some g)) (.inl rfl) _) (.inl rfl) _) (.inl rfl) _) (.inl rfl) _) (.inl rfl) _) (.inl rfl) _) (.inl rfl) _) (.inl rfl) _) (.inl rfl) _) (.inl rfl) _) (.inl rfl) _) (.inl rfl) _) (.inl rfl) _) (.inl rfl) _) (.inl rfl) _) (.inl rfl) _⟩
/-- What a row of items says. -/
noncomputable def readOf (T : It → Option At) (l : List It) : Rc :=
  ⟨(Cmd.w64 (l.getD 0 Cmd.zeroIt).num, Cmd.w64 (l.getD 1 Cmd.zeroIt).num), Cmd.w64 (l.getD 2 Cmd.zeroIt).num, (Bal.balTake (l.getD 3 Cmd.zeroIt)).getD (0, 0), (Bal.balTake (l.getD 4 Cmd.zeroIt)).getD (0, 0), (Cmd.takeOf (l.getD 5 Cmd.zeroIt)).getD Cmd.zeroCm, (T (l.getD 6 Cmd.zeroIt)).getD zeroAt⟩
/-- The ending: a record, what it hangs on in memory of the call's own. -/
def ReadsAt (w : World) (r : Rc) (e : Ending) (w' : World) : Prop :=
  ∃ V nv cv, e = .returned (.agg #[.int .i64 r.id.1, .int .i64 r.id.2, .int .i64 r.st, .int .i64 r.bl.1, .int .i64 r.bl.2, .int .i64 r.tk.1, .int .i64 r.tk.2, .int .i64 r.cm.kd, .int .i64 r.cm.cl, .int .i64 r.cm.sq, .string r.cm.ky, .string r.cm.vl, .int .i64 r.cm.rv, .slice V nv cv, .int .i64 r.at_.sq, .int .i64 r.at_.tg]) ∧
    Rs w' V nv cv r.at_.dp ∧ (∀ g o, V = some ⟨g, o, none⟩ → w.heap.size ≤ g) ∧ Below w.heap.size w w'
theorem up1_min (i n : Nat) : up1 (min i n) n = min (i + 1) n := by
  unfold up1
  split <;> omega
theorem getD_min {l : List It} {n : Nat} (h : l.length = n) (i : Nat) (z : It) : l.getD (min i n) z = l.getD i z := by
  by_cases hi : i < n
  · rw [Nat.min_eq_left (by omega)]
  · rw [Nat.min_eq_right (by omega), List.getD_eq_getElem?_getD, List.getD_eq_getElem?_getD, List.getElem?_eq_none (by omega), List.getElem?_eq_none (by omega)]

set_option maxRecDepth 100000 in
set_option maxHeartbeats 8000000 in
theorem read_any (A : Option Addr) (n c : Nat) (l : List It) (S : Nat → Prop) (w : World) (hr : Cod.Row w S A n c l) (hn : n ≤ 1000000000) (hS : ∀ b, S b → b < w.heap.size) :
    Calls Tryz.prog 27 #[.slice A n c, .func (.func 28) #[] #[]] w (ReadsAt w (readOf attTake l)) := by
  have hlen : l.length = n := hr.1
  obtain ⟨W, hW⟩ : ∃ W, ((w.alloc (.cells #[.int .i64 0, .int .i64 0, .int .i64 0, .int .i64 0, .int .i64 0, .int .i64 0, .int .i64 0, .int .i64 0, .int .i64 0, .int .i64 0, .string ⟨#[]⟩, .string ⟨#[]⟩, .int .i64 0, .slice none 0 0, .int .i64 0, .int .i64 0] 32)).alloc (.cells #[.slice A n c, .int .i64 0] 75)).alloc (.cells #[.int .i64 0, .int .i64 0, .int .i64 0, .int .i64 0, .int .i64 0, .int .i64 0, .int .i64 0, .int .i64 0, .int .i64 0, .int .i64 0, .string ⟨#[]⟩, .string ⟨#[]⟩, .int .i64 0, .slice none 0 0, .int .i64 0, .int .i64 0] 32) = W := ⟨_, rfl⟩
  obtain ⟨k1, k2, k3, kb, hsW⟩ := three_kinds w _ _ _ _ _ _ W hW
  have H0 := Lib.hid k1
  have HP := Lib.hid (show Blk W (w.heap.size + 1) 75 #[.slice A n c, .int .i64 ((min 0 n : Nat) : Int)] by simpa using k2)
  have HQ := Lib.hid (show Blk W (w.heap.size + 1 + 1) 32 #[.int .i64 0, .int .i64 0, .int .i64 0, .int .i64 0, .int .i64 0, .int .i64 0, .int .i64 0, .int .i64 0, .int .i64 0, .int .i64 0, .string ⟨#[]⟩, .string ⟨#[]⟩, .int .i64 0, .slice none 0 0, .int .i64 0, .int .i64 0] from k3)
  have HB := Lib.hid kb
  have HW := Lib.hid hW
  have HSW := Lib.hid hsW
  have HR := Lib.hid (hr.below kb hS)
  have HSS := Lib.hid hS
  have HSP := Lib.hid (show ¬ S (w.heap.size + 1) from fun h => by have := hS _ h; omega)
  have HLE := Lib.hid hlen
  have HN := Lib.hid hn
  clear k1 k2 k3 kb hW hr hlen hn hsW hS
  go_enter Tryz.func27, Tryz.ntmps27
  go_wp2_with fail
  rw [HW.out]
  have h1 := partint_any (w.heap.size + 1) A n c (min 0 n) l S W HR.out (by omega) HN.out HP.out HSP.out (fun b hb => Nat.lt_of_lt_of_le (HSS.out b hb) HB.out.size)
  rw [getD_min HLE.out, up1_min] at h1
  obtain ⟨r0, hr0⟩ : ∃ v, Cmd.w64 (l.getD 0 Cmd.zeroIt).num = v := ⟨_, rfl⟩
  rw [hr0] at h1
  have HV0 := Lib.hid hr0
  have HC := Lib.hid h1
  clear h1 hr0
  refine HC.out.mono ?_
  rintro e w1 ⟨rfl, hg, hp⟩
  have hq := HQ.out.grown hg (fun e => by injection e with e; omega)
  have h0 := H0.out.grown hg (fun e => by injection e with e; omega)
  have hr := HR.out.grown hg (fun b hb e => by injection e with e; have := HSS.out b hb; omega)
  have hbw := HB.out.trans ((gr_below hg HB.out.size (fun b hb => by injection hb with hb; omega) : Below w.heap.size W w1))
  have z0 := hq.soft 0
  have c0 := hq.cell 0
  simp at c0
  go_wp2_with fail
  have hq' : Blk (w1.setCell ⟨(w.heap.size + 1 + 1), 0, none⟩ (.int .i64 r0)) (w.heap.size + 1 + 1) 32 #[.int .i64 r0, .int .i64 0, .int .i64 0, .int .i64 0, .int .i64 0, .int .i64 0, .int .i64 0, .int .i64 0, .int .i64 0, .int .i64 0, .string ⟨#[]⟩, .string ⟨#[]⟩, .int .i64 0, .slice none 0 0, .int .i64 0, .int .i64 0] := by simpa using (hq.put 0 (.int .i64 r0))
  have h0' : Blk (w1.setCell ⟨(w.heap.size + 1 + 1), 0, none⟩ (.int .i64 r0)) w.heap.size 32 #[.int .i64 0, .int .i64 0, .int .i64 0, .int .i64 0, .int .i64 0, .int .i64 0, .int .i64 0, .int .i64 0, .int .i64 0, .int .i64 0, .string ⟨#[]⟩, .string ⟨#[]⟩, .int .i64 0, .slice none 0 0, .int .i64 0, .int .i64 0] := (h0.far (p := ⟨(w.heap.size + 1 + 1), 0, none⟩) (show w.heap.size ≠ (w.heap.size + 1 + 1) by omega) (.int .i64 r0))
  have hp' : Blk (w1.setCell ⟨(w.heap.size + 1 + 1), 0, none⟩ (.int .i64 r0)) (w.heap.size + 1) 75 #[.slice A n c, .int .i64 ((min 1 n : Nat) : Int)] := (hp.far (p := ⟨(w.heap.size + 1 + 1), 0, none⟩) (show (w.heap.size + 1) ≠ (w.heap.size + 1 + 1) by omega) (.int .i64 r0))
  have hg' : w1.grownBy (w1.setCell ⟨(w.heap.size + 1 + 1), 0, none⟩ (.int .i64 r0)) (some (w.heap.size + 1 + 1)) := (gr_set (p := ⟨(w.heap.size + 1 + 1), 0, none⟩) (gr_refl w1 (some (w.heap.size + 1 + 1))) (.inl rfl) _)
  have hr' := hr.grown hg' (fun b hb e => by injection e with e; have := HSS.out b hb; omega)
  have hb' := hbw.trans (gr_below hg' hbw.size (fun b hb => by injection hb with hb; omega))
  generalize w1.setCell ⟨(w.heap.size + 1 + 1), 0, none⟩ (.int .i64 r0) = W1 at hq' h0' hp' hg' hr' hb' ⊢
  replace HQ := Lib.hid hq'
  replace H0 := Lib.hid h0'
  replace HP := Lib.hid hp'
  replace HR := Lib.hid hr'
  replace HB := Lib.hid hb'
  clear HC hg hp hq h0 hr hbw hq' h0' hp' hg' hr' hb' z0 c0
  have h1 := partint_any (w.heap.size + 1) A n c (min 1 n) l S W1 HR.out (by omega) HN.out HP.out HSP.out (fun b hb => Nat.lt_of_lt_of_le (HSS.out b hb) HB.out.size)
  rw [getD_min HLE.out, up1_min] at h1
  obtain ⟨r1, hr1⟩ : ∃ v, Cmd.w64 (l.getD 1 Cmd.zeroIt).num = v := ⟨_, rfl⟩
  rw [hr1] at h1
  have HV1 := Lib.hid hr1
  have HC := Lib.hid h1
  clear h1 hr1
  refine HC.out.mono ?_
  rintro e w2 ⟨rfl, hg, hp⟩
  have hq := HQ.out.grown hg (fun e => by injection e with e; omega)
  have h0 := H0.out.grown hg (fun e => by injection e with e; omega)
  have hr := HR.out.grown hg (fun b hb e => by injection e with e; have := HSS.out b hb; omega)
  have hbw := HB.out.trans ((gr_below hg HB.out.size (fun b hb => by injection hb with hb; omega) : Below w.heap.size W1 w2))
  have z1 := hq.soft 1
  have c1 := hq.cell 1
  simp at c1
  go_wp2_with fail
  have hq' : Blk (w2.setCell ⟨(w.heap.size + 1 + 1), 1, none⟩ (.int .i64 r1)) (w.heap.size + 1 + 1) 32 #[.int .i64 r0, .int .i64 r1, .int .i64 0, .int .i64 0, .int .i64 0, .int .i64 0, .int .i64 0, .int .i64 0, .int .i64 0, .int .i64 0, .string ⟨#[]⟩, .string ⟨#[]⟩, .int .i64 0, .slice none 0 0, .int .i64 0, .int .i64 0] := by simpa using (hq.put 1 (.int .i64 r1))
  have h0' : Blk (w2.setCell ⟨(w.heap.size + 1 + 1), 1, none⟩ (.int .i64 r1)) w.heap.size 32 #[.int .i64 0, .int .i64 0, .int .i64 0, .int .i64 0, .int .i64 0, .int .i64 0, .int .i64 0, .int .i64 0, .int .i64 0, .int .i64 0, .string ⟨#[]⟩, .string ⟨#[]⟩, .int .i64 0, .slice none 0 0, .int .i64 0, .int .i64 0] := (h0.far (p := ⟨(w.heap.size + 1 + 1), 1, none⟩) (show w.heap.size ≠ (w.heap.size + 1 + 1) by omega) (.int .i64 r1))
  have hp' : Blk (w2.setCell ⟨(w.heap.size + 1 + 1), 1, none⟩ (.int .i64 r1)) (w.heap.size + 1) 75 #[.slice A n c, .int .i64 ((min 2 n : Nat) : Int)] := (hp.far (p := ⟨(w.heap.size + 1 + 1), 1, none⟩) (show (w.heap.size + 1) ≠ (w.heap.size + 1 + 1) by omega) (.int .i64 r1))
  have hg' : w2.grownBy (w2.setCell ⟨(w.heap.size + 1 + 1), 1, none⟩ (.int .i64 r1)) (some (w.heap.size + 1 + 1)) := (gr_set (p := ⟨(w.heap.size + 1 + 1), 1, none⟩) (gr_refl w2 (some (w.heap.size + 1 + 1))) (.inl rfl) _)
  have hr' := hr.grown hg' (fun b hb e => by injection e with e; have := HSS.out b hb; omega)
  have hb' := hbw.trans (gr_below hg' hbw.size (fun b hb => by injection hb with hb; omega))
  generalize w2.setCell ⟨(w.heap.size + 1 + 1), 1, none⟩ (.int .i64 r1) = W2 at hq' h0' hp' hg' hr' hb' ⊢
  replace HQ := Lib.hid hq'
  replace H0 := Lib.hid h0'
  replace HP := Lib.hid hp'
  replace HR := Lib.hid hr'
  replace HB := Lib.hid hb'
  clear HC hg hp hq h0 hr hbw hq' h0' hp' hg' hr' hb' z1 c1
  have h1 := partint_any (w.heap.size + 1) A n c (min 2 n) l S W2 HR.out (by omega) HN.out HP.out HSP.out (fun b hb => Nat.lt_of_lt_of_le (HSS.out b hb) HB.out.size)
  rw [getD_min HLE.out, up1_min] at h1
  obtain ⟨r2, hr2⟩ : ∃ v, Cmd.w64 (l.getD 2 Cmd.zeroIt).num = v := ⟨_, rfl⟩
  rw [hr2] at h1
  have HV2 := Lib.hid hr2
  have HC := Lib.hid h1
  clear h1 hr2
  refine HC.out.mono ?_
  rintro e w3 ⟨rfl, hg, hp⟩
  have hq := HQ.out.grown hg (fun e => by injection e with e; omega)
  have h0 := H0.out.grown hg (fun e => by injection e with e; omega)
  have hr := HR.out.grown hg (fun b hb e => by injection e with e; have := HSS.out b hb; omega)
  have hbw := HB.out.trans ((gr_below hg HB.out.size (fun b hb => by injection hb with hb; omega) : Below w.heap.size W2 w3))
  have z2 := hq.soft 2
  have c2 := hq.cell 2
  simp at c2
  go_wp2_with fail
  have hq' : Blk (w3.setCell ⟨(w.heap.size + 1 + 1), 2, none⟩ (.int .i64 r2)) (w.heap.size + 1 + 1) 32 #[.int .i64 r0, .int .i64 r1, .int .i64 r2, .int .i64 0, .int .i64 0, .int .i64 0, .int .i64 0, .int .i64 0, .int .i64 0, .int .i64 0, .string ⟨#[]⟩, .string ⟨#[]⟩, .int .i64 0, .slice none 0 0, .int .i64 0, .int .i64 0] := by simpa using (hq.put 2 (.int .i64 r2))
  have h0' : Blk (w3.setCell ⟨(w.heap.size + 1 + 1), 2, none⟩ (.int .i64 r2)) w.heap.size 32 #[.int .i64 0, .int .i64 0, .int .i64 0, .int .i64 0, .int .i64 0, .int .i64 0, .int .i64 0, .int .i64 0, .int .i64 0, .int .i64 0, .string ⟨#[]⟩, .string ⟨#[]⟩, .int .i64 0, .slice none 0 0, .int .i64 0, .int .i64 0] := (h0.far (p := ⟨(w.heap.size + 1 + 1), 2, none⟩) (show w.heap.size ≠ (w.heap.size + 1 + 1) by omega) (.int .i64 r2))
  have hp' : Blk (w3.setCell ⟨(w.heap.size + 1 + 1), 2, none⟩ (.int .i64 r2)) (w.heap.size + 1) 75 #[.slice A n c, .int .i64 ((min 3 n : Nat) : Int)] := (hp.far (p := ⟨(w.heap.size + 1 + 1), 2, none⟩) (show (w.heap.size + 1) ≠ (w.heap.size + 1 + 1) by omega) (.int .i64 r2))
  have hg' : w3.grownBy (w3.setCell ⟨(w.heap.size + 1 + 1), 2, none⟩ (.int .i64 r2)) (some (w.heap.size + 1 + 1)) := (gr_set (p := ⟨(w.heap.size + 1 + 1), 2, none⟩) (gr_refl w3 (some (w.heap.size + 1 + 1))) (.inl rfl) _)
  have hr' := hr.grown hg' (fun b hb e => by injection e with e; have := HSS.out b hb; omega)
  have hb' := hbw.trans (gr_below hg' hbw.size (fun b hb => by injection hb with hb; omega))
  generalize w3.setCell ⟨(w.heap.size + 1 + 1), 2, none⟩ (.int .i64 r2) = W3 at hq' h0' hp' hg' hr' hb' ⊢
  replace HQ := Lib.hid hq'
  replace H0 := Lib.hid h0'
  replace HP := Lib.hid hp'
  replace HR := Lib.hid hr'
  replace HB := Lib.hid hb'
  clear HC hg hp hq h0 hr hbw hq' h0' hp' hg' hr' hb' z2 c2
  have h1 := partbal_any (w.heap.size + 1) A n c (min 3 n) l S W3 HR.out (by omega) HN.out HP.out HSP.out (fun b hb => Nat.lt_of_lt_of_le (HSS.out b hb) HB.out.size)
  rw [getD_min HLE.out] at h1
  have HC := Lib.hid h1
  clear h1
  refine HC.out.mono ?_
  rintro e w4 ⟨⟨r3, r4⟩, rfl, hb, hg, hp⟩
  rw [up1_min] at hp
  have HV3 := Lib.hid hb
  simp only
  clear hb
  have hq := HQ.out.grown hg (fun e => by injection e with e; omega)
  have h0 := H0.out.grown hg (fun e => by injection e with e; omega)
  have hr := HR.out.grown hg (fun b hb e => by injection e with e; have := HSS.out b hb; omega)
  have hbw := HB.out.trans ((gr_below hg HB.out.size (fun b hb => by injection hb with hb; omega) : Below w.heap.size W3 w4))
  have z3 := hq.soft 3
  have c3 := hq.cell 3
  have z4 := hq.soft 4
  have c4 := hq.cell 4
  simp at c3 c4
  go_wp2_with fail
  have hq' : Blk ((w4.setCell ⟨(w.heap.size + 1 + 1), 3, none⟩ (.int .i64 r3)).setCell ⟨(w.heap.size + 1 + 1), 4, none⟩ (.int .i64 r4)) (w.heap.size + 1 + 1) 32 #[.int .i64 r0, .int .i64 r1, .int .i64 r2, .int .i64 r3, .int .i64 r4, .int .i64 0, .int .i64 0, .int .i64 0, .int .i64 0, .int .i64 0, .string ⟨#[]⟩, .string ⟨#[]⟩, .int .i64 0, .slice none 0 0, .int .i64 0, .int .i64 0] := by simpa using ((hq.put 3 (.int .i64 r3)).put 4 (.int .i64 r4))
  have h0' : Blk ((w4.setCell ⟨(w.heap.size + 1 + 1), 3, none⟩ (.int .i64 r3)).setCell ⟨(w.heap.size + 1 + 1), 4, none⟩ (.int .i64 r4)) w.heap.size 32 #[.int .i64 0, .int .i64 0, .int .i64 0, .int .i64 0, .int .i64 0, .int .i64 0, .int .i64 0, .int .i64 0, .int .i64 0, .int .i64 0, .string ⟨#[]⟩, .string ⟨#[]⟩, .int .i64 0, .slice none 0 0, .int .i64 0, .int .i64 0] := ((h0.far (p := ⟨(w.heap.size + 1 + 1), 3, none⟩) (show w.heap.size ≠ (w.heap.size + 1 + 1) by omega) (.int .i64 r3)).far (p := ⟨(w.heap.size + 1 + 1), 4, none⟩) (show w.heap.size ≠ (w.heap.size + 1 + 1) by omega) (.int .i64 r4))
  have hp' : Blk ((w4.setCell ⟨(w.heap.size + 1 + 1), 3, none⟩ (.int .i64 r3)).setCell ⟨(w.heap.size + 1 + 1), 4, none⟩ (.int .i64 r4)) (w.heap.size + 1) 75 #[.slice A n c, .int .i64 ((min 4 n : Nat) : Int)] := ((hp.far (p := ⟨(w.heap.size + 1 + 1), 3, none⟩) (show (w.heap.size + 1) ≠ (w.heap.size + 1 + 1) by omega) (.int .i64 r3)).far (p := ⟨(w.heap.size + 1 + 1), 4, none⟩) (show (w.heap.size + 1) ≠ (w.heap.size + 1 + 1) by omega) (.int .i64 r4))
  have hg' : w4.grownBy ((w4.setCell ⟨(w.heap.size + 1 + 1), 3, none⟩ (.int .i64 r3)).setCell ⟨(w.heap.size + 1 + 1), 4, none⟩ (.int .i64 r4)) (some (w.heap.size + 1 + 1)) := (gr_set (p := ⟨(w.heap.size + 1 + 1), 4, none⟩) (gr_set (p := ⟨(w.heap.size + 1 + 1), 3, none⟩) (gr_refl w4 (some (w.heap.size + 1 + 1))) (.inl rfl) _) (.inl rfl) _)
  have hr' := hr.grown hg' (fun b hb e => by injection e with e; have := HSS.out b hb; omega)
  have hb' := hbw.trans (gr_below hg' hbw.size (fun b hb => by injection hb with hb; omega))
  generalize (w4.setCell ⟨(w.heap.size + 1 + 1), 3, none⟩ (.int .i64 r3)).setCell ⟨(w.heap.size + 1 + 1), 4, none⟩ (.int .i64 r4) = W4 at hq' h0' hp' hg' hr' hb' ⊢
  replace HQ := Lib.hid hq'
  replace H0 := Lib.hid h0'
  replace HP := Lib.hid hp'
  replace HR := Lib.hid hr'
  replace HB := Lib.hid hb'
  clear HC hg hp hq h0 hr hbw hq' h0' hp' hg' hr' hb' z3 c3 z4 c4
  have h1 := partbal_any (w.heap.size + 1) A n c (min 4 n) l S W4 HR.out (by omega) HN.out HP.out HSP.out (fun b hb => Nat.lt_of_lt_of_le (HSS.out b hb) HB.out.size)
  rw [getD_min HLE.out] at h1
  have HC := Lib.hid h1
  clear h1
  refine HC.out.mono ?_
  rintro e w5 ⟨⟨r5, r6⟩, rfl, hb, hg, hp⟩
  rw [up1_min] at hp
  have HV4 := Lib.hid hb
  simp only
  clear hb
  have hq := HQ.out.grown hg (fun e => by injection e with e; omega)
  have h0 := H0.out.grown hg (fun e => by injection e with e; omega)
  have hr := HR.out.grown hg (fun b hb e => by injection e with e; have := HSS.out b hb; omega)
  have hbw := HB.out.trans ((gr_below hg HB.out.size (fun b hb => by injection hb with hb; omega) : Below w.heap.size W4 w5))
  have z5 := hq.soft 5
  have c5 := hq.cell 5
  have z6 := hq.soft 6
  have c6 := hq.cell 6
  simp at c5 c6
  go_wp2_with fail
  have hq' : Blk ((w5.setCell ⟨(w.heap.size + 1 + 1), 5, none⟩ (.int .i64 r5)).setCell ⟨(w.heap.size + 1 + 1), 6, none⟩ (.int .i64 r6)) (w.heap.size + 1 + 1) 32 #[.int .i64 r0, .int .i64 r1, .int .i64 r2, .int .i64 r3, .int .i64 r4, .int .i64 r5, .int .i64 r6, .int .i64 0, .int .i64 0, .int .i64 0, .string ⟨#[]⟩, .string ⟨#[]⟩, .int .i64 0, .slice none 0 0, .int .i64 0, .int .i64 0] := by simpa using ((hq.put 5 (.int .i64 r5)).put 6 (.int .i64 r6))
  have h0' : Blk ((w5.setCell ⟨(w.heap.size + 1 + 1), 5, none⟩ (.int .i64 r5)).setCell ⟨(w.heap.size + 1 + 1), 6, none⟩ (.int .i64 r6)) w.heap.size 32 #[.int .i64 0, .int .i64 0, .int .i64 0, .int .i64 0, .int .i64 0, .int .i64 0, .int .i64 0, .int .i64 0, .int .i64 0, .int .i64 0, .string ⟨#[]⟩, .string ⟨#[]⟩, .int .i64 0, .slice none 0 0, .int .i64 0, .int .i64 0] := ((h0.far (p := ⟨(w.heap.size + 1 + 1), 5, none⟩) (show w.heap.size ≠ (w.heap.size + 1 + 1) by omega) (.int .i64 r5)).far (p := ⟨(w.heap.size + 1 + 1), 6, none⟩) (show w.heap.size ≠ (w.heap.size + 1 + 1) by omega) (.int .i64 r6))
  have hp' : Blk ((w5.setCell ⟨(w.heap.size + 1 + 1), 5, none⟩ (.int .i64 r5)).setCell ⟨(w.heap.size + 1 + 1), 6, none⟩ (.int .i64 r6)) (w.heap.size + 1) 75 #[.slice A n c, .int .i64 ((min 5 n : Nat) : Int)] := ((hp.far (p := ⟨(w.heap.size + 1 + 1), 5, none⟩) (show (w.heap.size + 1) ≠ (w.heap.size + 1 + 1) by omega) (.int .i64 r5)).far (p := ⟨(w.heap.size + 1 + 1), 6, none⟩) (show (w.heap.size + 1) ≠ (w.heap.size + 1 + 1) by omega) (.int .i64 r6))
  have hg' : w5.grownBy ((w5.setCell ⟨(w.heap.size + 1 + 1), 5, none⟩ (.int .i64 r5)).setCell ⟨(w.heap.size + 1 + 1), 6, none⟩ (.int .i64 r6)) (some (w.heap.size + 1 + 1)) := (gr_set (p := ⟨(w.heap.size + 1 + 1), 6, none⟩) (gr_set (p := ⟨(w.heap.size + 1 + 1), 5, none⟩) (gr_refl w5 (some (w.heap.size + 1 + 1))) (.inl rfl) _) (.inl rfl) _)
  have hr' := hr.grown hg' (fun b hb e => by injection e with e; have := HSS.out b hb; omega)
  have hb' := hbw.trans (gr_below hg' hbw.size (fun b hb => by injection hb with hb; omega))
  generalize (w5.setCell ⟨(w.heap.size + 1 + 1), 5, none⟩ (.int .i64 r5)).setCell ⟨(w.heap.size + 1 + 1), 6, none⟩ (.int .i64 r6) = W5 at hq' h0' hp' hg' hr' hb' ⊢
  replace HQ := Lib.hid hq'
  replace H0 := Lib.hid h0'
  replace HP := Lib.hid hp'
  replace HR := Lib.hid hr'
  replace HB := Lib.hid hb'
  clear HC hg hp hq h0 hr hbw hq' h0' hp' hg' hr' hb' z5 c5 z6 c6
  have h1 := partcm_any (w.heap.size + 1) A n c (min 5 n) l S W5 HR.out (by omega) HN.out HP.out HSP.out (fun b hb => Nat.lt_of_lt_of_le (HSS.out b hb) HB.out.size)
  rw [getD_min HLE.out] at h1
  have HC := Lib.hid h1
  clear h1
  refine HC.out.mono ?_
  rintro e w6 ⟨⟨m1, m2, m3, m4, m5, m6⟩, rfl, hb, hg, hp⟩
  rw [up1_min] at hp
  have HV5 := Lib.hid hb
  simp only
  clear hb
  have hq := HQ.out.grown hg (fun e => by injection e with e; omega)
  have h0 := H0.out.grown hg (fun e => by injection e with e; omega)
  have hr := HR.out.grown hg (fun b hb e => by injection e with e; have := HSS.out b hb; omega)
  have hbw := HB.out.trans ((gr_below hg HB.out.size (fun b hb => by injection hb with hb; omega) : Below w.heap.size W5 w6))
  have z7 := hq.soft 7
  have c7 := hq.cell 7
  have z8 := hq.soft 8
  have c8 := hq.cell 8
  have z9 := hq.soft 9
  have c9 := hq.cell 9
  have z10 := hq.soft 10
  have c10 := hq.cell 10
  have z11 := hq.soft 11
  have c11 := hq.cell 11
  have z12 := hq.soft 12
  have c12 := hq.cell 12
  simp at c7 c8 c9 c10 c11 c12
  go_wp2_with fail
  have hq' : Blk ((((((w6.setCell ⟨(w.heap.size + 1 + 1), 7, none⟩ (.int .i64 m1)).setCell ⟨(w.heap.size + 1 + 1), 8, none⟩ (.int .i64 m2)).setCell ⟨(w.heap.size + 1 + 1), 9, none⟩ (.int .i64 m3)).setCell ⟨(w.heap.size + 1 + 1), 10, none⟩ (.string m4)).setCell ⟨(w.heap.size + 1 + 1), 11, none⟩ (.string m5)).setCell ⟨(w.heap.size + 1 + 1), 12, none⟩ (.int .i64 m6)) (w.heap.size + 1 + 1) 32 #[.int .i64 r0, .int .i64 r1, .int .i64 r2, .int .i64 r3, .int .i64 r4, .int .i64 r5, .int .i64 r6, .int .i64 m1, .int .i64 m2, .int .i64 m3, .string m4, .string m5, .int .i64 m6, .slice none 0 0, .int .i64 0, .int .i64 0] := by simpa using ((((((hq.put 7 (.int .i64 m1)).put 8 (.int .i64 m2)).put 9 (.int .i64 m3)).put 10 (.string m4)).put 11 (.string m5)).put 12 (.int .i64 m6))
  have h0' : Blk ((((((w6.setCell ⟨(w.heap.size + 1 + 1), 7, none⟩ (.int .i64 m1)).setCell ⟨(w.heap.size + 1 + 1), 8, none⟩ (.int .i64 m2)).setCell ⟨(w.heap.size + 1 + 1), 9, none⟩ (.int .i64 m3)).setCell ⟨(w.heap.size + 1 + 1), 10, none⟩ (.string m4)).setCell ⟨(w.heap.size + 1 + 1), 11, none⟩ (.string m5)).setCell ⟨(w.heap.size + 1 + 1), 12, none⟩ (.int .i64 m6)) w.heap.size 32 #[.int .i64 0, .int .i64 0, .int .i64 0, .int .i64 0, .int .i64 0, .int .i64 0, .int .i64 0, .int .i64 0, .int .i64 0, .int .i64 0, .string ⟨#[]⟩, .string ⟨#[]⟩, .int .i64 0, .slice none 0 0, .int .i64 0, .int .i64 0] := ((((((h0.far (p := ⟨(w.heap.size + 1 + 1), 7, none⟩) (show w.heap.size ≠ (w.heap.size + 1 + 1) by omega) (.int .i64 m1)).far (p := ⟨(w.heap.size + 1 + 1), 8, none⟩) (show w.heap.size ≠ (w.heap.size + 1 + 1) by omega) (.int .i64 m2)).far (p := ⟨(w.heap.size + 1 + 1), 9, none⟩) (show w.heap.size ≠ (w.heap.size + 1 + 1) by omega) (.int .i64 m3)).far (p := ⟨(w.heap.size + 1 + 1), 10, none⟩) (show w.heap.size ≠ (w.heap.size + 1 + 1) by omega) (.string m4)).far (p := ⟨(w.heap.size + 1 + 1), 11, none⟩) (show w.heap.size ≠ (w.heap.size + 1 + 1) by omega) (.string m5)).far (p := ⟨(w.heap.size + 1 + 1), 12, none⟩) (show w.heap.size ≠ (w.heap.size + 1 + 1) by omega) (.int .i64 m6))
  have hp' : Blk ((((((w6.setCell ⟨(w.heap.size + 1 + 1), 7, none⟩ (.int .i64 m1)).setCell ⟨(w.heap.size + 1 + 1), 8, none⟩ (.int .i64 m2)).setCell ⟨(w.heap.size + 1 + 1), 9, none⟩ (.int .i64 m3)).setCell ⟨(w.heap.size + 1 + 1), 10, none⟩ (.string m4)).setCell ⟨(w.heap.size + 1 + 1), 11, none⟩ (.string m5)).setCell ⟨(w.heap.size + 1 + 1), 12, none⟩ (.int .i64 m6)) (w.heap.size + 1) 75 #[.slice A n c, .int .i64 ((min 6 n : Nat) : Int)] := ((((((hp.far (p := ⟨(w.heap.size + 1 + 1), 7, none⟩) (show (w.heap.size + 1) ≠ (w.heap.size + 1 + 1) by omega) (.int .i64 m1)).far (p := ⟨(w.heap.size + 1 + 1), 8, none⟩) (show (w.heap.size + 1) ≠ (w.heap.size + 1 + 1) by omega) (.int .i64 m2)).far (p := ⟨(w.heap.size + 1 + 1), 9, none⟩) (show (w.heap.size + 1) ≠ (w.heap.size + 1 + 1) by omega) (.int .i64 m3)).far (p := ⟨(w.heap.size + 1 + 1), 10, none⟩) (show (w.heap.size + 1) ≠ (w.heap.size + 1 + 1) by omega) (.string m4)).far (p := ⟨(w.heap.size + 1 + 1), 11, none⟩) (show (w.heap.size + 1) ≠ (w.heap.size + 1 + 1) by omega) (.string m5)).far (p := ⟨(w.heap.size + 1 + 1), 12, none⟩) (show (w.heap.size + 1) ≠ (w.heap.size + 1 + 1) by omega) (.int .i64 m6))
  have hg' : w6.grownBy ((((((w6.setCell ⟨(w.heap.size + 1 + 1), 7, none⟩ (.int .i64 m1)).setCell ⟨(w.heap.size + 1 + 1), 8, none⟩ (.int .i64 m2)).setCell ⟨(w.heap.size + 1 + 1), 9, none⟩ (.int .i64 m3)).setCell ⟨(w.heap.size + 1 + 1), 10, none⟩ (.string m4)).setCell ⟨(w.heap.size + 1 + 1), 11, none⟩ (.string m5)).setCell ⟨(w.heap.size + 1 + 1), 12, none⟩ (.int .i64 m6)) (some (w.heap.size + 1 + 1)) := (gr_set (p := ⟨(w.heap.size + 1 + 1), 12, none⟩) (gr_set (p := ⟨(w.heap.size + 1 + 1), 11, none⟩) (gr_set (p := ⟨(w.heap.size + 1 + 1), 10, none⟩) (gr_set (p := ⟨(w.heap.size + 1 + 1), 9, none⟩) (gr_set (p := ⟨(w.heap.size + 1 + 1), 8, none⟩) (gr_set (p := ⟨(w.heap.size + 1 + 1), 7, none⟩) (gr_refl w6 (some (w.heap.size + 1 + 1))) (.inl rfl) _) (.inl rfl) _) (.inl rfl) _) (.inl rfl) _) (.inl rfl) _) (.inl rfl) _)
  have hr' := hr.grown hg' (fun b hb e => by injection e with e; have := HSS.out b hb; omega)
  have hb' := hbw.trans (gr_below hg' hbw.size (fun b hb => by injection hb with hb; omega))
  generalize (((((w6.setCell ⟨(w.heap.size + 1 + 1), 7, none⟩ (.int .i64 m1)).setCell ⟨(w.heap.size + 1 + 1), 8, none⟩ (.int .i64 m2)).setCell ⟨(w.heap.size + 1 + 1), 9, none⟩ (.int .i64 m3)).setCell ⟨(w.heap.size + 1 + 1), 10, none⟩ (.string m4)).setCell ⟨(w.heap.size + 1 + 1), 11, none⟩ (.string m5)).setCell ⟨(w.heap.size + 1 + 1), 12, none⟩ (.int .i64 m6) = W6 at hq' h0' hp' hg' hr' hb' ⊢
  replace HQ := Lib.hid hq'
  replace H0 := Lib.hid h0'
  replace HP := Lib.hid hp'
  replace HR := Lib.hid hr'
  replace HB := Lib.hid hb'
  clear HC hg hp hq h0 hr hbw hq' h0' hp' hg' hr' hb' z7 c7 z8 c8 z9 c9 z10 c10 z11 c11 z12 c12
  have h1 := partat_any (w.heap.size + 1) A n c (min 6 n) l S W6 HR.out (by omega) HN.out HP.out HSP.out (fun b hb => Nat.lt_of_lt_of_le (HSS.out b hb) HB.out.size)
  rw [getD_min HLE.out] at h1
  have HC := Lib.hid h1
  clear h1
  refine HC.out.mono ?_
  rintro e w7 ⟨D, nd, cd, rfl, hrs, hnew, hg, hp⟩
  rw [up1_min] at hp
  obtain ⟨a, ha⟩ : ∃ a, (attTake (l.getD 6 Cmd.zeroIt)).getD zeroAt = a := ⟨_, rfl⟩
  rw [ha] at hrs ⊢
  obtain ⟨dl, sq, tg⟩ := a
  simp only at hrs ⊢
  have HV6 := Lib.hid ha
  clear ha
  have hq := HQ.out.grown hg (fun e => by injection e with e; omega)
  have h0 := H0.out.grown hg (fun e => by injection e with e; omega)
  have hr := HR.out.grown hg (fun b hb e => by injection e with e; have := HSS.out b hb; omega)
  have hbw := HB.out.trans ((gr_below hg HB.out.size (fun b hb => by injection hb with hb; omega) : Below w.heap.size W6 w7))
  have z13 := hq.soft 13
  have c13 := hq.cell 13
  have z14 := hq.soft 14
  have c14 := hq.cell 14
  have z15 := hq.soft 15
  have c15 := hq.cell 15
  simp at c13 c14 c15
  go_upto_region 11 with fail
  have HQ7 := Lib.hid hq
  have HB7 := Lib.hid hbw
  have H07 := Lib.hid h0
  have HR7 := Lib.hid hrs
  have HN7 := Lib.hid hnew
  have HSZ := Lib.hid hg.size
  have hq7 : Blk (((w7.setCell ⟨(w.heap.size + 1 + 1), 13, none⟩ (.slice D nd cd)).setCell ⟨(w.heap.size + 1 + 1), 14, none⟩ (.int .i64 sq)).setCell ⟨(w.heap.size + 1 + 1), 15, none⟩ (.int .i64 tg)) (w.heap.size + 1 + 1) 32 #[.int .i64 r0, .int .i64 r1, .int .i64 r2, .int .i64 r3, .int .i64 r4, .int .i64 r5, .int .i64 r6, .int .i64 m1, .int .i64 m2, .int .i64 m3, .string m4, .string m5, .int .i64 m6, .slice D nd cd, .int .i64 sq, .int .i64 tg] := by simpa using (((hq.put 13 (.slice D nd cd)).put 14 (.int .i64 sq)).put 15 (.int .i64 tg))
  have h07 : Blk (((w7.setCell ⟨(w.heap.size + 1 + 1), 13, none⟩ (.slice D nd cd)).setCell ⟨(w.heap.size + 1 + 1), 14, none⟩ (.int .i64 sq)).setCell ⟨(w.heap.size + 1 + 1), 15, none⟩ (.int .i64 tg)) w.heap.size 32 #[.int .i64 0, .int .i64 0, .int .i64 0, .int .i64 0, .int .i64 0, .int .i64 0, .int .i64 0, .int .i64 0, .int .i64 0, .int .i64 0, .string ⟨#[]⟩, .string ⟨#[]⟩, .int .i64 0, .slice none 0 0, .int .i64 0, .int .i64 0] := (((h0.far (p := ⟨(w.heap.size + 1 + 1), 13, none⟩) (show w.heap.size ≠ (w.heap.size + 1 + 1) by omega) (.slice D nd cd)).far (p := ⟨(w.heap.size + 1 + 1), 14, none⟩) (show w.heap.size ≠ (w.heap.size + 1 + 1) by omega) (.int .i64 sq)).far (p := ⟨(w.heap.size + 1 + 1), 15, none⟩) (show w.heap.size ≠ (w.heap.size + 1 + 1) by omega) (.int .i64 tg))
  have hg7 : w7.grownBy (((w7.setCell ⟨(w.heap.size + 1 + 1), 13, none⟩ (.slice D nd cd)).setCell ⟨(w.heap.size + 1 + 1), 14, none⟩ (.int .i64 sq)).setCell ⟨(w.heap.size + 1 + 1), 15, none⟩ (.int .i64 tg)) (some (w.heap.size + 1 + 1)) := (gr_set (p := ⟨(w.heap.size + 1 + 1), 15, none⟩) (gr_set (p := ⟨(w.heap.size + 1 + 1), 14, none⟩) (gr_set (p := ⟨(w.heap.size + 1 + 1), 13, none⟩) (gr_refl w7 (some (w.heap.size + 1 + 1))) (.inl rfl) _) (.inl rfl) _) (.inl rfl) _)
  have hgs : w.heap.size + 1 + 1 < W6.heap.size := HQ.out.lt
  have hrs7 := hrs.grown hg7 (fun g o e => by have := hnew g o e; have := HB.out.size; have := hgs; intro e; injection e with e; omega)
  obtain ⟨x0, x1, x2, x3, x4, x5, x6, x7, x8, x9, x10, x11, x12, x13, x14, x15⟩ := blk16 hq7
  obtain ⟨y0, y1, y2, y3, y4, y5, y6, y7, y8, y9, y10, y11, y12, y13, y14, y15⟩ := blk16 h07
  have s0 := h07.soft 0
  have s1 := h07.soft 1
  have s2 := h07.soft 2
  have s3 := h07.soft 3
  have s4 := h07.soft 4
  have s5 := h07.soft 5
  have s6 := h07.soft 6
  have s7 := h07.soft 7
  have s8 := h07.soft 8
  have s9 := h07.soft 9
  have s10 := h07.soft 10
  have s11 := h07.soft 11
  have s12 := h07.soft 12
  have s13 := h07.soft 13
  have s14 := h07.soft 14
  have s15 := h07.soft 15
  obtain ⟨W7, hW7⟩ : ∃ W7, ((w7.setCell ⟨(w.heap.size + 1 + 1), 13, none⟩ (.slice D nd cd)).setCell ⟨(w.heap.size + 1 + 1), 14, none⟩ (.int .i64 sq)).setCell ⟨(w.heap.size + 1 + 1), 15, none⟩ (.int .i64 tg) = W7 := ⟨_, rfl⟩
  rw [hW7] at hq7 h07 hg7 hrs7 x0 y0 s0 x1 y1 s1 x2 y2 s2 x3 y3 s3 x4 y4 s4 x5 y5 s5 x6 y6 s6 x7 y7 s7 x8 y8 s8 x9 y9 s9 x10 y10 s10 x11 y11 s11 x12 y12 s12 x13 y13 s13 x14 y14 s14 x15 y15 s15
  have HG7 := Lib.hid hg7
  have HK7 := Lib.hid h07
  have HRS7 := Lib.hid hrs7
  rw [hW7]
  clear hg hp hq h0 hr hbw z13 c13 z14 c14 z15 c15 hg7 h07 hrs7 hq7 hW7 hrs hnew
  go_wp2_with fail
  obtain ⟨hblk2, hgr⟩ := blk16_set HK7.out (.int .i64 r0) (.int .i64 r1) (.int .i64 r2) (.int .i64 r3) (.int .i64 r4) (.int .i64 r5) (.int .i64 r6) (.int .i64 m1) (.int .i64 m2) (.int .i64 m3) (.string m4) (.string m5) (.int .i64 m6) (.slice D nd cd) (.int .i64 sq) (.int .i64 tg)
  have hrs9 := HRS7.out.grown hgr (fun g o e => by have := HN7.out g o e; have := HB.out.size; have := HSW.out; intro e; injection e with e; omega)
  generalize (((((((((((((((W7.setCell ⟨w.heap.size, 0, none⟩ (.int .i64 r0)).setCell ⟨w.heap.size, 1, none⟩ (.int .i64 r1)).setCell ⟨w.heap.size, 2, none⟩ (.int .i64 r2)).setCell ⟨w.heap.size, 3, none⟩ (.int .i64 r3)).setCell ⟨w.heap.size, 4, none⟩ (.int .i64 r4)).setCell ⟨w.heap.size, 5, none⟩ (.int .i64 r5)).setCell ⟨w.heap.size, 6, none⟩ (.int .i64 r6)).setCell ⟨w.heap.size, 7, none⟩ (.int .i64 m1)).setCell ⟨w.heap.size, 8, none⟩ (.int .i64 m2)).setCell ⟨w.heap.size, 9, none⟩ (.int .i64 m3)).setCell ⟨w.heap.size, 10, none⟩ (.string m4)).setCell ⟨w.heap.size, 11, none⟩ (.string m5)).setCell ⟨w.heap.size, 12, none⟩ (.int .i64 m6)).setCell ⟨w.heap.size, 13, none⟩ (.slice D nd cd)).setCell ⟨w.heap.size, 14, none⟩ (.int .i64 sq)).setCell ⟨w.heap.size, 15, none⟩ (.int .i64 tg) = w9 at hblk2 hgr hrs9 ⊢
  obtain ⟨d0, d1, d2, d3, d4, d5, d6, d7, d8, d9, d10, d11, d12, d13, d14, d15⟩ := blk16 hblk2
  refine bodyPost_ret (v := .agg #[.int .i64 r0, .int .i64 r1, .int .i64 r2, .int .i64 r3, .int .i64 r4, .int .i64 r5, .int .i64 r6, .int .i64 m1, .int .i64 m2, .int .i64 m3, .string m4, .string m5, .int .i64 m6, .slice D nd cd, .int .i64 sq, .int .i64 tg]) (by simp [results, Tryz.results27, go_sem, d0, d1, d2, d3, d4, d5, d6, d7, d8, d9, d10, d11, d12, d13, d14, d15]) rfl ?_
  have hsz := HB.out.size
  have hsz7 := HSZ.out
  have hsz9 := HG7.out.size
  have hbb : Below w.heap.size w w9 := (HB7.out.trans (gr_below HG7.out HB7.out.size (fun b hb => by injection hb with hb; omega))).trans (gr_below hgr (by omega) (fun b hb => by injection hb with hb; omega))
  have hrd : readOf attTake l = ⟨(r0, r1), r2, (r3, r4), (r5, r6), ⟨m1, m2, m3, m4, m5, m6⟩, ⟨dl, sq, tg⟩⟩ := by
    rw [readOf, HV0.out, HV1.out, HV2.out, ← HV3.out, ← HV4.out, ← HV5.out, HV6.out]
  rw [hrd]
  exact ⟨D, nd, cd, rfl, hrs9, fun g o e => by have := HN7.out g o e; omega, hbb⟩

set_option maxRecDepth 100000 in
set_option maxHeartbeats 8000000 in
theorem readold_any (A : Option Addr) (n c : Nat) (l : List It) (S : Nat → Prop) (w : World) (hr : Cod.Row w S A n c l) (hn : n ≤ 1000000000) (hS : ∀ b, S b → b < w.heap.size) :
    Calls Tryz.prog 27 #[.slice A n c, .func (.func 37) #[] #[]] w (ReadsAt w (readOf oldTake l)) := by
  have hlen : l.length = n := hr.1
  obtain ⟨W, hW⟩ : ∃ W, ((w.alloc (.cells #[.int .i64 0, .int .i64 0, .int .i64 0, .int .i64 0, .int .i64 0, .int .i64 0, .int .i64 0, .int .i64 0, .int .i64 0, .int .i64 0, .string ⟨#[]⟩, .string ⟨#[]⟩, .int .i64 0, .slice none 0 0, .int .i64 0, .int .i64 0] 32)).alloc (.cells #[.slice A n c, .int .i64 0] 75)).alloc (.cells #[.int .i64 0, .int .i64 0, .int .i64 0, .int .i64 0, .int .i64 0, .int .i64 0, .int .i64 0, .int .i64 0, .int .i64 0, .int .i64 0, .string ⟨#[]⟩, .string ⟨#[]⟩, .int .i64 0, .slice none 0 0, .int .i64 0, .int .i64 0] 32) = W := ⟨_, rfl⟩
  obtain ⟨k1, k2, k3, kb, hsW⟩ := three_kinds w _ _ _ _ _ _ W hW
  have H0 := Lib.hid k1
  have HP := Lib.hid (show Blk W (w.heap.size + 1) 75 #[.slice A n c, .int .i64 ((min 0 n : Nat) : Int)] by simpa using k2)
  have HQ := Lib.hid (show Blk W (w.heap.size + 1 + 1) 32 #[.int .i64 0, .int .i64 0, .int .i64 0, .int .i64 0, .int .i64 0, .int .i64 0, .int .i64 0, .int .i64 0, .int .i64 0, .int .i64 0, .string ⟨#[]⟩, .string ⟨#[]⟩, .int .i64 0, .slice none 0 0, .int .i64 0, .int .i64 0] from k3)
  have HB := Lib.hid kb
  have HW := Lib.hid hW
  have HSW := Lib.hid hsW
  have HR := Lib.hid (hr.below kb hS)
  have HSS := Lib.hid hS
  have HSP := Lib.hid (show ¬ S (w.heap.size + 1) from fun h => by have := hS _ h; omega)
  have HLE := Lib.hid hlen
  have HN := Lib.hid hn
  clear k1 k2 k3 kb hW hr hlen hn hsW hS
  go_enter Tryz.func27, Tryz.ntmps27
  go_wp2_with fail
  rw [HW.out]
  have h1 := partint_any (w.heap.size + 1) A n c (min 0 n) l S W HR.out (by omega) HN.out HP.out HSP.out (fun b hb => Nat.lt_of_lt_of_le (HSS.out b hb) HB.out.size)
  rw [getD_min HLE.out, up1_min] at h1
  obtain ⟨r0, hr0⟩ : ∃ v, Cmd.w64 (l.getD 0 Cmd.zeroIt).num = v := ⟨_, rfl⟩
  rw [hr0] at h1
  have HV0 := Lib.hid hr0
  have HC := Lib.hid h1
  clear h1 hr0
  refine HC.out.mono ?_
  rintro e w1 ⟨rfl, hg, hp⟩
  have hq := HQ.out.grown hg (fun e => by injection e with e; omega)
  have h0 := H0.out.grown hg (fun e => by injection e with e; omega)
  have hr := HR.out.grown hg (fun b hb e => by injection e with e; have := HSS.out b hb; omega)
  have hbw := HB.out.trans ((gr_below hg HB.out.size (fun b hb => by injection hb with hb; omega) : Below w.heap.size W w1))
  have z0 := hq.soft 0
  have c0 := hq.cell 0
  simp at c0
  go_wp2_with fail
  have hq' : Blk (w1.setCell ⟨(w.heap.size + 1 + 1), 0, none⟩ (.int .i64 r0)) (w.heap.size + 1 + 1) 32 #[.int .i64 r0, .int .i64 0, .int .i64 0, .int .i64 0, .int .i64 0, .int .i64 0, .int .i64 0, .int .i64 0, .int .i64 0, .int .i64 0, .string ⟨#[]⟩, .string ⟨#[]⟩, .int .i64 0, .slice none 0 0, .int .i64 0, .int .i64 0] := by simpa using (hq.put 0 (.int .i64 r0))
  have h0' : Blk (w1.setCell ⟨(w.heap.size + 1 + 1), 0, none⟩ (.int .i64 r0)) w.heap.size 32 #[.int .i64 0, .int .i64 0, .int .i64 0, .int .i64 0, .int .i64 0, .int .i64 0, .int .i64 0, .int .i64 0, .int .i64 0, .int .i64 0, .string ⟨#[]⟩, .string ⟨#[]⟩, .int .i64 0, .slice none 0 0, .int .i64 0, .int .i64 0] := (h0.far (p := ⟨(w.heap.size + 1 + 1), 0, none⟩) (show w.heap.size ≠ (w.heap.size + 1 + 1) by omega) (.int .i64 r0))
  have hp' : Blk (w1.setCell ⟨(w.heap.size + 1 + 1), 0, none⟩ (.int .i64 r0)) (w.heap.size + 1) 75 #[.slice A n c, .int .i64 ((min 1 n : Nat) : Int)] := (hp.far (p := ⟨(w.heap.size + 1 + 1), 0, none⟩) (show (w.heap.size + 1) ≠ (w.heap.size + 1 + 1) by omega) (.int .i64 r0))
  have hg' : w1.grownBy (w1.setCell ⟨(w.heap.size + 1 + 1), 0, none⟩ (.int .i64 r0)) (some (w.heap.size + 1 + 1)) := (gr_set (p := ⟨(w.heap.size + 1 + 1), 0, none⟩) (gr_refl w1 (some (w.heap.size + 1 + 1))) (.inl rfl) _)
  have hr' := hr.grown hg' (fun b hb e => by injection e with e; have := HSS.out b hb; omega)
  have hb' := hbw.trans (gr_below hg' hbw.size (fun b hb => by injection hb with hb; omega))
  generalize w1.setCell ⟨(w.heap.size + 1 + 1), 0, none⟩ (.int .i64 r0) = W1 at hq' h0' hp' hg' hr' hb' ⊢
  replace HQ := Lib.hid hq'
  replace H0 := Lib.hid h0'
  replace HP := Lib.hid hp'
  replace HR := Lib.hid hr'
  replace HB := Lib.hid hb'
  clear HC hg hp hq h0 hr hbw hq' h0' hp' hg' hr' hb' z0 c0
  have h1 := partint_any (w.heap.size + 1) A n c (min 1 n) l S W1 HR.out (by omega) HN.out HP.out HSP.out (fun b hb => Nat.lt_of_lt_of_le (HSS.out b hb) HB.out.size)
  rw [getD_min HLE.out, up1_min] at h1
  obtain ⟨r1, hr1⟩ : ∃ v, Cmd.w64 (l.getD 1 Cmd.zeroIt).num = v := ⟨_, rfl⟩
  rw [hr1] at h1
  have HV1 := Lib.hid hr1
  have HC := Lib.hid h1
  clear h1 hr1
  refine HC.out.mono ?_
  rintro e w2 ⟨rfl, hg, hp⟩
  have hq := HQ.out.grown hg (fun e => by injection e with e; omega)
  have h0 := H0.out.grown hg (fun e => by injection e with e; omega)
  have hr := HR.out.grown hg (fun b hb e => by injection e with e; have := HSS.out b hb; omega)
  have hbw := HB.out.trans ((gr_below hg HB.out.size (fun b hb => by injection hb with hb; omega) : Below w.heap.size W1 w2))
  have z1 := hq.soft 1
  have c1 := hq.cell 1
  simp at c1
  go_wp2_with fail
  have hq' : Blk (w2.setCell ⟨(w.heap.size + 1 + 1), 1, none⟩ (.int .i64 r1)) (w.heap.size + 1 + 1) 32 #[.int .i64 r0, .int .i64 r1, .int .i64 0, .int .i64 0, .int .i64 0, .int .i64 0, .int .i64 0, .int .i64 0, .int .i64 0, .int .i64 0, .string ⟨#[]⟩, .string ⟨#[]⟩, .int .i64 0, .slice none 0 0, .int .i64 0, .int .i64 0] := by simpa using (hq.put 1 (.int .i64 r1))
  have h0' : Blk (w2.setCell ⟨(w.heap.size + 1 + 1), 1, none⟩ (.int .i64 r1)) w.heap.size 32 #[.int .i64 0, .int .i64 0, .int .i64 0, .int .i64 0, .int .i64 0, .int .i64 0, .int .i64 0, .int .i64 0, .int .i64 0, .int .i64 0, .string ⟨#[]⟩, .string ⟨#[]⟩, .int .i64 0, .slice none 0 0, .int .i64 0, .int .i64 0] := (h0.far (p := ⟨(w.heap.size + 1 + 1), 1, none⟩) (show w.heap.size ≠ (w.heap.size + 1 + 1) by omega) (.int .i64 r1))
  have hp' : Blk (w2.setCell ⟨(w.heap.size + 1 + 1), 1, none⟩ (.int .i64 r1)) (w.heap.size + 1) 75 #[.slice A n c, .int .i64 ((min 2 n : Nat) : Int)] := (hp.far (p := ⟨(w.heap.size + 1 + 1), 1, none⟩) (show (w.heap.size + 1) ≠ (w.heap.size + 1 + 1) by omega) (.int .i64 r1))
  have hg' : w2.grownBy (w2.setCell ⟨(w.heap.size + 1 + 1), 1, none⟩ (.int .i64 r1)) (some (w.heap.size + 1 + 1)) := (gr_set (p := ⟨(w.heap.size + 1 + 1), 1, none⟩) (gr_refl w2 (some (w.heap.size + 1 + 1))) (.inl rfl) _)
  have hr' := hr.grown hg' (fun b hb e => by injection e with e; have := HSS.out b hb; omega)
  have hb' := hbw.trans (gr_below hg' hbw.size (fun b hb => by injection hb with hb; omega))
  generalize w2.setCell ⟨(w.heap.size + 1 + 1), 1, none⟩ (.int .i64 r1) = W2 at hq' h0' hp' hg' hr' hb' ⊢
  replace HQ := Lib.hid hq'
  replace H0 := Lib.hid h0'
  replace HP := Lib.hid hp'
  replace HR := Lib.hid hr'
  replace HB := Lib.hid hb'
  clear HC hg hp hq h0 hr hbw hq' h0' hp' hg' hr' hb' z1 c1
  have h1 := partint_any (w.heap.size + 1) A n c (min 2 n) l S W2 HR.out (by omega) HN.out HP.out HSP.out (fun b hb => Nat.lt_of_lt_of_le (HSS.out b hb) HB.out.size)
  rw [getD_min HLE.out, up1_min] at h1
  obtain ⟨r2, hr2⟩ : ∃ v, Cmd.w64 (l.getD 2 Cmd.zeroIt).num = v := ⟨_, rfl⟩
  rw [hr2] at h1
  have HV2 := Lib.hid hr2
  have HC := Lib.hid h1
  clear h1 hr2
  refine HC.out.mono ?_
  rintro e w3 ⟨rfl, hg, hp⟩
  have hq := HQ.out.grown hg (fun e => by injection e with e; omega)
  have h0 := H0.out.grown hg (fun e => by injection e with e; omega)
  have hr := HR.out.grown hg (fun b hb e => by injection e with e; have := HSS.out b hb; omega)
  have hbw := HB.out.trans ((gr_below hg HB.out.size (fun b hb => by injection hb with hb; omega) : Below w.heap.size W2 w3))
  have z2 := hq.soft 2
  have c2 := hq.cell 2
  simp at c2
  go_wp2_with fail
  have hq' : Blk (w3.setCell ⟨(w.heap.size + 1 + 1), 2, none⟩ (.int .i64 r2)) (w.heap.size + 1 + 1) 32 #[.int .i64 r0, .int .i64 r1, .int .i64 r2, .int .i64 0, .int .i64 0, .int .i64 0, .int .i64 0, .int .i64 0, .int .i64 0, .int .i64 0, .string ⟨#[]⟩, .string ⟨#[]⟩, .int .i64 0, .slice none 0 0, .int .i64 0, .int .i64 0] := by simpa using (hq.put 2 (.int .i64 r2))
  have h0' : Blk (w3.setCell ⟨(w.heap.size + 1 + 1), 2, none⟩ (.int .i64 r2)) w.heap.size 32 #[.int .i64 0, .int .i64 0, .int .i64 0, .int .i64 0, .int .i64 0, .int .i64 0, .int .i64 0, .int .i64 0, .int .i64 0, .int .i64 0, .string ⟨#[]⟩, .string ⟨#[]⟩, .int .i64 0, .slice none 0 0, .int .i64 0, .int .i64 0] := (h0.far (p := ⟨(w.heap.size + 1 + 1), 2, none⟩) (show w.heap.size ≠ (w.heap.size + 1 + 1) by omega) (.int .i64 r2))
  have hp' : Blk (w3.setCell ⟨(w.heap.size + 1 + 1), 2, none⟩ (.int .i64 r2)) (w.heap.size + 1) 75 #[.slice A n c, .int .i64 ((min 3 n : Nat) : Int)] := (hp.far (p := ⟨(w.heap.size + 1 + 1), 2, none⟩) (show (w.heap.size + 1) ≠ (w.heap.size + 1 + 1) by omega) (.int .i64 r2))
  have hg' : w3.grownBy (w3.setCell ⟨(w.heap.size + 1 + 1), 2, none⟩ (.int .i64 r2)) (some (w.heap.size + 1 + 1)) := (gr_set (p := ⟨(w.heap.size + 1 + 1), 2, none⟩) (gr_refl w3 (some (w.heap.size + 1 + 1))) (.inl rfl) _)
  have hr' := hr.grown hg' (fun b hb e => by injection e with e; have := HSS.out b hb; omega)
  have hb' := hbw.trans (gr_below hg' hbw.size (fun b hb => by injection hb with hb; omega))
  generalize w3.setCell ⟨(w.heap.size + 1 + 1), 2, none⟩ (.int .i64 r2) = W3 at hq' h0' hp' hg' hr' hb' ⊢
  replace HQ := Lib.hid hq'
  replace H0 := Lib.hid h0'
  replace HP := Lib.hid hp'
  replace HR := Lib.hid hr'
  replace HB := Lib.hid hb'
  clear HC hg hp hq h0 hr hbw hq' h0' hp' hg' hr' hb' z2 c2
  have h1 := partbal_any (w.heap.size + 1) A n c (min 3 n) l S W3 HR.out (by omega) HN.out HP.out HSP.out (fun b hb => Nat.lt_of_lt_of_le (HSS.out b hb) HB.out.size)
  rw [getD_min HLE.out] at h1
  have HC := Lib.hid h1
  clear h1
  refine HC.out.mono ?_
  rintro e w4 ⟨⟨r3, r4⟩, rfl, hb, hg, hp⟩
  rw [up1_min] at hp
  have HV3 := Lib.hid hb
  simp only
  clear hb
  have hq := HQ.out.grown hg (fun e => by injection e with e; omega)
  have h0 := H0.out.grown hg (fun e => by injection e with e; omega)
  have hr := HR.out.grown hg (fun b hb e => by injection e with e; have := HSS.out b hb; omega)
  have hbw := HB.out.trans ((gr_below hg HB.out.size (fun b hb => by injection hb with hb; omega) : Below w.heap.size W3 w4))
  have z3 := hq.soft 3
  have c3 := hq.cell 3
  have z4 := hq.soft 4
  have c4 := hq.cell 4
  simp at c3 c4
  go_wp2_with fail
  have hq' : Blk ((w4.setCell ⟨(w.heap.size + 1 + 1), 3, none⟩ (.int .i64 r3)).setCell ⟨(w.heap.size + 1 + 1), 4, none⟩ (.int .i64 r4)) (w.heap.size + 1 + 1) 32 #[.int .i64 r0, .int .i64 r1, .int .i64 r2, .int .i64 r3, .int .i64 r4, .int .i64 0, .int .i64 0, .int .i64 0, .int .i64 0, .int .i64 0, .string ⟨#[]⟩, .string ⟨#[]⟩, .int .i64 0, .slice none 0 0, .int .i64 0, .int .i64 0] := by simpa using ((hq.put 3 (.int .i64 r3)).put 4 (.int .i64 r4))
  have h0' : Blk ((w4.setCell ⟨(w.heap.size + 1 + 1), 3, none⟩ (.int .i64 r3)).setCell ⟨(w.heap.size + 1 + 1), 4, none⟩ (.int .i64 r4)) w.heap.size 32 #[.int .i64 0, .int .i64 0, .int .i64 0, .int .i64 0, .int .i64 0, .int .i64 0, .int .i64 0, .int .i64 0, .int .i64 0, .int .i64 0, .string ⟨#[]⟩, .string ⟨#[]⟩, .int .i64 0, .slice none 0 0, .int .i64 0, .int .i64 0] := ((h0.far (p := ⟨(w.heap.size + 1 + 1), 3, none⟩) (show w.heap.size ≠ (w.heap.size + 1 + 1) by omega) (.int .i64 r3)).far (p := ⟨(w.heap.size + 1 + 1), 4, none⟩) (show w.heap.size ≠ (w.heap.size + 1 + 1) by omega) (.int .i64 r4))
  have hp' : Blk ((w4.setCell ⟨(w.heap.size + 1 + 1), 3, none⟩ (.int .i64 r3)).setCell ⟨(w.heap.size + 1 + 1), 4, none⟩ (.int .i64 r4)) (w.heap.size + 1) 75 #[.slice A n c, .int .i64 ((min 4 n : Nat) : Int)] := ((hp.far (p := ⟨(w.heap.size + 1 + 1), 3, none⟩) (show (w.heap.size + 1) ≠ (w.heap.size + 1 + 1) by omega) (.int .i64 r3)).far (p := ⟨(w.heap.size + 1 + 1), 4, none⟩) (show (w.heap.size + 1) ≠ (w.heap.size + 1 + 1) by omega) (.int .i64 r4))
  have hg' : w4.grownBy ((w4.setCell ⟨(w.heap.size + 1 + 1), 3, none⟩ (.int .i64 r3)).setCell ⟨(w.heap.size + 1 + 1), 4, none⟩ (.int .i64 r4)) (some (w.heap.size + 1 + 1)) := (gr_set (p := ⟨(w.heap.size + 1 + 1), 4, none⟩) (gr_set (p := ⟨(w.heap.size + 1 + 1), 3, none⟩) (gr_refl w4 (some (w.heap.size + 1 + 1))) (.inl rfl) _) (.inl rfl) _)
  have hr' := hr.grown hg' (fun b hb e => by injection e with e; have := HSS.out b hb; omega)
  have hb' := hbw.trans (gr_below hg' hbw.size (fun b hb => by injection hb with hb; omega))
  generalize (w4.setCell ⟨(w.heap.size + 1 + 1), 3, none⟩ (.int .i64 r3)).setCell ⟨(w.heap.size + 1 + 1), 4, none⟩ (.int .i64 r4) = W4 at hq' h0' hp' hg' hr' hb' ⊢
  replace HQ := Lib.hid hq'
  replace H0 := Lib.hid h0'
  replace HP := Lib.hid hp'
  replace HR := Lib.hid hr'
  replace HB := Lib.hid hb'
  clear HC hg hp hq h0 hr hbw hq' h0' hp' hg' hr' hb' z3 c3 z4 c4
  have h1 := partbal_any (w.heap.size + 1) A n c (min 4 n) l S W4 HR.out (by omega) HN.out HP.out HSP.out (fun b hb => Nat.lt_of_lt_of_le (HSS.out b hb) HB.out.size)
  rw [getD_min HLE.out] at h1
  have HC := Lib.hid h1
  clear h1
  refine HC.out.mono ?_
  rintro e w5 ⟨⟨r5, r6⟩, rfl, hb, hg, hp⟩
  rw [up1_min] at hp
  have HV4 := Lib.hid hb
  simp only
  clear hb
  have hq := HQ.out.grown hg (fun e => by injection e with e; omega)
  have h0 := H0.out.grown hg (fun e => by injection e with e; omega)
  have hr := HR.out.grown hg (fun b hb e => by injection e with e; have := HSS.out b hb; omega)
  have hbw := HB.out.trans ((gr_below hg HB.out.size (fun b hb => by injection hb with hb; omega) : Below w.heap.size W4 w5))
  have z5 := hq.soft 5
  have c5 := hq.cell 5
  have z6 := hq.soft 6
  have c6 := hq.cell 6
  simp at c5 c6
  go_wp2_with fail
  have hq' : Blk ((w5.setCell ⟨(w.heap.size + 1 + 1), 5, none⟩ (.int .i64 r5)).setCell ⟨(w.heap.size + 1 + 1), 6, none⟩ (.int .i64 r6)) (w.heap.size + 1 + 1) 32 #[.int .i64 r0, .int .i64 r1, .int .i64 r2, .int .i64 r3, .int .i64 r4, .int .i64 r5, .int .i64 r6, .int .i64 0, .int .i64 0, .int .i64 0, .string ⟨#[]⟩, .string ⟨#[]⟩, .int .i64 0, .slice none 0 0, .int .i64 0, .int .i64 0] := by simpa using ((hq.put 5 (.int .i64 r5)).put 6 (.int .i64 r6))
  have h0' : Blk ((w5.setCell ⟨(w.heap.size + 1 + 1), 5, none⟩ (.int .i64 r5)).setCell ⟨(w.heap.size + 1 + 1), 6, none⟩ (.int .i64 r6)) w.heap.size 32 #[.int .i64 0, .int .i64 0, .int .i64 0, .int .i64 0, .int .i64 0, .int .i64 0, .int .i64 0, .int .i64 0, .int .i64 0, .int .i64 0, .string ⟨#[]⟩, .string ⟨#[]⟩, .int .i64 0, .slice none 0 0, .int .i64 0, .int .i64 0] := ((h0.far (p := ⟨(w.heap.size + 1 + 1), 5, none⟩) (show w.heap.size ≠ (w.heap.size + 1 + 1) by omega) (.int .i64 r5)).far (p := ⟨(w.heap.size + 1 + 1), 6, none⟩) (show w.heap.size ≠ (w.heap.size + 1 + 1) by omega) (.int .i64 r6))
  have hp' : Blk ((w5.setCell ⟨(w.heap.size + 1 + 1), 5, none⟩ (.int .i64 r5)).setCell ⟨(w.heap.size + 1 + 1), 6, none⟩ (.int .i64 r6)) (w.heap.size + 1) 75 #[.slice A n c, .int .i64 ((min 5 n : Nat) : Int)] := ((hp.far (p := ⟨(w.heap.size + 1 + 1), 5, none⟩) (show (w.heap.size + 1) ≠ (w.heap.size + 1 + 1) by omega) (.int .i64 r5)).far (p := ⟨(w.heap.size + 1 + 1), 6, none⟩) (show (w.heap.size + 1) ≠ (w.heap.size + 1 + 1) by omega) (.int .i64 r6))
  have hg' : w5.grownBy ((w5.setCell ⟨(w.heap.size + 1 + 1), 5, none⟩ (.int .i64 r5)).setCell ⟨(w.heap.size + 1 + 1), 6, none⟩ (.int .i64 r6)) (some (w.heap.size + 1 + 1)) := (gr_set (p := ⟨(w.heap.size + 1 + 1), 6, none⟩) (gr_set (p := ⟨(w.heap.size + 1 + 1), 5, none⟩) (gr_refl w5 (some (w.heap.size + 1 + 1))) (.inl rfl) _) (.inl rfl) _)
  have hr' := hr.grown hg' (fun b hb e => by injection e with e; have := HSS.out b hb; omega)
  have hb' := hbw.trans (gr_below hg' hbw.size (fun b hb => by injection hb with hb; omega))
  generalize (w5.setCell ⟨(w.heap.size + 1 + 1), 5, none⟩ (.int .i64 r5)).setCell ⟨(w.heap.size + 1 + 1), 6, none⟩ (.int .i64 r6) = W5 at hq' h0' hp' hg' hr' hb' ⊢
  replace HQ := Lib.hid hq'
  replace H0 := Lib.hid h0'
  replace HP := Lib.hid hp'
  replace HR := Lib.hid hr'
  replace HB := Lib.hid hb'
  clear HC hg hp hq h0 hr hbw hq' h0' hp' hg' hr' hb' z5 c5 z6 c6
  have h1 := partcm_any (w.heap.size + 1) A n c (min 5 n) l S W5 HR.out (by omega) HN.out HP.out HSP.out (fun b hb => Nat.lt_of_lt_of_le (HSS.out b hb) HB.out.size)
  rw [getD_min HLE.out] at h1
  have HC := Lib.hid h1
  clear h1
  refine HC.out.mono ?_
  rintro e w6 ⟨⟨m1, m2, m3, m4, m5, m6⟩, rfl, hb, hg, hp⟩
  rw [up1_min] at hp
  have HV5 := Lib.hid hb
  simp only
  clear hb
  have hq := HQ.out.grown hg (fun e => by injection e with e; omega)
  have h0 := H0.out.grown hg (fun e => by injection e with e; omega)
  have hr := HR.out.grown hg (fun b hb e => by injection e with e; have := HSS.out b hb; omega)
  have hbw := HB.out.trans ((gr_below hg HB.out.size (fun b hb => by injection hb with hb; omega) : Below w.heap.size W5 w6))
  have z7 := hq.soft 7
  have c7 := hq.cell 7
  have z8 := hq.soft 8
  have c8 := hq.cell 8
  have z9 := hq.soft 9
  have c9 := hq.cell 9
  have z10 := hq.soft 10
  have c10 := hq.cell 10
  have z11 := hq.soft 11
  have c11 := hq.cell 11
  have z12 := hq.soft 12
  have c12 := hq.cell 12
  simp at c7 c8 c9 c10 c11 c12
  go_wp2_with fail
  have hq' : Blk ((((((w6.setCell ⟨(w.heap.size + 1 + 1), 7, none⟩ (.int .i64 m1)).setCell ⟨(w.heap.size + 1 + 1), 8, none⟩ (.int .i64 m2)).setCell ⟨(w.heap.size + 1 + 1), 9, none⟩ (.int .i64 m3)).setCell ⟨(w.heap.size + 1 + 1), 10, none⟩ (.string m4)).setCell ⟨(w.heap.size + 1 + 1), 11, none⟩ (.string m5)).setCell ⟨(w.heap.size + 1 + 1), 12, none⟩ (.int .i64 m6)) (w.heap.size + 1 + 1) 32 #[.int .i64 r0, .int .i64 r1, .int .i64 r2, .int .i64 r3, .int .i64 r4, .int .i64 r5, .int .i64 r6, .int .i64 m1, .int .i64 m2, .int .i64 m3, .string m4, .string m5, .int .i64 m6, .slice none 0 0, .int .i64 0, .int .i64 0] := by simpa using ((((((hq.put 7 (.int .i64 m1)).put 8 (.int .i64 m2)).put 9 (.int .i64 m3)).put 10 (.string m4)).put 11 (.string m5)).put 12 (.int .i64 m6))
  have h0' : Blk ((((((w6.setCell ⟨(w.heap.size + 1 + 1), 7, none⟩ (.int .i64 m1)).setCell ⟨(w.heap.size + 1 + 1), 8, none⟩ (.int .i64 m2)).setCell ⟨(w.heap.size + 1 + 1), 9, none⟩ (.int .i64 m3)).setCell ⟨(w.heap.size + 1 + 1), 10, none⟩ (.string m4)).setCell ⟨(w.heap.size + 1 + 1), 11, none⟩ (.string m5)).setCell ⟨(w.heap.size + 1 + 1), 12, none⟩ (.int .i64 m6)) w.heap.size 32 #[.int .i64 0, .int .i64 0, .int .i64 0, .int .i64 0, .int .i64 0, .int .i64 0, .int .i64 0, .int .i64 0, .int .i64 0, .int .i64 0, .string ⟨#[]⟩, .string ⟨#[]⟩, .int .i64 0, .slice none 0 0, .int .i64 0, .int .i64 0] := ((((((h0.far (p := ⟨(w.heap.size + 1 + 1), 7, none⟩) (show w.heap.size ≠ (w.heap.size + 1 + 1) by omega) (.int .i64 m1)).far (p := ⟨(w.heap.size + 1 + 1), 8, none⟩) (show w.heap.size ≠ (w.heap.size + 1 + 1) by omega) (.int .i64 m2)).far (p := ⟨(w.heap.size + 1 + 1), 9, none⟩) (show w.heap.size ≠ (w.heap.size + 1 + 1) by omega) (.int .i64 m3)).far (p := ⟨(w.heap.size + 1 + 1), 10, none⟩) (show w.heap.size ≠ (w.heap.size + 1 + 1) by omega) (.string m4)).far (p := ⟨(w.heap.size + 1 + 1), 11, none⟩) (show w.heap.size ≠ (w.heap.size + 1 + 1) by omega) (.string m5)).far (p := ⟨(w.heap.size + 1 + 1), 12, none⟩) (show w.heap.size ≠ (w.heap.size + 1 + 1) by omega) (.int .i64 m6))
  have hp' : Blk ((((((w6.setCell ⟨(w.heap.size + 1 + 1), 7, none⟩ (.int .i64 m1)).setCell ⟨(w.heap.size + 1 + 1), 8, none⟩ (.int .i64 m2)).setCell ⟨(w.heap.size + 1 + 1), 9, none⟩ (.int .i64 m3)).setCell ⟨(w.heap.size + 1 + 1), 10, none⟩ (.string m4)).setCell ⟨(w.heap.size + 1 + 1), 11, none⟩ (.string m5)).setCell ⟨(w.heap.size + 1 + 1), 12, none⟩ (.int .i64 m6)) (w.heap.size + 1) 75 #[.slice A n c, .int .i64 ((min 6 n : Nat) : Int)] := ((((((hp.far (p := ⟨(w.heap.size + 1 + 1), 7, none⟩) (show (w.heap.size + 1) ≠ (w.heap.size + 1 + 1) by omega) (.int .i64 m1)).far (p := ⟨(w.heap.size + 1 + 1), 8, none⟩) (show (w.heap.size + 1) ≠ (w.heap.size + 1 + 1) by omega) (.int .i64 m2)).far (p := ⟨(w.heap.size + 1 + 1), 9, none⟩) (show (w.heap.size + 1) ≠ (w.heap.size + 1 + 1) by omega) (.int .i64 m3)).far (p := ⟨(w.heap.size + 1 + 1), 10, none⟩) (show (w.heap.size + 1) ≠ (w.heap.size + 1 + 1) by omega) (.string m4)).far (p := ⟨(w.heap.size + 1 + 1), 11, none⟩) (show (w.heap.size + 1) ≠ (w.heap.size + 1 + 1) by omega) (.string m5)).far (p := ⟨(w.heap.size + 1 + 1), 12, none⟩) (show (w.heap.size + 1) ≠ (w.heap.size + 1 + 1) by omega) (.int .i64 m6))
  have hg' : w6.grownBy ((((((w6.setCell ⟨(w.heap.size + 1 + 1), 7, none⟩ (.int .i64 m1)).setCell ⟨(w.heap.size + 1 + 1), 8, none⟩ (.int .i64 m2)).setCell ⟨(w.heap.size + 1 + 1), 9, none⟩ (.int .i64 m3)).setCell ⟨(w.heap.size + 1 + 1), 10, none⟩ (.string m4)).setCell ⟨(w.heap.size + 1 + 1), 11, none⟩ (.string m5)).setCell ⟨(w.heap.size + 1 + 1), 12, none⟩ (.int .i64 m6)) (some (w.heap.size + 1 + 1)) := (gr_set (p := ⟨(w.heap.size + 1 + 1), 12, none⟩) (gr_set (p := ⟨(w.heap.size + 1 + 1), 11, none⟩) (gr_set (p := ⟨(w.heap.size + 1 + 1), 10, none⟩) (gr_set (p := ⟨(w.heap.size + 1 + 1), 9, none⟩) (gr_set (p := ⟨(w.heap.size + 1 + 1), 8, none⟩) (gr_set (p := ⟨(w.heap.size + 1 + 1), 7, none⟩) (gr_refl w6 (some (w.heap.size + 1 + 1))) (.inl rfl) _) (.inl rfl) _) (.inl rfl) _) (.inl rfl) _) (.inl rfl) _) (.inl rfl) _)
  have hr' := hr.grown hg' (fun b hb e => by injection e with e; have := HSS.out b hb; omega)
  have hb' := hbw.trans (gr_below hg' hbw.size (fun b hb => by injection hb with hb; omega))
  generalize (((((w6.setCell ⟨(w.heap.size + 1 + 1), 7, none⟩ (.int .i64 m1)).setCell ⟨(w.heap.size + 1 + 1), 8, none⟩ (.int .i64 m2)).setCell ⟨(w.heap.size + 1 + 1), 9, none⟩ (.int .i64 m3)).setCell ⟨(w.heap.size + 1 + 1), 10, none⟩ (.string m4)).setCell ⟨(w.heap.size + 1 + 1), 11, none⟩ (.string m5)).setCell ⟨(w.heap.size + 1 + 1), 12, none⟩ (.int .i64 m6) = W6 at hq' h0' hp' hg' hr' hb' ⊢
  replace HQ := Lib.hid hq'
  replace H0 := Lib.hid h0'
  replace HP := Lib.hid hp'
  replace HR := Lib.hid hr'
  replace HB := Lib.hid hb'
  clear HC hg hp hq h0 hr hbw hq' h0' hp' hg' hr' hb' z7 c7 z8 c8 z9 c9 z10 c10 z11 c11 z12 c12
  have h1 := partold_any (w.heap.size + 1) A n c (min 6 n) l S W6 HR.out (by omega) HN.out HP.out HSP.out (fun b hb => Nat.lt_of_lt_of_le (HSS.out b hb) HB.out.size)
  rw [getD_min HLE.out] at h1
  have HC := Lib.hid h1
  clear h1
  refine HC.out.mono ?_
  rintro e w7 ⟨D, nd, cd, rfl, hrs, hnew, hg, hp⟩
  rw [up1_min] at hp
  obtain ⟨a, ha⟩ : ∃ a, (oldTake (l.getD 6 Cmd.zeroIt)).getD zeroAt = a := ⟨_, rfl⟩
  rw [ha] at hrs ⊢
  obtain ⟨dl, sq, tg⟩ := a
  simp only at hrs ⊢
  have HV6 := Lib.hid ha
  clear ha
  have hq := HQ.out.grown hg (fun e => by injection e with e; omega)
  have h0 := H0.out.grown hg (fun e => by injection e with e; omega)
  have hr := HR.out.grown hg (fun b hb e => by injection e with e; have := HSS.out b hb; omega)
  have hbw := HB.out.trans ((gr_below hg HB.out.size (fun b hb => by injection hb with hb; omega) : Below w.heap.size W6 w7))
  have z13 := hq.soft 13
  have c13 := hq.cell 13
  have z14 := hq.soft 14
  have c14 := hq.cell 14
  have z15 := hq.soft 15
  have c15 := hq.cell 15
  simp at c13 c14 c15
  go_upto_region 11 with fail
  have HQ7 := Lib.hid hq
  have HB7 := Lib.hid hbw
  have H07 := Lib.hid h0
  have HR7 := Lib.hid hrs
  have HN7 := Lib.hid hnew
  have HSZ := Lib.hid hg.size
  have hq7 : Blk (((w7.setCell ⟨(w.heap.size + 1 + 1), 13, none⟩ (.slice D nd cd)).setCell ⟨(w.heap.size + 1 + 1), 14, none⟩ (.int .i64 sq)).setCell ⟨(w.heap.size + 1 + 1), 15, none⟩ (.int .i64 tg)) (w.heap.size + 1 + 1) 32 #[.int .i64 r0, .int .i64 r1, .int .i64 r2, .int .i64 r3, .int .i64 r4, .int .i64 r5, .int .i64 r6, .int .i64 m1, .int .i64 m2, .int .i64 m3, .string m4, .string m5, .int .i64 m6, .slice D nd cd, .int .i64 sq, .int .i64 tg] := by simpa using (((hq.put 13 (.slice D nd cd)).put 14 (.int .i64 sq)).put 15 (.int .i64 tg))
  have h07 : Blk (((w7.setCell ⟨(w.heap.size + 1 + 1), 13, none⟩ (.slice D nd cd)).setCell ⟨(w.heap.size + 1 + 1), 14, none⟩ (.int .i64 sq)).setCell ⟨(w.heap.size + 1 + 1), 15, none⟩ (.int .i64 tg)) w.heap.size 32 #[.int .i64 0, .int .i64 0, .int .i64 0, .int .i64 0, .int .i64 0, .int .i64 0, .int .i64 0, .int .i64 0, .int .i64 0, .int .i64 0, .string ⟨#[]⟩, .string ⟨#[]⟩, .int .i64 0, .slice none 0 0, .int .i64 0, .int .i64 0] := (((h0.far (p := ⟨(w.heap.size + 1 + 1), 13, none⟩) (show w.heap.size ≠ (w.heap.size + 1 + 1) by omega) (.slice D nd cd)).far (p := ⟨(w.heap.size + 1 + 1), 14, none⟩) (show w.heap.size ≠ (w.heap.size + 1 + 1) by omega) (.int .i64 sq)).far (p := ⟨(w.heap.size + 1 + 1), 15, none⟩) (show w.heap.size ≠ (w.heap.size + 1 + 1) by omega) (.int .i64 tg))
  have hg7 : w7.grownBy (((w7.setCell ⟨(w.heap.size + 1 + 1), 13, none⟩ (.slice D nd cd)).setCell ⟨(w.heap.size + 1 + 1), 14, none⟩ (.int .i64 sq)).setCell ⟨(w.heap.size + 1 + 1), 15, none⟩ (.int .i64 tg)) (some (w.heap.size + 1 + 1)) := (gr_set (p := ⟨(w.heap.size + 1 + 1), 15, none⟩) (gr_set (p := ⟨(w.heap.size + 1 + 1), 14, none⟩) (gr_set (p := ⟨(w.heap.size + 1 + 1), 13, none⟩) (gr_refl w7 (some (w.heap.size + 1 + 1))) (.inl rfl) _) (.inl rfl) _) (.inl rfl) _)
  have hgs : w.heap.size + 1 + 1 < W6.heap.size := HQ.out.lt
  have hrs7 := hrs.grown hg7 (fun g o e => by have := hnew g o e; have := HB.out.size; have := hgs; intro e; injection e with e; omega)
  obtain ⟨x0, x1, x2, x3, x4, x5, x6, x7, x8, x9, x10, x11, x12, x13, x14, x15⟩ := blk16 hq7
  obtain ⟨y0, y1, y2, y3, y4, y5, y6, y7, y8, y9, y10, y11, y12, y13, y14, y15⟩ := blk16 h07
  have s0 := h07.soft 0
  have s1 := h07.soft 1
  have s2 := h07.soft 2
  have s3 := h07.soft 3
  have s4 := h07.soft 4
  have s5 := h07.soft 5
  have s6 := h07.soft 6
  have s7 := h07.soft 7
  have s8 := h07.soft 8
  have s9 := h07.soft 9
  have s10 := h07.soft 10
  have s11 := h07.soft 11
  have s12 := h07.soft 12
  have s13 := h07.soft 13
  have s14 := h07.soft 14
  have s15 := h07.soft 15
  obtain ⟨W7, hW7⟩ : ∃ W7, ((w7.setCell ⟨(w.heap.size + 1 + 1), 13, none⟩ (.slice D nd cd)).setCell ⟨(w.heap.size + 1 + 1), 14, none⟩ (.int .i64 sq)).setCell ⟨(w.heap.size + 1 + 1), 15, none⟩ (.int .i64 tg) = W7 := ⟨_, rfl⟩
  rw [hW7] at hq7 h07 hg7 hrs7 x0 y0 s0 x1 y1 s1 x2 y2 s2 x3 y3 s3 x4 y4 s4 x5 y5 s5 x6 y6 s6 x7 y7 s7 x8 y8 s8 x9 y9 s9 x10 y10 s10 x11 y11 s11 x12 y12 s12 x13 y13 s13 x14 y14 s14 x15 y15 s15
  have HG7 := Lib.hid hg7
  have HK7 := Lib.hid h07
  have HRS7 := Lib.hid hrs7
  rw [hW7]
  clear hg hp hq h0 hr hbw z13 c13 z14 c14 z15 c15 hg7 h07 hrs7 hq7 hW7 hrs hnew
  go_wp2_with fail
  obtain ⟨hblk2, hgr⟩ := blk16_set HK7.out (.int .i64 r0) (.int .i64 r1) (.int .i64 r2) (.int .i64 r3) (.int .i64 r4) (.int .i64 r5) (.int .i64 r6) (.int .i64 m1) (.int .i64 m2) (.int .i64 m3) (.string m4) (.string m5) (.int .i64 m6) (.slice D nd cd) (.int .i64 sq) (.int .i64 tg)
  have hrs9 := HRS7.out.grown hgr (fun g o e => by have := HN7.out g o e; have := HB.out.size; have := HSW.out; intro e; injection e with e; omega)
  generalize (((((((((((((((W7.setCell ⟨w.heap.size, 0, none⟩ (.int .i64 r0)).setCell ⟨w.heap.size, 1, none⟩ (.int .i64 r1)).setCell ⟨w.heap.size, 2, none⟩ (.int .i64 r2)).setCell ⟨w.heap.size, 3, none⟩ (.int .i64 r3)).setCell ⟨w.heap.size, 4, none⟩ (.int .i64 r4)).setCell ⟨w.heap.size, 5, none⟩ (.int .i64 r5)).setCell ⟨w.heap.size, 6, none⟩ (.int .i64 r6)).setCell ⟨w.heap.size, 7, none⟩ (.int .i64 m1)).setCell ⟨w.heap.size, 8, none⟩ (.int .i64 m2)).setCell ⟨w.heap.size, 9, none⟩ (.int .i64 m3)).setCell ⟨w.heap.size, 10, none⟩ (.string m4)).setCell ⟨w.heap.size, 11, none⟩ (.string m5)).setCell ⟨w.heap.size, 12, none⟩ (.int .i64 m6)).setCell ⟨w.heap.size, 13, none⟩ (.slice D nd cd)).setCell ⟨w.heap.size, 14, none⟩ (.int .i64 sq)).setCell ⟨w.heap.size, 15, none⟩ (.int .i64 tg) = w9 at hblk2 hgr hrs9 ⊢
  obtain ⟨d0, d1, d2, d3, d4, d5, d6, d7, d8, d9, d10, d11, d12, d13, d14, d15⟩ := blk16 hblk2
  refine bodyPost_ret (v := .agg #[.int .i64 r0, .int .i64 r1, .int .i64 r2, .int .i64 r3, .int .i64 r4, .int .i64 r5, .int .i64 r6, .int .i64 m1, .int .i64 m2, .int .i64 m3, .string m4, .string m5, .int .i64 m6, .slice D nd cd, .int .i64 sq, .int .i64 tg]) (by simp [results, Tryz.results27, go_sem, d0, d1, d2, d3, d4, d5, d6, d7, d8, d9, d10, d11, d12, d13, d14, d15]) rfl ?_
  have hsz := HB.out.size
  have hsz7 := HSZ.out
  have hsz9 := HG7.out.size
  have hbb : Below w.heap.size w w9 := (HB7.out.trans (gr_below HG7.out HB7.out.size (fun b hb => by injection hb with hb; omega))).trans (gr_below hgr (by omega) (fun b hb => by injection hb with hb; omega))
  have hrd : readOf oldTake l = ⟨(r0, r1), r2, (r3, r4), (r5, r6), ⟨m1, m2, m3, m4, m5, m6⟩, ⟨dl, sq, tg⟩⟩ := by
    rw [readOf, HV0.out, HV1.out, HV2.out, ← HV3.out, ← HV4.out, ← HV5.out, HV6.out]
  rw [hrd]
  exact ⟨D, nd, cd, rfl, hrs9, fun g o e => by have := HN7.out g o e; omega, hbb⟩
end Go.Proofs.YtbjooblaamjppaaGreat.Rk
