/-
  Texts of earlier layers, as one.
-/
import Derived.Test.YtldlcddmbgcfdaaWhlUp
/- The program's Push: one more timer behind all, its place in the map. -/
namespace Go.Proofs.Ytldlcddmbgcfdaa.Wh
open Go.RowKit Mem Dsk Go.Maps

theorem info_timer : (Try.prog.info? 55).map (fun i => (i.zero, i.size, i.bytes)) = some (some (.agg #[.int .i64 0, .int .i64 0, .int .i64 0]), 3, 24) := by kernel_rfl
theorem blk3 {w : World} {g : Nat} {t : TypeId} {a b c : Value} (h : Blk w g t #[a, b, c]) : w.cell? ⟨g, 0, none⟩ = some a ∧ w.cell? ⟨g, 1, none⟩ = some b ∧ w.cell? ⟨g, 2, none⟩ = some c := ⟨h.cell 0, h.cell 1, h.cell 2⟩
theorem as_timer (v : Value) (w : World) : (Instr.typeAssert (.iface 55 v) 20 55 false).run Try.prog w = .ok v w := by kernel_rfl
theorem step_map_update {P : Program} {ops : Array Oper} {o : Oper} {a : Act} {w w' : World} {K : Act → World → Prop} {Q : Exit → Act → World → Prop} {E : Prop} {t : TypeId} (hgd : o.guard = none) (m x v : Operand) (ho : o.op = .mapUpdate t m x v)
    (hrun : (Instr.mapUpdate t (a.eval m) (a.eval x) (a.eval v)).run P w = .ok () w') (h : K (a.put o.dst undef) w') : if Region.wanted o (yielded ops a.tmps) = true then Oper.wp P o a w K Q else E := by
  have hw : Region.wanted o (yielded ops a.tmps) = true := by simp [Region.wanted, hgd]
  rw [if_pos hw]
  unfold Oper.wp
  simp [execOp, ho, hrun, Result.andThen]
  exact h
/-- One more timer: its place told, its row where it was, or in new memory. -/
theorem Own.push {S : Nat → Prop} {p c b c' n1 m : Nat} {A V : Option Addr} {D : DataW Value} {h : List Tm} {t : Tm} {w u u1 u2 u3 : World} (h1 : Own w S p A c b D h) (hb : Below w.heap.size w u) (hn : ∀ x ∈ h, x.i ≠ t.i) (hw : Wf t.i)
    (hm1 : PM u1 b n1 (D.put (kid t.i) (pl h.length))) (ht : u.mapTurned u1 b) (hb2 : Below u1.heap.size u1 u2) (hm : h.length + 1 = m) (hr : u3.ownsRow 0 55 LT.s (.slice V m c') m (LT.flat (h ++ [t])))
    (hg : u2.grownBy u3 (Value.slice A h.length c).ownBlock) (hl : (Value.slice V m c').ownBlock = (Value.slice A h.length c).ownBlock ∨ (Value.slice V m c').ownBlock = some u2.heap.size) :
    Own (u3.setCell ⟨p, 0, none⟩ (.slice V m c')) (Plus S w (u3.setCell ⟨p, 0, none⟩ (.slice V m c'))) p V c' b (D.put (kid t.i) (pl h.length)) (h ++ [t]) ∧ Keeps S w (u3.setCell ⟨p, 0, none⟩ (.slice V m c')) := by
  subst hm
  have hz1 := hb.size
  have hz2 := ht.grown.size
  have hz3 := hb2.size
  have hz4 := hg.size
  have hplt := h1.lt p h1.sp
  have hblt := h1.lt b h1.sb
  have hrow : ∀ k, Row V k → Row A k ∨ k = u2.heap.size := fun k hk => by
    have hk' := (row_of (n := h.length + 1) (c := c')).2 hk
    rcases hl with e | e
    · exact .inl (row_of.1 (e ▸ hk'))
    · rw [e] at hk'
      injection hk' with hk'
      exact .inr hk'.symm
  have hset : ∀ k, k ≠ p → (u3.setCell ⟨p, 0, none⟩ (.slice V (h.length + 1) c')).heap[k]? = u3.heap[k]? := fun k hk => Below.heap_setCell _ ⟨p, 0, none⟩ _ k hk
  have hu1 : ∀ k, k < w.heap.size → k ≠ b → u1.heap[k]? = w.heap[k]? := fun k hk hkb => (ht.grown.block k (by omega) fun e => hkb (by injection e)).trans (hb.block k hk)
  have hold : ∀ k, k < u1.heap.size → ¬ Row A k → u3.heap[k]? = u1.heap[k]? := fun k hk hn => (hg.block k (by omega) fun e => hn (row_of.1 e.symm)).trans (hb2.block k hk)
  have hsz : (u3.setCell ⟨p, 0, none⟩ (.slice V (h.length + 1) c')).heap.size = u3.heap.size := by simp
  have hbp : Blk u3 p 53 #[.slice A h.length c, .map (some b)] := (hold p (by omega) h1.rp).trans ((hu1 p hplt fun e => h1.bp e.symm).trans h1.box)
  refine ⟨⟨?_, ?_, ?_, h1.hol.push t hw h1.wf hn, ?_, fun x hx => ?_, fun hk => ?_, fun hk => ?_, h1.bp, .inl h1.sp, .inl h1.sb, fun k hk => ?_, fun k hk => ?_⟩, ?_⟩
  · rw [List.length_append]
    exact by simpa using hbp.put 0 (.slice V (h.length + 1) c')
  · rw [List.length_append]
    refine row_keep hr fun k hk => hset k fun e => ?_
    rcases hrow k (row_of.1 hk) with h' | h'
    · exact h1.rp (e ▸ h')
    · omega
  · have hm' : PM (u3.setCell ⟨p, 0, none⟩ (.slice V (h.length + 1) c')) b n1 (D.put (kid t.i) (pl h.length)) := pm_keep hm1 ((hset b h1.bp).trans (hold b (by omega) h1.rb))
    have hs := (h1.hol.push t hw h1.wf hn).size
    rw [← hs]
    exact pm_tight hm'
  · refine List.pairwise_append.2 ⟨h1.uq, List.pairwise_singleton _ _, fun x hx y hy => ?_⟩
    rw [List.mem_singleton.1 hy]
    exact hn x hx
  · rcases List.mem_append.1 hx with hx | hx
    · exact h1.wf x hx
    · rw [List.mem_singleton.1 hx]
      exact hw
  · rcases hrow p hk with h' | h'
    · exact h1.rp h'
    · omega
  · rcases hrow b hk with h' | h'
    · exact h1.rb h'
    · omega
  · rcases hrow k hk with h' | h'
    · exact .inl (h1.sr k h')
    · refine .inr ⟨by omega, ?_⟩
      have := (hr.lt k (row_of.2 hk)).2
      omega
  · rw [hsz]
    rcases hk with h' | h'
    · have := h1.lt k h'
      omega
    · rw [hsz] at h'
      exact h'.2
  · refine ⟨hg.os.trans (hb2.os.trans (ht.grown.os.trans hb.os)), hg.tape.trans (hb2.tape.trans (ht.grown.tape.trans hb.tape)), hg.output.trans (hb2.output.trans (ht.grown.output.trans hb.output)), by rw [hsz]; omega, fun k hk hn => ?_⟩
    exact (hset k fun e => hn (by rw [e]; exact h1.sp)).trans ((hold k (by omega) fun e => hn (h1.sr k e)).trans (hu1 k hk fun e => hn (by rw [e]; exact h1.sb)))
set_option maxRecDepth 20000 in
set_option maxHeartbeats 16000000 in
theorem push_any {S : Nat → Prop} {p c b : Nat} {A : Option Addr} {D : DataW Value} {h : List Tm} (t : Tm) (w : World) (ho : Own w S p A c b D h) (hn : ∀ x ∈ h, x.i ≠ t.i) (hw : Wf t.i) (hl : h.length ≤ 1000000) :
    Calls Try.prog 46 #[ptr p, .iface 55 (.agg #[.int .i64 t.i.1, .int .i64 t.i.2, .int .i64 t.a])] w (fun e w' => e = .returned (.tuple #[]) ∧ ∃ A' c' D', Own w' (Plus S w w') p A' c' b D' (h ++ [t]) ∧ Keeps S w w') := by
  obtain ⟨⟨t1, t2⟩, ta⟩ := t
  have has := as_timer (.agg #[.int .i64 t1, .int .i64 t2, .int .i64 ta])
  have hbel := bel_alloc (Below.refl w.heap.size w) (.cells #[.int .i64 t1, .int .i64 t2, .int .i64 ta] 55)
  have hbx := Blk.new w 55 #[.int .i64 t1, .int .i64 t2, .int .i64 ta]
  obtain ⟨W, hW⟩ : ∃ v, w.alloc (.cells #[.int .i64 t1, .int .i64 t2, .int .i64 ta] 55) = v := ⟨_, rfl⟩
  rw [hW] at hbel hbx
  obtain ⟨U, hU⟩ : ∃ v, W.drew = v := ⟨_, rfl⟩
  have hbu : Below w.heap.size w U := by rw [← hU]; exact hbel.drew
  have hbxu : Blk U w.heap.size 55 #[.int .i64 t1, .int .i64 t2, .int .i64 ta] := by rw [← hU]; exact hbx.drew
  have hoU := ho.below hbu
  have hplt := ho.lt p ho.sp
  have hblt := ho.lt b ho.sb
  obtain ⟨u1, hup, hm1, ht1⟩ := store_place hoU.mp hw h.length (by omega) (by unfold maxLen; omega)
  have hk1 : Keeps (fun k => k = b) U u1 := Keeps.ofGrown ht1.grown rfl
  have hpU : p < U.heap.size := Nat.lt_of_lt_of_le hplt hbu.size
  have hwU : w.heap.size < U.heap.size := hbxu.lt
  have hbox1 : Blk u1 p 53 #[.slice A h.length c, .map (some b)] := (hk1.block p hpU fun e => ho.bp e.symm).trans hoU.box
  have hbx1 : Blk u1 w.heap.size 55 #[.int .i64 t1, .int .i64 t2, .int .i64 ta] := (hk1.block _ hwU fun e => by omega).trans hbxu
  have hrow1 := row_keep hoU.row fun k e => hk1.block k (Nat.lt_of_lt_of_le (ho.lt k (ho.sr k (row_of.1 e))) hbu.size) fun e' => ho.rb (e' ▸ row_of.1 e)
  obtain ⟨V1, hV⟩ : ∃ v, u1.drew = v := ⟨_, rfl⟩
  have hb1 : Below u1.heap.size u1 V1 := by rw [← hV]; exact Below.drew (Below.refl _ _)
  have hboxV := hbox1.bel hb1
  have hbxV := hbx1.bel hb1
  have hrowV := ownsRow_below hrow1 hb1
  have hpV : p < V1.heap.size := hboxV.lt
  have hpush := fun (u2 u3 : World) (V : Option Addr) (c' : Nat) (hb2 : Below V1.heap.size V1 u2) => ho.push (t := ⟨(t1, t2), ta⟩) (V := V) (c' := c') (m := h.length + 1) hbu hn hw hm1 ht1 (hb1.trans (hb2.mono hb1.size)) rfl (u3 := u3)
  have hnr : some w.heap.size ≠ (Value.slice A h.length c).ownBlock ∧ some p ≠ (Value.slice A h.length c).ownBlock := by
    refine ⟨fun e => ?_, fun e => ho.rp (row_of.1 e.symm)⟩
    have := ho.lt _ (ho.sr _ (row_of.1 e.symm))
    omega
  obtain ⟨c0, c1⟩ := hoU.cells
  obtain ⟨n, hn'⟩ : ∃ n, h.length = n := ⟨_, rfl⟩
  have hrowV' := hrowV
  rw [hn'] at c0 hup hnr hl hpush hboxV hbox1 hrowV'
  have q0 := Blk.cell hboxV 0
  have HS0 := Lib.hid (show U.cell? ⟨p, 0, none⟩ = some (.slice A n c) ∧ U.cell? ⟨p, 1, none⟩ = some (.map (some b)) ∧ Blk U w.heap.size 55 #[.int .i64 t1, .int .i64 t2, .int .i64 ta] from ⟨c0, c1, hbxu⟩)
  have HS1 := Lib.hid (show u1.cell? ⟨p, 0, none⟩ = some (.slice A n c) ∧ u1.cell? ⟨p, 1, none⟩ = some (.map (some b)) ∧ Blk u1 w.heap.size 55 #[.int .i64 t1, .int .i64 t2, .int .i64 ta] from ⟨Blk.cell hbox1 0, Blk.cell hbox1 1, hbx1⟩)
  have HUP := Lib.hid hup
  have HT0 := Lib.hid hbxV
  have HT2 : Hid (Blk (V1.alloc (.cells #[.int .i64 t1, .int .i64 t2, .int .i64 ta] 55)) w.heap.size 55 #[.int .i64 t1, .int .i64 t2, .int .i64 ta]) := Lib.hid (hbxV.alloc _)
  have HPV := Lib.hid hpV
  have HROW := Lib.hid hrowV'
  have HNR := Lib.hid hnr
  have HBP := Lib.hid hboxV
  have HPL := Lib.hid hplt
  have HPUSH := Lib.hid hpush
  have HU := Lib.hid hU
  have HV := Lib.hid hV
  have HW := Lib.hid hW
  clear ho hn hw hbel hbx hW hU hbu hbxu hoU hplt hblt hup hm1 ht1 hk1 hpU hwU hbox1 hbx1 hrow1 hV hb1 hboxV hbxV hrowV hrowV' hpV hpush hnr c1 hn' c0
  unfold ptr
  go_enter Try.func46, Try.ntmps46
  go_upto_region 1 with fail
  rw [HW.out]
  refine wp_region_held_drew (S := (fun w' => w'.cell? ⟨p, 0, none⟩ = some (.slice A n c) ∧ w'.cell? ⟨p, 1, none⟩ = some (.map (some b)) ∧ Blk w' w.heap.size 55 #[.int .i64 t1, .int .i64 t2, .int .i64 ta])) (by kernel_rfl) (by rw [HU.out]; exact HS0.out) (fun hHeld => ?_)
  rw [HU.out] at hHeld ⊢
  refine held_take (i := 0) (d := 7) (v := (.pointer (some ⟨p, 0, none⟩))) rfl rfl (by kernel_rfl) (by kernel_rfl) (by kernel_rfl) (fun _ _ _ h => h) (by kernel_rfl) (fun w hSw => by (obtain ⟨hS0, hS1, hS2⟩ := hSw); go_simp) hHeld ?_
  try simp only [List.setIfInBounds_toArray, List.set_cons_zero, List.set_cons_succ]
  refine held_take (i := 1) (d := 8) (v := (.pointer (some ⟨p, 0, none⟩))) rfl rfl (by kernel_rfl) (by kernel_rfl) (by kernel_rfl) (fun _ _ _ h => h) (by kernel_rfl) (fun w hSw => by (obtain ⟨hS0, hS1, hS2⟩ := hSw); go_simp) hHeld ?_
  try simp only [List.setIfInBounds_toArray, List.set_cons_zero, List.set_cons_succ]
  refine held_take (i := 2) (d := 9) (v := (.pointer (some ⟨p, 1, none⟩))) rfl rfl (by kernel_rfl) (by kernel_rfl) (by kernel_rfl) (fun _ _ _ h => h) (by kernel_rfl) (fun w hSw => by (obtain ⟨hS0, hS1, hS2⟩ := hSw); go_simp) hHeld ?_
  try simp only [List.setIfInBounds_toArray, List.set_cons_zero, List.set_cons_succ]
  refine held_take (i := 3) (d := 10) (v := (.map (some b))) rfl rfl (by kernel_rfl) (by kernel_rfl) (by kernel_rfl) (fun _ _ _ h => h) (by kernel_rfl) (fun w hSw => by (obtain ⟨hS0, hS1, hS2⟩ := hSw); go_simp) hHeld ?_
  try simp only [List.setIfInBounds_toArray, List.set_cons_zero, List.set_cons_succ]
  refine held_take (i := 4) (d := 11) (v := (.pointer (some ⟨w.heap.size, 0, none⟩))) rfl rfl (by kernel_rfl) (by kernel_rfl) (by kernel_rfl) (fun _ _ _ h => h) (by kernel_rfl) (fun w hSw => by (obtain ⟨hS0, hS1, hS2⟩ := hSw); go_simp) hHeld ?_
  try simp only [List.setIfInBounds_toArray, List.set_cons_zero, List.set_cons_succ]
  refine held_take (i := 5) (d := 12) (v := (.agg #[.int .i64 t1, .int .i64 t2])) rfl rfl (by kernel_rfl) (by kernel_rfl) (by kernel_rfl) (fun _ _ _ h => h) (by kernel_rfl) (fun w hSw => by (obtain ⟨hS0, hS1, hS2⟩ := hSw; obtain ⟨hS3, hS4, hS5⟩ := blk3 hS2); go_simp) hHeld ?_
  try simp only [List.setIfInBounds_toArray, List.set_cons_zero, List.set_cons_succ]
  refine held_take (i := 6) (d := 13) (v := (.pointer (some ⟨p, 0, none⟩))) rfl rfl (by kernel_rfl) (by kernel_rfl) (by kernel_rfl) (fun _ _ _ h => h) (by kernel_rfl) (fun w hSw => by (obtain ⟨hS0, hS1, hS2⟩ := hSw); go_simp) hHeld ?_
  try simp only [List.setIfInBounds_toArray, List.set_cons_zero, List.set_cons_succ]
  refine held_take (i := 7) (d := 14) (v := (.pointer (some ⟨p, 0, none⟩))) rfl rfl (by kernel_rfl) (by kernel_rfl) (by kernel_rfl) (fun _ _ _ h => h) (by kernel_rfl) (fun w hSw => by (obtain ⟨hS0, hS1, hS2⟩ := hSw); go_simp) hHeld ?_
  try simp only [List.setIfInBounds_toArray, List.set_cons_zero, List.set_cons_succ]
  refine held_take (i := 8) (d := 15) (v := (.pointer (some ⟨p, 0, none⟩))) rfl rfl (by kernel_rfl) (by kernel_rfl) (by kernel_rfl) (fun _ _ _ h => h) (by kernel_rfl) (fun w hSw => by (obtain ⟨hS0, hS1, hS2⟩ := hSw); go_simp) hHeld ?_
  try simp only [List.setIfInBounds_toArray, List.set_cons_zero, List.set_cons_succ]
  refine held_take (i := 9) (d := 16) (v := (.slice A n c)) rfl rfl (by kernel_rfl) (by kernel_rfl) (by kernel_rfl) (fun _ _ _ h => h) (by kernel_rfl) (fun w hSw => by (obtain ⟨hS0, hS1, hS2⟩ := hSw); go_simp) hHeld ?_
  try simp only [List.setIfInBounds_toArray, List.set_cons_zero, List.set_cons_succ]
  refine wpAnyH_ready (rs := [10]) (by kernel_rfl) (by simp) ?_
  refine AllReadyH.cons rfl (fun K hK => ?_) AllReadyH.nil
  go_simp
  skip
  refine hK.out _ _ (by first | (with_reducible exact HS0.out) | (with_reducible exact HS1.out)) (fun hHeld => ?_)
  clear hK K
  refine wpAnyH_ready (rs := [11]) (by kernel_rfl) (by simp) ?_
  refine AllReadyH.cons rfl (fun K hK => ?_) AllReadyH.nil
  refine step_map_update rfl (.tmp 10) (.tmp 12) (.tmp 17) rfl HUP.out ?_
  try simp only [Act.put]
  refine hK.out _ _ (by first | (with_reducible exact HS0.out) | (with_reducible exact HS1.out)) (fun hHeld => ?_)
  clear hK K
  refine wpAnyH_done (by kernel_rfl) ?_ _
  go_upto_region 2 with fail
  refine wp_region_held_drew (S := (fun w' => Blk w' w.heap.size 55 #[.int .i64 t1, .int .i64 t2, .int .i64 ta])) (by kernel_rfl) (by rw [HV.out]; exact HT0.out) (fun hHeld => ?_)
  rw [HV.out] at hHeld ⊢
  refine held_take (i := 0) (d := 18) (v := (.pointer (some ⟨p, 0, none⟩))) rfl rfl (by kernel_rfl) (by kernel_rfl) (by kernel_rfl) (fun _ _ _ h => h) (by kernel_rfl) (fun w hSw => by (obtain hS0 := hSw); go_simp) hHeld ?_
  try simp only [List.setIfInBounds_toArray]
  refine held_take (i := 1) (d := 19) (v := (.pointer (some ⟨p, 0, none⟩))) rfl rfl (by kernel_rfl) (by kernel_rfl) (by kernel_rfl) (fun _ _ _ h => h) (by kernel_rfl) (fun w hSw => by (obtain hS0 := hSw); go_simp) hHeld ?_
  refine held_take (i := 2) (d := 20) (v := (.pointer (some ⟨p, 0, none⟩))) rfl rfl (by kernel_rfl) (by kernel_rfl) (by kernel_rfl) (fun _ _ _ h => h) (by kernel_rfl) (fun w hSw => by (obtain hS0 := hSw); go_simp) hHeld ?_
  refine held_take (i := 3) (d := 21) (v := (.pointer (some ⟨p, 0, none⟩))) rfl rfl (by kernel_rfl) (by kernel_rfl) (by kernel_rfl) (fun _ _ _ h => h) (by kernel_rfl) (fun w hSw => by (obtain hS0 := hSw); go_simp) hHeld ?_
  refine held_take (i := 5) (d := 23) (v := (.agg #[.int .i64 t1, .int .i64 t2, .int .i64 ta])) rfl rfl (by kernel_rfl) (by kernel_rfl) (by kernel_rfl) (fun _ _ _ h => h) (by kernel_rfl) (run_load_blk 55 (.tmp 4) rfl w.heap.size 55 _ _ rfl (fun w hSw => hSw) Try.underlying55 rfl (by kernel_rfl)) hHeld ?_
  refine wpAnyH_ready (rs := [4, 6]) (by kernel_rfl) (by simp) ?_
  refine AllReadyH.cons rfl (fun K hK => ?_) (AllReadyH.cons rfl (fun K hK => ?_) AllReadyH.nil)
  · go_simp
    skip
    refine hK.out _ _ (by first | (with_reducible exact HT4.out) | (with_reducible exact HT3.out) | (with_reducible exact HT2.out) | (with_reducible exact HT0.out)) (fun hHeld => ?_)
    clear hK K
    refine wpAnyH_ready (rs := [6]) (by kernel_rfl) (by simp) ?_
    refine AllReadyH.cons rfl (fun K hK => ?_) AllReadyH.nil
    go_simp
    have q2 : (V1.alloc (.cells #[.int .i64 t1, .int .i64 t2, .int .i64 ta] 55)).cell? ⟨p, 0, none⟩ = some (.slice A n c) := (World.cell?_alloc_lt V1 _ ⟨p, 0, none⟩ HPV.out).trans q0
    refine hK.out _ _ (by first | (with_reducible exact HT4.out) | (with_reducible exact HT3.out) | (with_reducible exact HT2.out) | (with_reducible exact HT0.out)) (fun hHeld => ?_)
    clear hK K
    refine wpAnyH_ready (rs := [7]) (by kernel_rfl) (by simp) ?_
    refine AllReadyH.cons rfl (fun K hK => ?_) AllReadyH.nil
    obtain ⟨i0, hi, hz0, hz1, hz2⟩ := info_parts info_timer
    have hrow := HROW.out
    have hbu2 : Below V1.heap.size V1 (V1.alloc (.cells #[.int .i64 t1, .int .i64 t2, .int .i64 ta] 55)) := bel_alloc (Below.refl _ _) _
    have hlit : Rw LT (V1.alloc (.cells #[.int .i64 t1, .int .i64 t2, .int .i64 ta] 55)) (some ⟨V1.heap.size, 0, none⟩) 1 1 [⟨(t1, t2), ta⟩] := Rw.lit (L := LT) V1 ⟨(t1, t2), ta⟩ 55
    obtain ⟨V, c', u3, hrun, hown, hgr, hloc⟩ := run_append_rw (L := LT) (ty := 49) (bytes := 24) Try.underlying49 hi hz0 hz1 hz2 rfl (ownsRow_below hrow hbu2) hlit (by unfold maxLen; omega) (by omega) (Nat.zero_le _)
    refine step_append_row rfl (.tmp 22) (.tmp 24) rfl hrun ?_
    show K (Act.put _ (some 25) _) _
    try simp only [Act.put]
    have HT3 := Lib.hid (show Blk u3 w.heap.size 55 #[.int .i64 t1, .int .i64 t2, .int .i64 ta] from (HT0.out.bel hbu2).grown hgr HNR.out.1)
    have q3 := hgr.cell q2 HNR.out.2
    have f3 := Blk.soft ((HBP.out.bel hbu2).grown hgr HNR.out.2) 0
    have HFIN := Lib.hid (HPUSH.out _ _ _ _ hbu2 hown hgr hloc)
    clear hrun hown hgr hloc hlit hrow hbu2 hi hz0 hz1 hz2 i0
    refine hK.out _ _ (by first | (with_reducible exact HT4.out) | (with_reducible exact HT3.out) | (with_reducible exact HT2.out) | (with_reducible exact HT0.out)) (fun hHeld => ?_)
    clear hK K
    refine held_take (i := 8) (d := 26) (v := (.pointer (some ⟨p, 0, none⟩))) rfl rfl (by kernel_rfl) (by kernel_rfl) (by kernel_rfl) (fun _ _ _ h => h) (by kernel_rfl) (fun w hSw => by (obtain hS0 := hSw); go_simp) hHeld ?_
    try simp only [List.setIfInBounds_toArray]
    refine held_take (i := 9) (d := 27) (v := (.pointer (some ⟨p, 0, none⟩))) rfl rfl (by kernel_rfl) (by kernel_rfl) (by kernel_rfl) (fun _ _ _ h => h) (by kernel_rfl) (fun w hSw => by (obtain hS0 := hSw); go_simp) hHeld ?_
    try simp only [List.setIfInBounds_toArray]
    refine wpAnyH_ready (rs := [10]) (by kernel_rfl) (by simp) ?_
    refine AllReadyH.cons rfl (fun K hK => ?_) AllReadyH.nil
    go_simp
    have HT4 := Lib.hid (show Blk (u3.setCell ⟨p, 0, none⟩ (.slice V (n + 1) c')) w.heap.size 55 #[.int .i64 t1, .int .i64 t2, .int .i64 ta] from HT3.out.far (by have := HPL.out; simp; omega) _)
    refine hK.out _ _ (by first | (with_reducible exact HT4.out) | (with_reducible exact HT3.out) | (with_reducible exact HT2.out) | (with_reducible exact HT0.out)) (fun hHeld => ?_)
    clear hK K
    refine wpAnyH_done (by kernel_rfl) ?_ _
    go_end0
    exact ⟨rfl, V, c', _, HFIN.out⟩
  · go_simp
    have q2 : (V1.alloc (.cells #[.int .i64 t1, .int .i64 t2, .int .i64 ta] 55)).cell? ⟨p, 0, none⟩ = some (.slice A n c) := (World.cell?_alloc_lt V1 _ ⟨p, 0, none⟩ HPV.out).trans q0
    refine hK.out _ _ (by first | (with_reducible exact HT4.out) | (with_reducible exact HT3.out) | (with_reducible exact HT2.out) | (with_reducible exact HT0.out)) (fun hHeld => ?_)
    clear hK K
    refine wpAnyH_ready (rs := [4]) (by kernel_rfl) (by simp) ?_
    refine AllReadyH.cons rfl (fun K hK => ?_) AllReadyH.nil
    go_simp
    skip
    refine hK.out _ _ (by first | (with_reducible exact HT4.out) | (with_reducible exact HT3.out) | (with_reducible exact HT2.out) | (with_reducible exact HT0.out)) (fun hHeld => ?_)
    clear hK K
    refine wpAnyH_ready (rs := [7]) (by kernel_rfl) (by simp) ?_
    refine AllReadyH.cons rfl (fun K hK => ?_) AllReadyH.nil
    obtain ⟨i0, hi, hz0, hz1, hz2⟩ := info_parts info_timer
    have hrow := HROW.out
    have hbu2 : Below V1.heap.size V1 (V1.alloc (.cells #[.int .i64 t1, .int .i64 t2, .int .i64 ta] 55)) := bel_alloc (Below.refl _ _) _
    have hlit : Rw LT (V1.alloc (.cells #[.int .i64 t1, .int .i64 t2, .int .i64 ta] 55)) (some ⟨V1.heap.size, 0, none⟩) 1 1 [⟨(t1, t2), ta⟩] := Rw.lit (L := LT) V1 ⟨(t1, t2), ta⟩ 55
    obtain ⟨V, c', u3, hrun, hown, hgr, hloc⟩ := run_append_rw (L := LT) (ty := 49) (bytes := 24) Try.underlying49 hi hz0 hz1 hz2 rfl (ownsRow_below hrow hbu2) hlit (by unfold maxLen; omega) (by omega) (Nat.zero_le _)
    refine step_append_row rfl (.tmp 22) (.tmp 24) rfl hrun ?_
    show K (Act.put _ (some 25) _) _
    try simp only [Act.put]
    have HT3 := Lib.hid (show Blk u3 w.heap.size 55 #[.int .i64 t1, .int .i64 t2, .int .i64 ta] from (HT0.out.bel hbu2).grown hgr HNR.out.1)
    have q3 := hgr.cell q2 HNR.out.2
    have f3 := Blk.soft ((HBP.out.bel hbu2).grown hgr HNR.out.2) 0
    have HFIN := Lib.hid (HPUSH.out _ _ _ _ hbu2 hown hgr hloc)
    clear hrun hown hgr hloc hlit hrow hbu2 hi hz0 hz1 hz2 i0
    refine hK.out _ _ (by first | (with_reducible exact HT4.out) | (with_reducible exact HT3.out) | (with_reducible exact HT2.out) | (with_reducible exact HT0.out)) (fun hHeld => ?_)
    clear hK K
    refine held_take (i := 8) (d := 26) (v := (.pointer (some ⟨p, 0, none⟩))) rfl rfl (by kernel_rfl) (by kernel_rfl) (by kernel_rfl) (fun _ _ _ h => h) (by kernel_rfl) (fun w hSw => by (obtain hS0 := hSw); go_simp) hHeld ?_
    try simp only [List.setIfInBounds_toArray]
    refine held_take (i := 9) (d := 27) (v := (.pointer (some ⟨p, 0, none⟩))) rfl rfl (by kernel_rfl) (by kernel_rfl) (by kernel_rfl) (fun _ _ _ h => h) (by kernel_rfl) (fun w hSw => by (obtain hS0 := hSw); go_simp) hHeld ?_
    try simp only [List.setIfInBounds_toArray]
    refine wpAnyH_ready (rs := [10]) (by kernel_rfl) (by simp) ?_
    refine AllReadyH.cons rfl (fun K hK => ?_) AllReadyH.nil
    go_simp
    have HT4 := Lib.hid (show Blk (u3.setCell ⟨p, 0, none⟩ (.slice V (n + 1) c')) w.heap.size 55 #[.int .i64 t1, .int .i64 t2, .int .i64 ta] from HT3.out.far (by have := HPL.out; simp; omega) _)
    refine hK.out _ _ (by first | (with_reducible exact HT4.out) | (with_reducible exact HT3.out) | (with_reducible exact HT2.out) | (with_reducible exact HT0.out)) (fun hHeld => ?_)
    clear hK K
    refine wpAnyH_done (by kernel_rfl) ?_ _
    go_end0
    exact ⟨rfl, V, c', _, HFIN.out⟩
end Go.Proofs.Ytldlcddmbgcfdaa.Wh
