/-
  Texts of earlier layers, as one.
-/
import Derived.Test.YtldlcddmbgcfdaaWhlPush
/- The program's Pop: the last timer out, with its place in the map. -/
namespace Go.Proofs.Ytldlcddmbgcfdaa.Wh
open Go.RowKit Mem Dsk Go.Maps

theorem step_delete {P : Program} {ops : Array Oper} {o : Oper} {a : Act} {w w' : World} {K : Act → World → Prop} {Q : Exit → Act → World → Prop} {E : Prop} {t k : TypeId} (hgd : o.guard = none) (m x : Operand) (ho : o.op = .call { callee := .builtin .delete, args := #[m, x], argTypes := #[t, k] })
    (hrun : (Builtin.delete_ #[t, k] o.type #[a.eval m, a.eval x]).run P w = .ok (.tuple #[]) w') (h : K (a.put o.dst (.tuple #[])) w') : if Region.wanted o (yielded ops a.tmps) = true then Oper.wp P o a w K Q else E := by
  have hw : Region.wanted o (yielded ops a.tmps) = true := by simp [Region.wanted, hgd]
  rw [if_pos hw]
  unfold Oper.wp
  simp [execOp, ho, resolve, invoke, builtin, hrun, Result.andThen]
  exact h
theorem hdr_less {α : Type} {L : Lay α} {w : World} {g : Nat} {t : TypeId} {c : Nat} {d e : List α} (h : Hdr L w g t c (d ++ e)) : Hdr L w g t c d := by
  obtain ⟨vs, h1, h2, h3, h4, h5⟩ := h
  rw [List.length_append] at h4
  exact ⟨vs, h1, h2, h3, by omega, fun j x hx => h5 j x (by rw [List.getElem?_append_left (List.getElem?_eq_some_iff.1 hx).1]; exact hx)⟩
set_option maxRecDepth 20000 in
set_option maxHeartbeats 16000000 in
theorem pop_any {S : Nat → Prop} {p c b : Nat} {A : Option Addr} {D : DataW Value} {h : List Tm} (t : Tm) (w : World) (ho : Own w S p A c b D (h ++ [t])) (hl : h.length ≤ 1000000) :
    Calls Try.prog 45 #[ptr p] w (fun e w' => e = .returned (.iface 55 (.agg #[.int .i64 t.i.1, .int .i64 t.i.2, .int .i64 t.a])) ∧ (∃ D', Own w' S p A c b D' h) ∧ Keeps S w w') := by
  obtain ⟨g, rfl, hgp, hgb, hsg, hlc, hh⟩ := ho.hdr (by simp)
  have hcell := hh.at_ (j := h.length) (x := t) (by simp)
  have hwt := ho.wf t (by simp)
  obtain ⟨⟨t1, t2⟩, ta⟩ := t
  obtain ⟨p1, p2, p3⟩ := three hcell
  simp only [LT] at p1 p2 p3
  have hplt := ho.lt p ho.sp
  have hblt := ho.lt b ho.sb
  have hglt := hh.lt
  have hb1 := bel_alloc (Below.refl w.heap.size w) (.cells #[.int .i64 t1, .int .i64 t2, .int .i64 ta] 55)
  have hbx := Blk.new w 55 #[.int .i64 t1, .int .i64 t2, .int .i64 ta]
  obtain ⟨W, hW⟩ : ∃ v, w.alloc (.cells #[.int .i64 t1, .int .i64 t2, .int .i64 ta] 55) = v := ⟨_, rfl⟩
  rw [hW] at hb1 hbx
  have hs0 : W.heap.size = w.heap.size + 1 := by rw [← hW]; simp
  have hoW := ho.below hb1
  have hboxW := hoW.box
  have hcW := hoW.cells
  have hrowW := hdr_less (hh.bel hb1)
  obtain ⟨m, hm⟩ : ∃ m, h.length = m := ⟨_, rfl⟩
  obtain ⟨n, hn⟩ : ∃ n, (h ++ [(⟨(t1, t2), ta⟩ : Tm)]).length = n := ⟨_, rfl⟩
  have hnm : n = m + 1 := by rw [← hn, List.length_append, hm]; rfl
  have c0 := ho.cells.1
  rw [hn] at c0 hlc hboxW hcW
  rw [hm] at p1 p2 p3 hl
  have hmn : m < n := by omega
  have hbox2 : Blk (W.setCell ⟨p, 0, none⟩ (.slice (some ⟨g, 0, none⟩) m c)) p 53 #[.slice (some ⟨g, 0, none⟩) m c, .map (some b)] := by simpa using Blk.put hboxW 0 (.slice (some ⟨g, 0, none⟩) m c)
  have hbx2 : Blk (W.setCell ⟨p, 0, none⟩ (.slice (some ⟨g, 0, none⟩) m c)) w.heap.size 55 #[.int .i64 t1, .int .i64 t2, .int .i64 ta] := hbx.far (by simp; omega) _
  have hm2 : PM (W.setCell ⟨p, 0, none⟩ (.slice (some ⟨g, 0, none⟩) m c)) b (h ++ [(⟨(t1, t2), ta⟩ : Tm)]).length D := pm_keep hoW.mp (Below.heap_setCell W ⟨p, 0, none⟩ _ b ho.bp)
  have hrow2 := hrowW.keep (w' := W.setCell ⟨p, 0, none⟩ (.slice (some ⟨g, 0, none⟩) m c)) (Below.heap_setCell W ⟨p, 0, none⟩ _ g hgp)
  have hsz2 : (W.setCell ⟨p, 0, none⟩ (.slice (some ⟨g, 0, none⟩) m c)).heap.size = W.heap.size := by simp
  have hkW : Keeps S w (W.setCell ⟨p, 0, none⟩ (.slice (some ⟨g, 0, none⟩) m c)) := (Keeps.ofBelow hb1).trans (show Keeps S W (W.setCell ⟨p, 0, none⟩ (.slice (some ⟨g, 0, none⟩) m c)) from ⟨rfl, rfl, rfl, by simp, fun k _ hn' => Below.heap_setCell W ⟨p, 0, none⟩ _ k fun e => hn' (by rw [e]; exact ho.sp)⟩) (Grew.refl _ _)
  obtain ⟨U2, hU2⟩ : ∃ v, W.setCell ⟨p, 0, none⟩ (.slice (some ⟨g, 0, none⟩) m c) = v := ⟨_, rfl⟩
  rw [hU2] at hbox2 hbx2 hm2 hrow2 hsz2 hkW
  have hbU : Below U2.heap.size U2 U2.drew := Below.drew (Below.refl _ _)
  obtain ⟨U, hU⟩ : ∃ v, U2.drew = v := ⟨_, rfl⟩
  rw [hU] at hbU
  have hboxU := hbox2.bel hbU
  have hbxU := hbx2.bel hbU
  have hrowU := hrow2.bel hbU
  have hmU : PM U b (h ++ [(⟨(t1, t2), ta⟩ : Tm)]).length D := pm_keep hm2 (hbU.block b (by omega))
  have hkU := hkW.trans (Keeps.ofBelow hbU) (Grew.refl S w)
  obtain ⟨u3, hdel, hm3, ht3⟩ := drop_place hmU hwt 0
  have hk3 : Keeps (fun k => k = b) U u3 := Keeps.ofGrown ht3.grown rfl
  have hbox3 := (hk3.block p hboxU.lt fun e => ho.bp e.symm).trans hboxU
  have hbx3 : Blk u3 w.heap.size 55 #[.int .i64 t1, .int .i64 t2, .int .i64 ta] := (hk3.block _ hbxU.lt fun e => by omega).trans hbxU
  have hrow3 := hrowU.keep (w' := u3) (hk3.block g hrowU.lt fun e => hgb e)
  have hfin : (∃ D', Own u3 S p (some ⟨g, 0, none⟩) c b D' h) ∧ Keeps S w u3 := by
    have hkS : Keeps S w u3 := hkU.trans (show Keeps S U u3 from ⟨hk3.os, hk3.tape, hk3.output, hk3.size, fun k hk hn' => hk3.block k hk fun e => hn' (by rw [e]; exact ho.sb)⟩) (Grew.refl S w)
    refine ⟨⟨_, ho.turn hkS.size (by rw [hm]; exact hbox3) (hrow3.own rfl 0 (Nat.zero_le _)) hm3 (ho.hol.pop ho.uq ho.wf) (List.pairwise_append.1 ho.uq).1 fun x hx => ho.wf x (List.mem_append_left _ hx)⟩, hkS⟩
  have hw : IntKind.i64.wrap ((n : Int) - 1) = (m : Int) := by rw [hnm, show (((m + 1 : Nat) : Int) - 1) = (m : Int) by omega]; exact wr64 (by omega) (by omega)
  have HS0 := Lib.hid (show U.cell? ⟨p, 1, none⟩ = some (.map (some b)) ∧ Blk U w.heap.size 55 #[.int .i64 t1, .int .i64 t2, .int .i64 ta] from ⟨Blk.cell hboxU 1, hbxU⟩)
  have HS1 := Lib.hid (show u3.cell? ⟨p, 1, none⟩ = some (.map (some b)) ∧ Blk u3 w.heap.size 55 #[.int .i64 t1, .int .i64 t2, .int .i64 ta] from ⟨Blk.cell hbox3 1, hbx3⟩)
  have HDEL := Lib.hid hdel
  have HFIN := Lib.hid hfin
  have HW := Lib.hid hW
  have HU := Lib.hid hU
  have HU2 := Lib.hid hU2
  obtain ⟨d0, _⟩ := hcW
  have f0 := Blk.soft hboxW 0
  clear ho hgp hgb hsg hh hcell hwt hplt hblt hglt hb1 hbx hW hs0 hoW hboxW hrowW hm hn hnm hbox2 hbx2 hm2 hrow2 hsz2 hkW hU2 hbU hU hboxU hbxU hrowU hmU hkU hdel hm3 ht3 hk3 hbox3 hbx3 hrow3 hfin
  unfold ptr
  go_enter Try.func45, Try.ntmps45
  go_upto_region 3 with fail
  rw [HW.out]
  clear c0 p1 p2 p3
  go_upto_region 4 with fail
  rw [HU2.out]
  refine wp_region_held_drew (S := (fun w' => w'.cell? ⟨p, 1, none⟩ = some (.map (some b)) ∧ Blk w' w.heap.size 55 #[.int .i64 t1, .int .i64 t2, .int .i64 ta])) (by kernel_rfl) (by rw [HU.out]; exact HS0.out) (fun hHeld => ?_)
  rw [HU.out] at hHeld ⊢
  refine held_take (i := 0) (d := 27) (v := (.pointer (some ⟨p, 0, none⟩))) rfl rfl (by kernel_rfl) (by kernel_rfl) (by kernel_rfl) (fun _ _ _ h => h) (by kernel_rfl) (fun w hSw => by (obtain ⟨hS1, hS2⟩ := hSw); go_simp) hHeld ?_
  try simp only [List.setIfInBounds_toArray, List.set_cons_zero, List.set_cons_succ]
  refine held_take (i := 1) (d := 28) (v := (.pointer (some ⟨p, 0, none⟩))) rfl rfl (by kernel_rfl) (by kernel_rfl) (by kernel_rfl) (fun _ _ _ h => h) (by kernel_rfl) (fun w hSw => by (obtain ⟨hS1, hS2⟩ := hSw); go_simp) hHeld ?_
  try simp only [List.setIfInBounds_toArray, List.set_cons_zero, List.set_cons_succ]
  refine held_take (i := 2) (d := 29) (v := (.pointer (some ⟨p, 1, none⟩))) rfl rfl (by kernel_rfl) (by kernel_rfl) (by kernel_rfl) (fun _ _ _ h => h) (by kernel_rfl) (fun w hSw => by (obtain ⟨hS1, hS2⟩ := hSw); go_simp) hHeld ?_
  try simp only [List.setIfInBounds_toArray, List.set_cons_zero, List.set_cons_succ]
  refine held_take (i := 3) (d := 30) (v := (.map (some b))) rfl rfl (by kernel_rfl) (by kernel_rfl) (by kernel_rfl) (fun _ _ _ h => h) (by kernel_rfl) (fun w hSw => by (obtain ⟨hS1, hS2⟩ := hSw); go_simp) hHeld ?_
  try simp only [List.setIfInBounds_toArray, List.set_cons_zero, List.set_cons_succ]
  refine held_take (i := 4) (d := 31) (v := (.pointer (some ⟨w.heap.size, 0, none⟩))) rfl rfl (by kernel_rfl) (by kernel_rfl) (by kernel_rfl) (fun _ _ _ h => h) (by kernel_rfl) (fun w hSw => by (obtain ⟨hS1, hS2⟩ := hSw); go_simp) hHeld ?_
  try simp only [List.setIfInBounds_toArray, List.set_cons_zero, List.set_cons_succ]
  refine held_take (i := 5) (d := 32) (v := (.agg #[.int .i64 t1, .int .i64 t2])) rfl rfl (by kernel_rfl) (by kernel_rfl) (by kernel_rfl) (fun _ _ _ h => h) (by kernel_rfl) (fun w hSw => by (obtain ⟨hS1, hS2⟩ := hSw; obtain ⟨hS3, hS4, hS5⟩ := blk3 hS2); go_simp) hHeld ?_
  try simp only [List.setIfInBounds_toArray, List.set_cons_zero, List.set_cons_succ]
  refine wpAnyH_ready (rs := [6]) (by kernel_rfl) (by simp) ?_
  refine AllReadyH.cons rfl (fun K hK => ?_) AllReadyH.nil
  refine step_delete rfl (.tmp 30) (.tmp 32) rfl HDEL.out ?_
  try simp only [Act.put]
  refine hK.out _ _ (by first | (with_reducible exact HS0.out) | (with_reducible exact HS1.out)) (fun hHeld => ?_)
  clear hK K
  refine wpAnyH_done (by kernel_rfl) ?_ _
  obtain ⟨e0, e1, e2⟩ := blk3 HS1.out.2
  go_wp2_with fail
  go_ret
  exact ⟨rfl, HFIN.out⟩
end Go.Proofs.Ytldlcddmbgcfdaa.Wh
