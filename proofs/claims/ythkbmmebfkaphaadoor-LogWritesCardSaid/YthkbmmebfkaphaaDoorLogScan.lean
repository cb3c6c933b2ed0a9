/-
  Texts of earlier layers, as one.
-/
import Derived.Test.YthkbmmebfkaphaaDoorLogRecs
import Derived.Test.YthkbmmebfkaphaaDoorDskClone
import Derived.RangeFuncBox
import Derived.Maps.AppendAt
/- The program's Scan: the records of bytes, each by itself, in new memory. -/
namespace Go.Proofs.YthkbmmebfkaphaaDoor.Lg
open Go.RowKit Mem Go.Shelf

attribute [local go_sem] Oper.semAt_some

theorem info32 : (Tryd.prog.info? 32).map (fun i => (i.zero, i.size, i.bytes)) = some (some (.slice none 0 0), 1, 24) := by kernel_rfl
/-- Parts in new memory, each in a row of its own. -/
def PartsNew (B : Nat) (W : World) (ps : List Cr.Part) : Prop := ∀ p ∈ ps, W.ownsRow B 5 1 (Cr.pv p) p.n (cs p.bs) ∧ ∀ b ∈ p.bs, b < 256
theorem PartsNew.below {B : Nat} {W W' : World} {ps : List Cr.Part} (h : PartsNew B W ps) (hb : Below W.heap.size W W') : PartsNew B W' ps := fun p hp => ⟨ownsRow_below (h p hp).1 hb, (h p hp).2⟩
/-- A row behind a turn of a block that isn't its own. -/
theorem row_kept {W W' : World} {B s n : Nat} {e : TypeId} {v : Value} {xs : List Value} {row : Option Nat} (h : W.ownsRow B e s v n xs) (hg : W.grownBy W' row) (hr : ∀ (g : Nat) (cur : Array Value), v.ownBlock = some g → W.heap[g]? = some (.cells cur e (0, 0)) → row ≠ some g) : W'.ownsRow B e s v n xs := by
  refine ⟨h.1, ?_⟩
  rcases h.2 with e0 | ⟨g, cap, cur, ev, hb, hgb, r⟩
  · exact .inl e0
  · refine .inr ⟨g, cap, cur, ev, hb, (hg.block g (Array.getElem?_eq_some_iff.1 hgb).1 fun e' => hr g cur (by rw [ev]; rfl) hgb e'.symm).trans hgb, r⟩
theorem PartsNew.grown {B : Nat} {W W' : World} {ps : List Cr.Part} {row : Option Nat} (h : PartsNew B W ps) (hg : W.grownBy W' row) (hr : ∀ g, row = some g → g < B ∨ ∀ cur : Array Value, W.heap[g]? ≠ some (.cells cur 5 (0, 0))) : PartsNew B W' ps := fun p hp =>
  ⟨row_kept (h p hp).1 hg fun g cur hv hgb e => (hr g e).elim (fun hl => by have := ((h p hp).1.lt g hv).1; omega) (fun hn => hn cur hgb), (h p hp).2⟩
/-- Records in a row of new memory. -/
structure NewMat (B : Nat) (W : World) (V : Option Addr) (n c : Nat) (l : List (List Nat)) (ps : List Cr.Part) : Prop where
  mat : Cr.Mat W V n c ps
  row : 0 < n → ∀ ad, V = some ad → B ≤ ad.block
  part : ∀ p ∈ ps, 0 < p.n → ∀ ad, p.A = some ad → B ≤ ad.block
  bytes : ps.map (·.bs) = l
def ScanRow (w : World) (B : Nat) (pre : List (Piece w)) (W : World) : Prop :=
  ∃ V k, ∃ ps : List Cr.Part, Boxed W w.heap.size 22 (.slice V ps.length k) ∧ W.ownsRow B 32 1 (.slice V ps.length k) ps.length (ps.map Cr.pv) ∧ PartsNew B W ps ∧ ps.map (·.bs) = recs pre
def ScanInt (w : World) (pre : List (Piece w)) (W : World) : Prop := Boxed W (w.heap.size + 1) 3 (.int .i64 (lastE pre : Int))
def ScanI (w : World) (B : Nat) (pre : List (Piece w)) (W : World) : Prop := (ScanRow w B pre W ∧ ScanInt w pre W) ∧ (Below w.heap.size w W ∧ B ≤ W.heap.size)
theorem not_cells {W : World} {k r : Nat} {c : Array Value} {t : TypeId} {f : Nat × Nat} {o : Obj} (h : W.heap[k]? = some (.cells c t f)) (ho : W.heap[r]? = some o) (hc : o.isCells = false) : k ≠ r := by
  rintro rfl
  rw [h] at ho
  cases ho
  cases hc
theorem scan_row_own (w : World) (B : Nat) : Go.Own (ScanRow w B) := by
  rintro pre X Y row ⟨V, k, ps, hb, hr, hp, hl⟩ hg hrow
  refine ⟨V, k, ps, hb.kept hg fun e => ?_, row_kept hr hg fun g cur _ hgb e => ?_, hp.grown hg fun g e => .inr fun cur hgb => ?_, hl⟩
  · obtain ⟨o, ho, hc⟩ := hrow _ e.symm
    exact not_cells hb ho hc rfl
  · obtain ⟨o, ho, hc⟩ := hrow g e
    exact not_cells hgb ho hc rfl
  · obtain ⟨o, ho, hc⟩ := hrow g e
    exact not_cells hgb ho hc rfl
theorem scan_int_own (w : World) : Go.Own (ScanInt w) := by
  intro pre X Y row hb hg hrow
  refine hb.kept hg fun e => ?_
  obtain ⟨o, ho, hc⟩ := hrow _ e.symm
  exact not_cells hb ho hc rfl
theorem scan_own (w : World) (B : Nat) (hB : w.heap.size ≤ B) : OwnFrom B (ScanI w B) :=
  OwnFrom.and (OwnFrom.and ((scan_row_own w B).from B) ((scan_int_own w).from B)) (OwnFrom.and (ownFrom_below (Nat.le_refl _) hB) (fun _ _ _ _ h hg _ => Nat.le_trans h hg.size))

set_option maxHeartbeats 1000000 in
theorem records_in (n : Nat) (A : Option Addr) (m c : Nat) (w : World) : CallsIn Fence.wide n Tryd.prog 29 #[.slice A m c] w fun e w' => e = .returned (.func (.func 49) #[] #[.pointer (some ⟨w.heap.size, 0, none⟩)]) ∧ w' = w.alloc (.cells #[.slice A m c] 32) := by
  refine callsIn_of_wp Tryd.func29 rfl trivial ?_ rfl
  simp only [Tryd.ntmps29, List.size_toArray, List.length_cons, List.length_nil, Nat.reduceAdd, Nat.reduceSub, Array.replicate_succ, Array.replicate_zero, List.push_toArray, List.append_toArray, List.nil_append, List.cons_append]
  gi_wp2
  go_ret
  exact ⟨rfl, rfl⟩
theorem recs_stops (n : Nat) (hn : 1 ≤ n) (w : World) (ht : Cr.Tab w) (A : Option Addr) (m c : Nat) (b : List Nat) (l : List (List Nat)) (r : List Nat) (hr : Rd w A m c (cs b)) (hb : ∀ x ∈ b, x < 256) (hm : m ≤ 70368744177664) (hrd : Reads b l r)
    (Bs : Nat) (W0 : World) (hW0 : Below w.heap.size w W0) (hBs : W0.cell? ⟨Bs, 0, none⟩ = some (.slice A m c)) :
    SeqStopsK Fence.wide n Tryd.prog 49 #[.pointer (some ⟨Bs, 0, none⟩)] (fun x : Piece w => x.1.vals) (Kp w.heap.size Bs) (fun ys => recs ys = l ∧ lastE ys = (forms l).length) (fun _ => True) l.length W0 :=
  fun lk J Jx W hW hJ _ hY h0 => recs1_in n hn w ht A m c b l r hr hb hm hrd lk Bs J Jx W (hW0.trans (hW.mono hW0.size)) hJ hY ((hW.cell (World.block_lt_of_cell? _ _ hBs)).trans hBs) h0

/-- One more record: what the round leaves. -/
theorem scan_step {w W w2 : World} {B : Nat} {pre : List (Piece w)} {x : Piece w} {V C : Option Addr} {k cc : Nat} {ps : List Cr.Part} (hBw : w.heap.size + 3 ≤ B) (hv : Boxed W w.heap.size 22 (.slice V ps.length k)) (hi1 : ScanInt w pre W)
    (hrow : W.ownsRow B 32 1 (.slice V ps.length k) ps.length (ps.map Cr.pv)) (hpn : PartsNew B W ps) (hpl : ps.map (·.bs) = recs pre) (hB : Below w.heap.size w W) (hBs : B ≤ W.heap.size) (hb2 : Below W.heap.size W w2)
    (hown : w2.ownsRow W.heap.size 5 1 (.slice C x.1.p.length cc) x.1.p.length (cs x.1.p)) (hn : ps.length ≤ 1099511627776) :
    ∃ V4 c4 w4, (Builtin.append_ #[22, 22] 22 #[.slice V ps.length k, .slice (some ⟨w2.heap.size, 0, none⟩) 1 1]).run Tryd.prog (w2.alloc (.cells #[.slice C x.1.p.length cc] 32)) = .ok (.slice V4 (ps.length + 1) c4) w4 ∧
      (w4.cell? ⟨w.heap.size, 0, none⟩ = some (.slice V ps.length k) ∧ w4.frozen? ⟨w.heap.size, 0, none⟩ = false ∧ w4.cell? ⟨w.heap.size + 1, 0, none⟩ = some (.int .i64 (lastE pre : Int)) ∧ w4.frozen? ⟨w.heap.size + 1, 0, none⟩ = false) ∧
      (KeepsFrom B W ((w4.setCell ⟨w.heap.size, 0, none⟩ (.slice V4 (ps.length + 1) c4)).setCell ⟨w.heap.size + 1, 0, none⟩ (.int .i64 (x.1.e : Int))) ∧
        Kp w.heap.size (w.heap.size + 1 + 1) W ((w4.setCell ⟨w.heap.size, 0, none⟩ (.slice V4 (ps.length + 1) c4)).setCell ⟨w.heap.size + 1, 0, none⟩ (.int .i64 (x.1.e : Int))) ∧
        ScanI w B (pre ++ [x]) ((w4.setCell ⟨w.heap.size, 0, none⟩ (.slice V4 (ps.length + 1) c4)).setCell ⟨w.heap.size + 1, 0, none⟩ (.int .i64 (x.1.e : Int)))) := by
  obtain ⟨i0, hi, hz0, hz1, hz2⟩ := info_parts info32
  have hb3 := bel_alloc hb2 (.cells #[.slice C x.1.p.length cc] 32)
  have hc3 := (Rd.one w2 (.slice C x.1.p.length cc) 32).cells _ rfl
  have hown3 := ownsRow_below hown (bel_alloc (Below.refl w2.heap.size w2) (.cells #[.slice C x.1.p.length cc] 32))
  generalize w2.alloc (.cells #[.slice C x.1.p.length cc] 32) = w3 at hb3 hc3 hown3 ⊢
  have hrow3 := ownsRow_below hrow hb3
  obtain ⟨v', w4, hrun, ho4, hg4, _, _⟩ := run_append_own_at (P := Tryd.prog) w3 B 22 22 32 i0 _ 1 24 Tryd.underlying22 hi hz0 hz1 hz2 rfl (by omega) _ ps.length _ hrow3 ⟨w2.heap.size, 0, none⟩ 1 1 [.slice C x.1.p.length cc] rfl hc3 (by intro u hu; rw [List.mem_singleton.1 hu]; rfl) (by unfold maxLen; omega) (by omega) (by have := hb3.size; omega)
  obtain ⟨g4, c4, rfl⟩ := ownsRow_succ ho4
  have hbB : Below B w3 w4 := (Below.refl B w3).grown hg4 (by have := hb3.size; omega) fun j e => (hrow3.lt j e).1
  have hv3 : Boxed w3 w.heap.size 22 (.slice V ps.length k) := (hb3.block _ hv.lt).trans hv
  have hi3 : Boxed w3 (w.heap.size + 1) 3 (.int .i64 (lastE pre : Int)) := (hb3.block _ (Boxed.lt hi1)).trans hi1
  have hv4 : Boxed w4 w.heap.size 22 (.slice V ps.length k) := (hbB.block _ (by omega)).trans hv3
  have hi4 : Boxed w4 (w.heap.size + 1) 3 (.int .i64 (lastE pre : Int)) := (hbB.block _ (by omega)).trans hi3
  have hg5 := grownBy_setCell' w4 w.heap.size (.slice (some ⟨g4, 0, none⟩) (ps.length + 1) c4)
  have hv5 := hv4.set (.slice (some ⟨g4, 0, none⟩) (ps.length + 1) c4)
  have hi5 := hi4.kept hg5 (by simp)
  refine ⟨some ⟨g4, 0, none⟩, c4, w4, hrun, ⟨hv4.cell, hv4.frozen, hi4.cell, hi4.frozen⟩, ?_⟩
  have hg4B : B ≤ g4 := (ho4.lt g4 rfl).1
  have ho5 : (w4.setCell ⟨w.heap.size, 0, none⟩ (.slice (some ⟨g4, 0, none⟩) (ps.length + 1) c4)).ownsRow B 32 1 (.slice (some ⟨g4, 0, none⟩) (ps.length + 1) c4) (ps.length + 1) _ := row_kept ho4 hg5 fun g cur hvb hgb e => by
    injection e with e
    injection hvb with hvb
    simp only at hvb
    omega
  have hp3 : PartsNew B w3 (ps ++ [⟨C, x.1.p.length, cc, x.1.p⟩]) := fun p hp => by
    rcases List.mem_append.1 hp with hp | hp
    · exact hpn.below hb3 p hp
    · rw [List.mem_singleton.1 hp]
      exact ⟨Dsk.own_low hown3 hBs, x.2.2.1⟩
  have hp4 : PartsNew B w4 (ps ++ [⟨C, x.1.p.length, cc, x.1.p⟩]) := hp3.grown hg4 fun g e => .inr fun cur hgb => by
    rcases hrow3.2 with ⟨e0, _⟩ | ⟨g', cap', cur', e', _, hgb', _⟩
    · rw [e0] at e; cases e
    · rw [e'] at e
      injection e with e
      simp only at e
      subst e
      rw [hgb'] at hgb
      injection hgb with hgb
      injection hgb with _ h2 _
      exact absurd h2 (by decide)
  have hp5 : PartsNew B (w4.setCell ⟨w.heap.size, 0, none⟩ (.slice (some ⟨g4, 0, none⟩) (ps.length + 1) c4)) (ps ++ [⟨C, x.1.p.length, cc, x.1.p⟩]) := hp4.grown hg5 fun g e => .inl (by injection e with e; omega)
  generalize hw5 : w4.setCell ⟨w.heap.size, 0, none⟩ (.slice (some ⟨g4, 0, none⟩) (ps.length + 1) c4) = w5 at hg5 hv5 hi5 ho5 hp5
  have hg6 := grownBy_setCell' w5 (w.heap.size + 1) (.int .i64 (x.1.e : Int))
  have hi6 := hi5.set (.int .i64 (x.1.e : Int))
  have hv6 := hv5.kept hg6 (by simp)
  have ho6 := row_kept ho5 hg6 fun g cur hvb hgb e => by
    injection e with e
    injection hvb with hvb
    simp only at hvb
    omega
  have hp6 := hp5.grown hg6 fun g e => .inl (by injection e with e; omega)
  have hb5 : Below w.heap.size W w5 := ((hb3.mono (by omega)).trans (hbB.mono (by omega))).grown hg5 (Nat.le_trans hb3.size hbB.size |> fun h => by have := hB.size; omega) fun j e => by injection e with e; omega
  have hb6 : Below w.heap.size W (w5.setCell ⟨w.heap.size + 1, 0, none⟩ (.int .i64 (x.1.e : Int))) := hb5.grown hg6 (by have := hB.size; have := hb5.size; omega) fun j e => by injection e with e; omega
  refine ⟨?_, ⟨hb6, fun v hcv => ?_⟩, ⟨⟨⟨some ⟨g4, 0, none⟩, c4, ps ++ [⟨C, x.1.p.length, cc, x.1.p⟩], ?_, ?_, hp6, ?_⟩, ?_⟩, hB.trans hb6, by have := hb6.size; omega⟩⟩
  · have k1 : KeepsOthers W w3 := KeepsOthers.of_grownBy (Cod.below_gr hb3 none) fun j o e _ => by cases e
    have k2 : KeepsOthers w3 w4 := KeepsOthers.of_grownBy hg4 fun j o e ho => by
      rcases hrow3.2 with ⟨e0, _⟩ | ⟨g', cap', cur', e', _, hgb', _⟩
      · rw [e0] at e; cases e
      · have ej : g' = j := by simpa [e', Value.ownBlock] using e
        subst ej
        rw [hgb'] at ho
        exact Option.some.inj ho ▸ rfl
    have k3 : KeepsOthers w4 w5 := by rw [← hw5]; exact KeepsOthers.setCell _ _ _
    exact (((k1.trans k2).trans k3).trans (KeepsOthers.setCell _ _ _)).from B
  · have l1 := World.block_lt_of_cell? _ _ hcv
    simp only at l1
    have e1 : w3.heap[w.heap.size + 1 + 1]? = W.heap[w.heap.size + 1 + 1]? := hb3.block _ l1
    have e2 : w4.heap[w.heap.size + 1 + 1]? = w3.heap[w.heap.size + 1 + 1]? := hbB.block _ (by omega)
    have l4 : w.heap.size + 1 + 1 < w4.heap.size := by have := hb3.size; have := hbB.size; omega
    have e3 : w5.heap[w.heap.size + 1 + 1]? = w4.heap[w.heap.size + 1 + 1]? := hg5.block _ l4 (by simp; omega)
    have e4 := hg6.block (w.heap.size + 1 + 1) (Nat.lt_of_lt_of_le l4 hg5.size) (by simp)
    exact (World.cell?_of_block (e4.trans (e3.trans (e2.trans e1)))).trans hcv
  · simpa using hv6
  · simpa [Cr.pv] using ho6
  · rw [List.map_append, hpl, recs_snoc]
    rfl
  · unfold ScanInt
    rw [lastE_snoc]
    exact hi6

/-- An append in a region that draws its order, inside a fence: its run is known. -/
theorem opIn_append {F : Fence} {n : Nat} {P : Program} {ops : Array Oper} {o : Oper} {a : Act} {w w' : World} {K : Act → World → Prop} {Q : Exit → Act → World → Prop} {E : Prop} {l : Nat} {t : TypeId} {v : Value} (hgd : o.guard = none) (s x : Operand)
    (ho : o.op = .call { callee := .builtin .append, args := #[s, x], argTypes := #[t, t] }) (hrun : (Builtin.append_ #[t, t] o.type #[a.eval s, a.eval x]).run P w = .ok v w') (h : K (a.put o.dst v) w') :
    if Region.wanted o (yielded ops a.tmps) = true then Oper.wpIn (F.inRound l) n P o a w K Q else E := by
  have hw : Region.wanted o (yielded ops a.tmps) = true := by simp [Region.wanted, hgd]
  rw [if_pos hw]
  have hs : (F.inRound l).round = some l := rfl
  have he : (execOp a.eval o).run P w = .ok (.value v) w' := by
    simp [execOp, ho, resolve, invoke, builtin, hrun, Result.andThen]
  refine ⟨fun f hf => ?_, ?_⟩
  · exfalso
    simp [Oper.about, ho, resolve, Target.leads] at hf
  · rw [hs, Oper.semAt_some l _ o (fun c => by rw [ho]; intro e; cases e), he]
    exact h
/-- The ending of Scan. -/
def ScanIs (l : List (List Nat)) (w : World) (e : Ending) (w' : World) : Prop :=
  ∃ V k ps, e = .returned (.tuple #[.slice V l.length k, .int .i64 ((forms l).length : Int)]) ∧ NewMat w.heap.size w' V l.length k l ps ∧ Below w.heap.size w w'
set_option maxRecDepth 100000 in
set_option maxHeartbeats 4000000 in
theorem scan_any (A : Option Addr) (m c : Nat) (b : List Nat) (l : List (List Nat)) (r : List Nat) (w : World) (ht : Cr.Tab w) (hr : Rd w A m c (cs b)) (hb : ∀ x ∈ b, x < 256) (hm : m ≤ 1099511627776) (hrd : Reads b l r) :
    Calls Tryd.prog 16 #[.slice A m c] w (ScanIs l w) := by
  obtain ⟨i0, hi, hz0, hz1, hz2⟩ := info_parts info32
  refine (callsIn_wide (n := 6)).1 ?_
  refine callsIn_of_wp_marks Tryd.func16 rfl trivial ?_ rfl
  simp only [Tryd.ntmps16, List.size_toArray, List.length_cons, List.length_nil, Nat.reduceAdd, Nat.reduceSub, Array.replicate_succ, Array.replicate_zero, List.push_toArray, List.append_toArray, List.nil_append, List.cons_append]
  gi_wp2_with (refine ⟨trivial, ?_⟩; gi_at_call 29; refine (records_in _ _ _ _ _).mono ?_; rintro e w' ⟨rfl, rfl⟩)
  have bO := Boxed.new w 22 (.slice none 0 0)
  have bI := Boxed.new (w.alloc (.cells #[.slice none 0 0] 22)) 3 (.int .i64 0)
  have bB := Boxed.new ((w.alloc (.cells #[.slice none 0 0] 22)).alloc (.cells #[.int .i64 0] 3)) 32 (.slice A m c)
  have hB0 : Below w.heap.size w (((w.alloc (.cells #[.slice none 0 0] 22)).alloc (.cells #[.int .i64 0] 3)).alloc (.cells #[.slice A m c] 32)) := bel_alloc (bel_alloc (bel_alloc (Below.refl _ _) _) _) _
  have bO2 := (bO.alloc (.cells #[.int .i64 0] 3)).alloc (.cells #[.slice A m c] 32)
  have bI2 := bI.alloc (.cells #[.slice A m c] 32)
  simp only [World.size_alloc] at bI bB bI2 bO2
  obtain ⟨W0, hW0⟩ : ∃ W0, (((w.alloc (.cells #[.slice none 0 0] 22)).alloc (.cells #[.int .i64 0] 3)).alloc (.cells #[.slice A m c] 32)) = W0 := ⟨_, rfl⟩
  have hsz0 : W0.heap.size = w.heap.size + 1 + 1 + 1 := by rw [← hW0]; simp
  rw [hW0] at bO2 bI2 bB hB0 ⊢
  have hst := recs_stops 5 (by omega) w ht A m c b l r hr hb (by omega) hrd (w.heap.size + 1 + 1) W0 hB0 bB.cell
  have hlen : l.length ≤ m := by
    have h1 := hr.len
    rw [length_cs, hrd.eq, List.length_append] at h1
    have h2 : ∀ l : List (List Nat), l.length ≤ (forms l).length := fun l => by
      induction l with
      | nil => exact Nat.le_refl _
      | cons p l ih => rw [forms, List.length_append, List.length_cons]; have := form_pos p; omega
    have := h2 l
    omega
  refine wpIn_rangeFunc_ownG rfl (by omega) (gf := 49) (lb := #[.pointer (some ⟨w.heap.size + 1 + 1, 0, none⟩)]) rfl trivial (enters_of Tryd.func49 (by kernel_rfl) rfl)
    hst kp_t (kp_b (by omega)) (Below.refl _ _) (fun _ => rfl)
    (ScanI w W0.heap.size) (fun _ _ _ => False) (scan_own w W0.heap.size (by omega)) (fun _ _ _ _ _ hs _ _ => hs)
    ⟨⟨⟨none, 0, [], bO2, World.ownsRow_nil _ _ _ _, fun _ h => (by cases h), rfl⟩, bI2⟩, hB0, Nat.le_refl _⟩
    (fun x => { tmps := #[.slice A m c, undef, .pointer (some ⟨w.heap.size, 0, none⟩), .pointer (some ⟨w.heap.size + 1, 0, none⟩), .slice x.1.V x.1.p.length x.1.k, .int .i64 (x.1.e : Int), .slice A m c, .func (.func 49) #[] #[.pointer (some ⟨w.heap.size + 1 + 1, 0, none⟩)], .slice x.1.V x.1.p.length x.1.k, .int .i64 (x.1.e : Int), undef, undef, undef, undef, undef, undef, undef, undef], defers := [] }) ?assign ?body ?done ?stop
  case assign =>
    intro l x W K hK
    simp only [Pc.vals]
    gi_wp2
    exact hK
  case body =>
    rintro lk pre x W ⟨⟨⟨V, k, ps, hv, hrow, hpn, hpl⟩, hi1⟩, hB, hBs⟩ hlt
    have hpsl : ps.length = pre.length := by
      have h := congrArg List.length hpl
      rw [List.length_map] at h
      rw [h]
      simp [recs]
    have hcl := Dsk.bclone_any x.1.V x.1.p.length x.1.k x.1.p W.drew (x.2.1.below hB).drew (by have := x.2.2.2.1; omega)
    have hst : ∀ w2 C cc, w2.ownsRow W.drew.heap.size 5 1 (.slice C x.1.p.length cc) x.1.p.length (cs x.1.p) → Below W.drew.heap.size W.drew w2 → _ := fun w2 C cc ho hb2 => scan_step (w := w) (W := W) (w2 := w2) (B := W0.heap.size) (pre := pre) (x := x) (V := V) (C := C) (k := k) (cc := cc) (ps := ps) (by omega) hv hi1 hrow hpn hpl hB hBs ((Below.refl W.heap.size W).drew.trans hb2) ho (by omega)
    have hcv := hv.cell
    have hc2 : ∀ w2, Below W.drew.heap.size W.drew w2 → w2.cell? ⟨w.heap.size, 0, none⟩ = some (.slice V ps.length k) ∧ w.heap.size < w2.heap.size := fun w2 hb2 => ⟨(hb2.cell (p := ⟨w.heap.size, 0, none⟩) hv.lt).trans hv.cell, Nat.lt_of_lt_of_le hv.lt hb2.size⟩
    have HCL := Lib.hid hcl
    have HST := Lib.hid hst
    have HC2 := Lib.hid hc2
    clear hcl hst hc2 hv hi1 hrow hpn hpl hB hBs hlt hpsl
    have hmo : Tryd.prog.follows .mixedOrders = true := by kernel_rfl
    gi_wp2_with fail
    -- ROUND
    refine wpIn_region_any hmo ?_
    change wpAnyIn _ _ _ _ _ _ _ _ _ (World.drew _)
    refine wpAnyIn_ready (rs := [0, 1]) (by kernel_rfl) (by simp) ?_
    refine AllReadyIn.cons rfl (fun K hK => ?_) (AllReadyIn.cons rfl (fun K hK => ?_) AllReadyIn.nil)
    · go_simp
      refine hK _ _ ?_
      clear hK K
      refine wpAnyIn_ready (rs := [1]) (by kernel_rfl) (by simp) ?_
      refine AllReadyIn.cons rfl (fun K hK => ?_) AllReadyIn.nil
      go_simp
      refine hK _ _ ?_
      clear hK K
      refine wpAnyIn_ready (rs := [2]) (by kernel_rfl) (by simp) ?_
      refine AllReadyIn.cons rfl (fun K hK => ?_) AllReadyIn.nil
      go_simp
      refine ⟨trivial, ?_⟩
      refine (CallsIn.inRound lk (callsIn_wide.2 HCL.out)).mono ?_
      rintro e w2 ⟨C, cc, rfl, hown, hb2⟩
      obtain ⟨V4, c4, w4, hrun, ⟨hc0, hf0, hc1, hf1⟩, hend⟩ := HST.out w2 C cc hown hb2
      obtain ⟨hcw, hlw⟩ := HC2.out w2 hb2
      have HEND := Lib.hid hend
      have HRUN := Lib.hid hrun
      clear hend hown hb2 hrun
      refine hK _ _ ?_
      clear hK K
      refine wpAnyIn_ready (rs := [3]) (by kernel_rfl) (by simp) ?_
      refine AllReadyIn.cons rfl (fun K hK => ?_) AllReadyIn.nil
      go_simp
      refine hK _ _ ?_
      clear hK K
      refine wpAnyIn_ready (rs := [4]) (by kernel_rfl) (by simp) ?_
      refine AllReadyIn.cons rfl (fun K hK => ?_) AllReadyIn.nil
      refine opIn_append rfl (.tmp 10) (.tmp 13) rfl (by first | exact HRUN.out | exact HRUN.out) ?_
      refine hK _ _ ?_
      clear hK K
      refine wpAnyIn_ready (rs := [5]) (by kernel_rfl) (by simp) ?_
      refine AllReadyIn.cons rfl (fun K hK => ?_) AllReadyIn.nil
      go_simp
      refine hK _ _ ?_
      clear hK K
      refine wpAnyIn_done (by kernel_rfl) ?_ _
      skip
      gi_wp2_with fail
      exact HEND.out
    · go_simp
      refine hK _ _ ?_
      clear hK K
      refine wpAnyIn_ready (rs := [0, 2]) (by kernel_rfl) (by simp) ?_
      refine AllReadyIn.cons rfl (fun K hK => ?_) (AllReadyIn.cons rfl (fun K hK => ?_) AllReadyIn.nil)
      · go_simp
        refine hK _ _ ?_
        clear hK K
        refine wpAnyIn_ready (rs := [2]) (by kernel_rfl) (by simp) ?_
        refine AllReadyIn.cons rfl (fun K hK => ?_) AllReadyIn.nil
        go_simp
        refine ⟨trivial, ?_⟩
        refine (CallsIn.inRound lk (callsIn_wide.2 HCL.out)).mono ?_
        rintro e w2 ⟨C, cc, rfl, hown, hb2⟩
        obtain ⟨V4, c4, w4, hrun, ⟨hc0, hf0, hc1, hf1⟩, hend⟩ := HST.out w2 C cc hown hb2
        obtain ⟨hcw, hlw⟩ := HC2.out w2 hb2
        have HEND := Lib.hid hend
        have HRUN := Lib.hid hrun
        clear hend hown hb2 hrun
        refine hK _ _ ?_
        clear hK K
        refine wpAnyIn_ready (rs := [3]) (by kernel_rfl) (by simp) ?_
        refine AllReadyIn.cons rfl (fun K hK => ?_) AllReadyIn.nil
        go_simp
        refine hK _ _ ?_
        clear hK K
        refine wpAnyIn_ready (rs := [4]) (by kernel_rfl) (by simp) ?_
        refine AllReadyIn.cons rfl (fun K hK => ?_) AllReadyIn.nil
        refine opIn_append rfl (.tmp 10) (.tmp 13) rfl (by first | exact HRUN.out | exact HRUN.out) ?_
        refine hK _ _ ?_
        clear hK K
        refine wpAnyIn_ready (rs := [5]) (by kernel_rfl) (by simp) ?_
        refine AllReadyIn.cons rfl (fun K hK => ?_) AllReadyIn.nil
        go_simp
        refine hK _ _ ?_
        clear hK K
        refine wpAnyIn_done (by kernel_rfl) ?_ _
        skip
        gi_wp2_with fail
        exact HEND.out
      · go_simp
        refine ⟨trivial, ?_⟩
        refine (CallsIn.inRound lk (callsIn_wide.2 HCL.out)).mono ?_
        rintro e w2 ⟨C, cc, rfl, hown, hb2⟩
        obtain ⟨V4, c4, w4, hrun, ⟨hc0, hf0, hc1, hf1⟩, hend⟩ := HST.out w2 C cc hown hb2
        obtain ⟨hcw, hlw⟩ := HC2.out w2 hb2
        have HEND := Lib.hid hend
        have HRUN := Lib.hid hrun
        clear hend hown hb2 hrun
        refine hK _ _ ?_
        clear hK K
        refine wpAnyIn_ready (rs := [0, 3]) (by kernel_rfl) (by simp) ?_
        refine AllReadyIn.cons rfl (fun K hK => ?_) (AllReadyIn.cons rfl (fun K hK => ?_) AllReadyIn.nil)
        · go_simp
          refine hK _ _ ?_
          clear hK K
          refine wpAnyIn_ready (rs := [3]) (by kernel_rfl) (by simp) ?_
          refine AllReadyIn.cons rfl (fun K hK => ?_) AllReadyIn.nil
          go_simp
          refine hK _ _ ?_
          clear hK K
          refine wpAnyIn_ready (rs := [4]) (by kernel_rfl) (by simp) ?_
          refine AllReadyIn.cons rfl (fun K hK => ?_) AllReadyIn.nil
          refine opIn_append rfl (.tmp 10) (.tmp 13) rfl (by first | exact HRUN.out | exact HRUN.out) ?_
          refine hK _ _ ?_
          clear hK K
          refine wpAnyIn_ready (rs := [5]) (by kernel_rfl) (by simp) ?_
          refine AllReadyIn.cons rfl (fun K hK => ?_) AllReadyIn.nil
          go_simp
          refine hK _ _ ?_
          clear hK K
          refine wpAnyIn_done (by kernel_rfl) ?_ _
          skip
          gi_wp2_with fail
          exact HEND.out
        · go_simp
          refine hK _ _ ?_
          clear hK K
          refine wpAnyIn_ready (rs := [0]) (by kernel_rfl) (by simp) ?_
          refine AllReadyIn.cons rfl (fun K hK => ?_) AllReadyIn.nil
          go_simp
          refine hK _ _ ?_
          clear hK K
          refine wpAnyIn_ready (rs := [4]) (by kernel_rfl) (by simp) ?_
          refine AllReadyIn.cons rfl (fun K hK => ?_) AllReadyIn.nil
          refine opIn_append rfl (.tmp 10) (.tmp 13) rfl (by first | exact HRUN.out | exact HRUN.out) ?_
          refine hK _ _ ?_
          clear hK K
          refine wpAnyIn_ready (rs := [5]) (by kernel_rfl) (by simp) ?_
          refine AllReadyIn.cons rfl (fun K hK => ?_) AllReadyIn.nil
          go_simp
          refine hK _ _ ?_
          clear hK K
          refine wpAnyIn_done (by kernel_rfl) ?_ _
          skip
          gi_wp2_with fail
          exact HEND.out
    -- DNUOR
  case done =>
    rintro D ys W hD ⟨hys1, hys2⟩ ⟨⟨⟨V, k, ps, hv, hrow, hpn, hpl⟩, hi1⟩, hB, hBs⟩ hK
    have hc0 := hv.cell
    have hf0 := hv.frozen
    have hc1 := Boxed.cell hi1
    have hf1 := Boxed.frozen hi1
    rw [hys2] at hc1
    have HV := Lib.hid (And.intro hv (And.intro hrow (And.intro hpn hpl)))
    have HI := Lib.hid hi1
    have HB := Lib.hid (And.intro hB (And.intro hD hsz0))
    have HK := Lib.hid hK
    have HY := Lib.hid (And.intro hys1 hys2)
    have hmo : Tryd.prog.follows .mixedOrders = true := by kernel_rfl
    clear hv hrow hpn hpl hi1 hB hD hK hys1 hys2 hst bO bI bB bI2 bO2 hW0 hB0 hr hb hrd hBs
    gi_wp2_with fail
    gi_region_o
    gi_wp2_with fail
    obtain ⟨hv, hrow, hpn, hpl⟩ := HV.out
    obtain ⟨hB, hD, hsz⟩ := HB.out
    have hi1 := HI.out
    unfold ScanInt at hi1
    rw [HY.out.2] at hi1
    rw [HY.out.1] at hpl
    have hne0 : w.heap.size ≠ D := by omega
    have hne1 : w.heap.size + 1 ≠ D := by omega
    have g5 := grownBy_setCell' W w.heap.size (.slice V ps.length k)
    have v5 := hv.set (.slice V ps.length k)
    have i5 := hi1.kept g5 (by simp)
    have r5 := row_kept hrow g5 fun g cur hvb hgb e => by
      have := (hrow.lt g hvb).1
      injection e with e
      omega
    have p5 := hpn.grown g5 fun g e => .inl (by injection e with e; omega)
    have k5 : (W.setCell ⟨w.heap.size, 0, none⟩ (.slice V ps.length k)).heap[D]? = some (.deferred (some [])) := (KeepsOthers.setCell W ⟨w.heap.size, 0, none⟩ (.slice V ps.length k)).same D _ HK.out rfl
    have b5 : Below w.heap.size w (W.setCell ⟨w.heap.size, 0, none⟩ (.slice V ps.length k)) := hB.grown g5 hB.size fun j e => by injection e with e; omega
    generalize W.setCell ⟨w.heap.size, 0, none⟩ (.slice V ps.length k) = W5 at g5 v5 i5 r5 p5 k5 b5 ⊢
    have g6 := grownBy_setCell' W5 (w.heap.size + 1) (.int .i64 ((forms l).length : Int))
    have i6 := i5.set (.int .i64 ((forms l).length : Int))
    have v6 := v5.kept g6 (by simp)
    have r6 := row_kept r5 g6 fun g cur hvb hgb e => by
      have := (r5.lt g hvb).1
      injection e with e
      omega
    have p6 := p5.grown g6 fun g e => .inl (by injection e with e; omega)
    have k6 : (W5.setCell ⟨w.heap.size + 1, 0, none⟩ (.int .i64 ((forms l).length : Int))).heap[D]? = some (.deferred (some [])) := (KeepsOthers.setCell W5 ⟨w.heap.size + 1, 0, none⟩ (.int .i64 ((forms l).length : Int))).same D _ k5 rfl
    have b6 : Below w.heap.size w (W5.setCell ⟨w.heap.size + 1, 0, none⟩ (.int .i64 ((forms l).length : Int))) := b5.grown g6 b5.size fun j e => by injection e with e; omega
    generalize W5.setCell ⟨w.heap.size + 1, 0, none⟩ (.int .i64 ((forms l).length : Int)) = W6 at g6 v6 i6 r6 p6 k6 b6 ⊢
    have k7 : W6.drew.heap[D]? = some (.deferred (some [])) := k6
    have g7 := grownBy_putObj' W6.drew D (.deferred none)
    have v7 : Boxed (W6.drew.putObj D (.deferred none)) w.heap.size 22 (.slice V ps.length k) := Boxed.kept (W := W6.drew) v6 g7 (by simp [hne0])
    have i7 : Boxed (W6.drew.putObj D (.deferred none)) (w.heap.size + 1) 3 (.int .i64 ((forms l).length : Int)) := Boxed.kept (W := W6.drew) i6 g7 (by simp [hne1])
    have r7 : (W6.drew.putObj D (.deferred none)).ownsRow W0.heap.size 32 1 (.slice V ps.length k) ps.length (ps.map Cr.pv) := row_kept (W := W6.drew) r6 g7 fun g cur _ hgb e => by
      injection e with e
      subst e
      rw [k7] at hgb
      cases hgb
    have p7 : PartsNew W0.heap.size (W6.drew.putObj D (.deferred none)) ps := PartsNew.grown (W := W6.drew) p6 g7 fun g e => .inr fun cur hgb => by
      injection e with e
      subst e
      rw [k7] at hgb
      cases hgb
    have b7 : Below w.heap.size w (W6.drew.putObj D (.deferred none)) := b6.drew.grown g7 b6.size fun j e => by injection e with e; omega
    have c7 := v7.cell
    have d7 := i7.cell
    have hll : ps.length = l.length := by rw [← hpl, List.length_map]
    refine ⟨by simp, .inl ⟨_, _, rfl, run_takeDeferred k7, ?_⟩⟩
    refine ⟨.tuple #[.slice V ps.length k, .int .i64 ((forms l).length : Int)], ?_, ?_⟩
    · have a1 := Tryd.isAgg3
      have a2 := Tryd.isAgg22
      simp [results, Tryd.results16, loadVar, a1, a2, c7, d7, asAddr]
    · rw [hll]
      rw [hll] at r7
      refine ⟨V, k, ps, rfl, ⟨⟨Rd.own r7, fun p hp => ⟨Rd.own (p7 p hp).1, (p7 p hp).2⟩⟩, fun _ ad e => ?_, fun p hp _ ad e => ?_, hpl⟩, b7⟩
      · have := (r7.lt ad.block (by rw [e]; rfl)).1
        omega
      · have := ((p7 p hp).1.lt ad.block (by unfold Cr.pv; rw [e]; rfl)).1
        omega
  case stop =>
    rintro D c pre W _ _ h _
    exact h.elim
end Go.Proofs.YthkbmmebfkaphaaDoor.Lg
