/-
  Texts of earlier layers, as one.
-/
import Derived.Test.YtpalmnjapiijaaaCompAsk
import Derived.Deep.CutRange
/- The program's number: the components by their least nodes. -/
namespace Go.Proofs.Ytpalmnjapiijaaa.Gr
open Go.RowKit Mem Dsk

theorem info_part : (Try.prog.info? 53).map (fun i => (i.zero, i.size, i.bytes)) = some (some (.agg #[.slice none 0 0, .int .i64 0, .int .i64 0, .slice none 0 0, .bool false]), 5, 72) := by kernel_rfl
def nf (no : Nat → Hd) : PF := ⟨no, fun _ => 0, fun _ => 0, fun _ => (none, 0, 0), fun _ => false⟩
section
variable {w0 w w1 w' : World} {A : Option Addr} {n c p bo g cg : Nat} {col col' : Nat → Nat} {of : Nat → Nat} {f : PF} {K : Nat} {NL BL : Nat → List Nat} {Af : Option Addr} {cf : Nat} {F : List Nat}
theorem RM.side {Kq : Nat → Prop} (h : RM w0 A n c p bo g cg w col of f K NL BL Af cf F) (ht : Hq.Trn Kq w col w' col') (hq : ∀ q, Kq q → q = 5 ∨ q = 6 ∨ q = 7) : RM w0 A n c p bo g cg w' col' of f K NL BL Af cf F := by
  have hn : ∀ q, q ≠ 5 → q ≠ 6 → q ≠ 7 → ¬ Kq q := fun q h1 h2 h3 h => by rcases hq q h with h | h | h <;> omega
  have h0 := hn 0 (by omega) (by omega) (by omega)
  exact ⟨ht.below h.bel h.lo h0, ⟨ht.lo h.lo h.bel.size, ht.cl h.hn.pc (by omega), ht.hblk h.hn.box h.hn.pc (hn 1 (by omega) (by omega) (by omega)), ht.own h.hn.row (hn 4 (by omega) (by omega) (by omega)) (by omega)⟩, ht.cl h.oc (by omega), ht.cl h.gc (by omega), ht.row h.ofr h.oc (hn 2 (by omega) (by omega) (by omega)),
    h.prt.keep (ht.blk g h.prt.lt (by rw [h.gc]; exact hn 3 (by omega) (by omega) (by omega))), fun k hk => ht.own (h.nod k hk) (hn _ (by omega) (by omega) (by omega)) (by omega), fun k hk => ht.own (h.beh k hk) (hn _ (by omega) (by omega) (by omega)) (by omega)⟩
theorem RM.setOf (h : RM w0 A n c p bo g cg w col of f K NL BL Af cf F) (j x : Nat) : RM w0 A n c p bo g cg (w.setCell ⟨bo, j, none⟩ (.int .i64 (x : Int))) col (upd of j x) f K NL BL Af cf F := by
  have t : Turns 2 w col _ col := Turns.set (w := w) (i := j) h.oc (.int .i64 (x : Int))
  exact ⟨t.below h.bel h.lo (by omega), ⟨t.lo h.lo h.bel.size, h.hn.pc, t.hblk h.hn.box h.hn.pc (by omega), t.own h.hn.row (by omega) (by omega)⟩, h.oc, h.gc, nrow_set h.ofr, h.prt.keep (t.blk g h.prt.lt (by rw [h.gc]; omega)), fun k hk => t.own (h.nod k hk) (by omega) (by omega), fun k hk => t.own (h.beh k hk) (by omega) (by omega)⟩
theorem RM.nl {NL' : Nat → List Nat} (h : RM w0 A n c p bo g cg w col of f K NL BL Af cf F) (hn : ∀ k, k < K → NL' k = NL k) : RM w0 A n c p bo g cg w col of f K NL' BL Af cf F := ⟨h.bel, h.hn, h.oc, h.gc, h.ofr, h.prt, fun k hk => by rw [hn k hk]; exact h.nod k hk, h.beh⟩
theorem pts_nf {no : Nat → Hd} {K : Nat} (x : Hd) : pts (nf (upd no K x)) (K + 1) = pts (nf no) K ++ [⟨x, 0, 0, (none, 0, 0), false⟩] := by
  rw [pts_succ]
  congr 1
  · refine pts_congr fun j hj => ?_
    unfold pt nf
    simp only [upd_other (show j ≠ K by omega)]
  · unfold pt nf
    simp only [upd_same]
/-- One component more. -/
theorem RM.grow {no : Nat → Hd} {w2 : World} {b0 sz c' : Nat} {V : Option Addr} (h : RM w0 A n c p bo g cg w col of (nf no) K NL (fun _ => []) Af cf F) (hb1 : Below w.heap.size w w1) (hb0 : w.heap.size ≤ b0 ∧ b0 < w1.heap.size) (hown0 : w1.ownsRow w0.heap.size 3 LN.s (.slice (some ⟨b0, 0, none⟩) 0 sz) 0 []) (hb2 : Below w1.heap.size w1 w2) (hNL : NL K = [])
    (hown : w'.ownsRow w0.heap.size 53 LP.s (.slice V (K + 1) c') (K + 1) (LP.flat (pts (nf no) K ++ [⟨(some ⟨b0, 0, none⟩, 0, sz), 0, 0, (none, 0, 0), false⟩]))) (hgr : w2.grownBy w' (Value.slice (some ⟨g, 0, none⟩) K cg).ownBlock)
    (hloc : (Value.slice V (K + 1) c').ownBlock = (Value.slice (some ⟨g, 0, none⟩) K cg).ownBlock ∨ (Value.slice V (K + 1) c').ownBlock = some w2.heap.size) :
    Blk w' p 46 #[.slice A n c, .slice (some ⟨bo, 0, none⟩) n n, .slice (some ⟨g, 0, none⟩) K cg, .slice Af F.length cf] ∧ ∃ col' g', V = some ⟨g', 0, none⟩ ∧ RM w0 A n c p bo g' c' (w'.setCell ⟨p, 2, none⟩ (.slice V (K + 1) c')) col' of (nf (upd no K (some ⟨b0, 0, none⟩, 0, sz))) (K + 1) NL (fun _ => []) Af cf F ∧ Hq.Trn KA w col (w'.setCell ⟨p, 2, none⟩ (.slice V (K + 1) c')) col' := by
  obtain ⟨g', c1, hV, hBg, _, hnc, hH⟩ := Hdr.of_own hown (by omega)
  have hV' : V = some ⟨g', 0, none⟩ ∧ c' = c1 := by injection hV with h1 _ h3; exact ⟨h1, h3⟩
  obtain ⟨rfl, rfl⟩ := hV'
  have hg0 : (Value.slice (some ⟨g, 0, none⟩) K cg).ownBlock = some g := rfl
  have hs1 := hb1.size
  have hs2 := hb2.size
  have hs3 := hgr.size
  have hgw := h.prt.lt
  -- the new row's colour
  have t1 : Hq.Trn (fun _ => False) w col w1 (upd col b0 (10 + 2 * K)) := ⟨hb1.os, hb1.tape, hb1.output, hb1.size, fun b hb => upd_other (by have := (h.lo b hb).2; omega), fun b hb => by
    by_cases e1 : b = b0
    · rw [e1]; exact .inr hb0
    · rw [upd_other e1] at hb; exact .inl hb, fun b hb _ => hb1.block b hb⟩
  have l1 := t1.lo h.lo h.bel.size
  have gc1 := t1.cl h.gc (by omega)
  have hc0 : upd col b0 (10 + 2 * K) b0 = 10 + 2 * K := upd_same ..
  -- the parts' colour
  have hg3 : ∃ col3, Turns 3 w1 (upd col b0 (10 + 2 * K)) w' col3 ∧ col3 g' = 3 := by
    have hblk : ∀ b, b < w1.heap.size → upd col b0 (10 + 2 * K) b ≠ 3 → w'.heap[b]? = w1.heap[b]? := fun b hlt hn => (hgr.block b (by omega) fun e => hn (by rw [hg0] at e; injection e with e; rw [e]; exact gc1)).trans (hb2.block b hlt)
    rcases hloc with h1 | h1
    · have : g' = g := by rw [hg0] at h1; injection h1
      exact ⟨_, ⟨hgr.os.trans hb2.os, hgr.tape.trans hb2.tape, hgr.output.trans hb2.output, by omega, fun _ _ => rfl, fun _ h => .inl h, hblk⟩, by rw [this]; exact gc1⟩
    · have hg2 : g' = w2.heap.size := by injection h1
      refine ⟨upd (upd col b0 (10 + 2 * K)) g' 3, ⟨hgr.os.trans hb2.os, hgr.tape.trans hb2.tape, hgr.output.trans hb2.output, by omega, fun b hb => upd_other (by have := (l1 b hb).2; omega), fun b hb => ?_, hblk⟩, upd_same ..⟩
      by_cases e1 : b = g'
      · rw [e1]
        exact .inr ⟨by omega, hH.lt⟩
      · rw [upd_other e1] at hb
        exact .inl hb
  obtain ⟨col3, t3, hg3⟩ := hg3
  have pc3 := t3.cl (t1.cl h.hn.pc (by omega)) (by omega)
  have hbox3 := t3.hblk (t1.hblk h.hn.box h.hn.pc (fun h => h)) (t1.cl h.hn.pc (by omega)) (by omega)
  have t4 : Turns 1 w' col3 (w'.setCell ⟨p, 2, none⟩ (.slice (some ⟨g', 0, none⟩) (K + 1) c')) col3 := Turns.set pc3 _
  have b1 := t1.below h.bel h.lo (fun h => h)
  have b3 := t3.below b1 l1 (by omega)
  have l3 := t3.lo l1 b1.size
  have tt : ∀ {k' : Nat} {A' : Option Addr} {m d : Nat} {x : List Int}, Own1 w w0.heap.size col k' A' m d x → k' = 4 ∨ 10 ≤ k' → Own1 (w'.setCell ⟨p, 2, none⟩ (.slice (some ⟨g', 0, none⟩) (K + 1) c')) w0.heap.size col3 k' A' m d x := fun ho hk => t4.own (t3.own (t1.own ho (fun h => h) (by omega)) (by omega) (by omega)) (by omega) (by omega)
  refine ⟨hbox3, col3, g', rfl, ⟨t4.below b3 l3 (by omega), ⟨t4.lo l3 b3.size, pc3, ?_, tt h.hn.row (.inl rfl)⟩, t3.cl (t1.cl h.oc (by omega)) (by omega), hg3, ?_, ?_, fun k hk => ?_, fun k hk => Own1.nil _ _ _ _⟩, ?_⟩
  · exact by simpa using hbox3.put 2 (.slice (some ⟨g', 0, none⟩) (K + 1) c')
  · exact t4.row (t3.row (t1.row h.ofr h.oc (fun h => h)) (t1.cl h.oc (by omega)) (by omega)) (t3.cl (t1.cl h.oc (by omega)) (by omega)) (by omega)
  · rw [pts_nf]
    exact hH.keep (t4.blk g' hH.lt (by rw [hg3]; omega))
  · by_cases e1 : k = K
    · subst e1
      have ho : Own1 w1 w0.heap.size (upd col b0 (10 + 2 * k)) (10 + 2 * k) (some ⟨b0, 0, none⟩) 0 sz (toZ (NL k)) := by
        rw [hNL]
        exact ⟨hown0, fun b hb => by
          have : b0 = b := by injection hb
          rw [← this]; exact hc0⟩
      have := t4.own (t3.own ho (by omega) (by omega)) (by omega) (by omega)
      unfold nf
      simp only [upd_same]
      exact this
    · have := tt (h.nod k (by omega)) (.inr (by omega))
      unfold nf
      simp only [upd_other e1]
      exact this
  · exact ((t1.mono fun _ h => h.elim).trans (Hq.Trn.of (K := KA) t3 (by unfold KA; omega)) ka0).trans (Hq.Trn.of (K := KA) t4 (by unfold KA; omega)) ka0
end
/-- The first loop: how many nodes each has. -/
def S1Rel (w : World) (b6 n ct : Nat) (_ v17 : Value) (wr : World) : Prop := ∃ (i : Nat) (sz : Nat → Nat), v17 = .int .i64 (i : Int) ∧ i ≤ n ∧ (∀ c, sz c ≤ i) ∧ wr.rowIs b6 3 ct (nrow sz) ∧ Below w.heap.size w wr
/-- The second loop. -/
def NuRel (w0 : World) (A : Option Addr) (n c p bo : Nat) (e : Graph) (ids : Nat → Nat) (b6 b7 ct : Nat) (sz : Nat → Nat) (_ _ _ v32 : Value) (wr : World) : Prop := ∃ (i g cg : Nat) (col ofn : Nat → Nat) (no : Nat → Hd) (md : Nat → Nat), v32 = .int .i64 (i : Int) ∧ i ≤ n ∧ RM w0 A n c p bo g cg wr col ofn (nf no) (kc e i) (nd e i) (fun _ => []) none 0 [] ∧ col b6 = 6 ∧ wr.rowIs b6 3 ct (nrow sz) ∧ col b7 = 7 ∧ wr.rowIs b7 3 ct (nrow md) ∧
  (∀ v, v < i → md (ids v) = rk e v + 1) ∧ (∀ x, (∀ v, v < i → ids v ≠ x) → md x = 0) ∧ ∀ v, v < i → ofn v = rk e v
/-- .. behind its if. -/
def NuMid (w0 : World) (A : Option Addr) (n c p bo : Nat) (e : Graph) (ids : Nat → Nat) (b6 b7 ct : Nat) (sz : Nat → Nat) (ofn : Nat → Nat) (i : Nat) (wr : World) : Prop := ∃ (g cg : Nat) (col : Nat → Nat) (no : Nat → Hd) (md : Nat → Nat), RM w0 A n c p bo g cg wr col ofn (nf no) (kc e (i + 1)) (nd e i) (fun _ => []) none 0 [] ∧ col b6 = 6 ∧ wr.rowIs b6 3 ct (nrow sz) ∧ col b7 = 7 ∧ wr.rowIs b7 3 ct (nrow md) ∧
  (∀ v, v < i + 1 → md (ids v) = rk e v + 1) ∧ (∀ x, (∀ v, v < i + 1 → ids v ≠ x) → md x = 0) ∧ ∀ v, v < i → ofn v = rk e v
/-- What number leaves. -/
def NuPost (w0 : World) (A : Option Addr) (n c p bo : Nat) (e : Graph) (x : Ending) (w' : World) : Prop := x = .returned (.tuple #[]) ∧ ∃ (g cg : Nat) (col : Nat → Nat) (no : Nat → Hd), RM w0 A n c p bo g cg w' col (rk e) (nf no) (kc e n) (nd e n) (fun _ => []) none 0 []
theorem RM.ofc {w0 w : World} {A : Option Addr} {n c p bo g cg : Nat} {col of of' : Nat → Nat} {f : PF} {K : Nat} {NL BL : Nat → List Nat} {Af : Option Addr} {cf : Nat} {F : List Nat} (h : RM w0 A n c p bo g cg w col of f K NL BL Af cf F) (ho : ∀ v, v < n → of v = of' v) : RM w0 A n c p bo g cg w col of' f K NL BL Af cf F :=
  ⟨h.bel, h.hn, h.oc, h.gc, h.ofr.congr fun i hi => by unfold nrow; rw [ho i hi], h.prt, h.nod, h.beh⟩
set_option maxRecDepth 20000 in
set_option maxHeartbeats 16000000 in
theorem number_any {w0 w : World} {A : Option Addr} {n c p bo g cg ct b0 : Nat} {e : Graph} {col ofn : Nat → Nat} {no : Nat → Hd} (ids : Nat → Nat) (hln : e.length = n) (hn : n ≤ 900000) (hct : ct ≤ n) (hid : ∀ v, v < n → ids v < ct) (hmu : ∀ u v, u < n → v < n → (ids u = ids v ↔ mutu e u v = true)) (hof : w0.rowIs b0 3 n (nrow ids)) (h : RM w0 A n c p bo g cg w col ofn (nf no) 0 (nd e 0) (fun _ => []) none 0 []) :
    Calls Try.prog 21 #[ptr p, .slice (some ⟨b0, 0, none⟩) n n, .int .i64 (ct : Int)] w (NuPost w0 A n c p bo e) := by
  have hmk := run_make_row' (P := Try.prog) 27 3 (.int .i64 0) 8 Try.underlying27 info_int rfl .i64 .i64 ct (by omega) (by omega)
  have HI := Lib.hid (And.intro hln (And.intro hn (And.intro hct (And.intro hid (And.intro hmu (And.intro hof h))))))
  clear hof h hmu hid
  unfold ptr
  go_enter Try.func21, Try.ntmps21
  go_upto_region 1 with fail
  obtain ⟨W1, hW1⟩ : ∃ v, w.alloc (.cells (madeCells #[.int .i64 0] ct) 3) = v := ⟨_, rfl⟩
  obtain ⟨b6, hb6⟩ : ∃ v, w.heap.size = v := ⟨_, rfl⟩
  have hbw1 : Below w.heap.size w W1 := by rw [← hW1]; exact bel_alloc (Below.refl _ _) _
  have hr1 : W1.rowIs b6 3 ct (nrow fun _ => 0) := by rw [← hW1, ← hb6]; exact World.rowIs_made w (.int .i64 0) ct 3
  have HST := Lib.hid (show S1Rel w b6 n ct undef (.int .i64 ((0 : Nat) : Int)) W1 from ⟨0, fun _ => 0, rfl, Nat.zero_le _, fun _ => Nat.le_refl _, hr1, hbw1⟩)
  have HB6 := Lib.hid hb6
  rw [hW1, hb6]
  clear hW1 hbw1 hr1
  go_wp2_with fail
  go_loopw [8, 17] (S1Rel w b6 n ct) (fun _ v _ => n - (intOf v).toNat)
  case atStart => simpa using HST.out
  case round =>
    rename World => wo
    obtain ⟨i, sz, rfl, hi, hsz, hrow, hbo⟩ := hrel
    clear HST
    by_cases hin : i < n
    · obtain ⟨cc, hcc⟩ : ∃ y, ids i = y := ⟨_, rfl⟩
      have hcl : cc < ct := by rw [← hcc]; exact HI.out.2.2.2.1 i hin
      have hof := HI.out.2.2.2.2.2.1
      have hbb : Below w0.heap.size w0 wo := HI.out.2.2.2.2.2.2.bel.trans (hbo.mono HI.out.2.2.2.2.2.2.bel.size)
      have q1 := nrow_at (hof.of_block (hbb.block b0 hof.lt)) hin hcc
      obtain ⟨s, hs⟩ : ∃ y, sz cc = y := ⟨_, rfl⟩
      have q2 := nrow_at hrow hcl hs
      have f2 := hrow.frozen cc
      have hsi := hsz cc
      rw [hs] at hsi
      have hws : IntKind.i64.wrap ((s : Int) + 1) = (s : Int) + 1 := wr64 (by omega) (by omega)
      have hwi : IntKind.i64.wrap ((i : Int) + 1) = (i : Int) + 1 := wr64 (by omega) (by omega)
      have HF := Lib.hid (show ∀ x, S1Rel w b6 n ct x (.int .i64 ((i + 1 : Nat) : Int)) (wo.setCell ⟨b6, cc, none⟩ (.int .i64 ((s : Int) + 1))) from fun _ => ⟨i + 1, upd sz cc (s + 1), rfl, hin, fun x => by
        by_cases ex : x = cc
        · rw [ex, upd_same]; omega
        · rw [upd_other ex]; have := hsz x; omega, nrow_set (x := s + 1) hrow, hbo.setCell (p := ⟨b6, cc, none⟩) (Nat.le_of_eq HB6.out) _⟩)
      clear hsz hrow hbo hof hbb hcc hs hsi
      go_wp2_with fail
      go_roundw
      case rel => simpa using HF.out _
      case measure =>
        simp [intOf]
        omega
    · have hin' : ¬ ((i : Int) < (n : Int)) := by omega
      have hie : i = n := by omega
      have hmk := run_make_row' (P := Try.prog) 27 3 (.int .i64 0) 8 Try.underlying27 info_int rfl .i64 .i64 ct (by omega) (by omega)
      have HSZ := Lib.hid (show ∀ x, sz x ≤ n from fun x => by rw [← hie]; exact hsz x)
      have HO := Lib.hid (And.intro hrow hbo)
      clear hrow hbo hsz hie hi
      go_upto_region 7 with fail
      obtain ⟨W2, hW2⟩ : ∃ v, wo.alloc (.cells (madeCells #[.int .i64 0] ct) 3) = v := ⟨_, rfl⟩
      obtain ⟨b7, hb7⟩ : ∃ v, wo.heap.size = v := ⟨_, rfl⟩
      have hbw2 : Below wo.heap.size wo W2 := by rw [← hW2]; exact bel_alloc (Below.refl _ _) _
      have hr7 : W2.rowIs b7 3 ct (nrow fun _ => 0) := by rw [← hW2, ← hb7]; exact World.rowIs_made wo (.int .i64 0) ct 3
      have hr6 := HO.out.1.of_block (hbw2.block b6 HO.out.1.lt)
      have hs0 : W2.heap.size = wo.heap.size + 1 := by rw [← hW2]; simp
      rw [hW2, hb7]
      have hRM := HI.out.2.2.2.2.2.2
      have h67 : b6 < b7 := by rw [← hb7]; exact HO.out.1.lt
      have htrn : Hq.Trn (fun _ => False) w col W2 (upd (upd col b6 6) b7 7) := by
        have hb2 := HO.out.2.trans (hbw2.mono HO.out.2.size)
        have hb6' := HB6.out
        refine ⟨hb2.os, hb2.tape, hb2.output, hb2.size, fun b hb => ?_, fun b hb => ?_, fun b hb _ => hb2.block b hb⟩
        · have := (hRM.lo b hb).2
          rw [upd_other (by omega), upd_other (by omega)]
        · by_cases e1 : b = b7
          · rw [e1]; exact .inr ⟨by omega, by omega⟩
          · rw [upd_other e1] at hb
            by_cases e2 : b = b6
            · rw [e2]; exact .inr ⟨by omega, by omega⟩
            · rw [upd_other e2] at hb
              exact .inl hb
      have hR2 := hRM.side htrn (fun _ h => h.elim)
      have HI2 := Lib.hid (show NuRel w0 A n c p bo e ids b6 b7 ct sz undef undef undef (.int .i64 ((0 : Nat) : Int)) W2 from ⟨0, g, cg, _, ofn, no, fun _ => 0, rfl, Nat.zero_le _, hR2, by rw [upd_other (by omega), upd_same], hr6, upd_same .., hr7, fun v hv => by omega, fun _ _ => rfl, fun v hv => by omega⟩)
      clear hW2 hb7 hbw2 hr7 hr6 hs0 hRM htrn hR2 hb6 hmk h67
      go_wp2_with fail
      go_loopw [10, 11, 12, 32] (NuRel w0 A n c p bo e ids b6 b7 ct sz) (fun _ _ _ v _ => n - (intOf v).toNat)
      case atStart => simpa using HI2.out
      case round =>
        rename World => wn
        obtain ⟨i, g, cg, col, ofn, no, md, rfl, hi, h1, k6, r6, k7, r7, hm1, hm2, hof⟩ := hrel
        clear HI2
        by_cases hin : i < n
        · obtain ⟨cc, hcc⟩ : ∃ y, ids i = y := ⟨_, rfl⟩
          have hcl : cc < ct := by rw [← hcc]; exact HI.out.2.2.2.1 i hin
          have hil : i < e.length := by omega
          have hof0 := HI.out.2.2.2.2.2.1
          have q1 := nrow_at (hof0.of_block (h1.bel.block b0 hof0.lt)) hin hcc
          have hmu := HI.out.2.2.2.2.1
          clear hof0
          by_cases hle : least e i = true
          · have hmd : md cc = 0 := hm2 cc fun v hv ev => by
              have h2 := (hmu v i (by omega) hin).1 (by rw [ev, hcc])
              have h3 := (hd_in hil).2 v (mutu_symm h2)
              have h4 : hd e i = i := of_decide_eq_true hle
              omega
            have q2 : wn.cell? ⟨b7, cc, none⟩ = some (.int .i64 0) := nrow_at r7 hcl hmd
            obtain ⟨s, hs⟩ : ∃ y, sz cc = y := ⟨_, rfl⟩
            have q3 := nrow_at r6 hcl hs
            have hsn : s ≤ n := by rw [← hs]; exact HSZ.out cc
            obtain ⟨c0, c1, c2, c3⟩ := h1.cells
            have hkr : rk e i = kc e i := rk_least hle
            have hK : kc e (i + 1) = kc e i + 1 := by rw [kc_succ, if_pos hle]
            have hndK : nd e i (kc e i) = [] := by
              unfold nd
              refine List.filter_eq_nil_iff.2 fun v hv => ?_
              have hv := List.mem_range.1 hv
              have := rk_lt (e := e) (v := v) (i := i) (by omega) hv
              simp
              omega
            have hki := kc_le (e := e) i
            obtain ⟨K, hKK⟩ : ∃ y, kc e i = y := ⟨_, rfl⟩
            rw [hKK] at hkr hK hndK hki h1 c2
            have hmkc : ∀ W : World, (Instr.makeSlice 27 (.int .i64 0) (.int .i64 (s : Int))).run Try.prog W = .ok (.slice (some ⟨W.heap.size, 0, none⟩) 0 s) (W.alloc (.cells (madeCells #[.int .i64 0] s) 3)) := fun W => by
              obtain ⟨i0, hi0, hz0, hz1, hz2⟩ := info_parts info_int
              have := run_make (P := Try.prog) W 27 3 i0 (.int .i64 0) Try.underlying27 hi0 hz0 .i64 .i64 0 (s : Int) (by omega) (by omega) (by rw [hz2]; omega) (by omega)
              rw [hz1] at this
              simpa [Value.cells] using this
            have hb1 : Below wn.heap.size wn (wn.drew.alloc (.cells (madeCells #[.int .i64 0] s) 3)) := bel_alloc (Below.drew (Below.refl _ _)) _
            have hb2 : Below (wn.drew.alloc (.cells (madeCells #[.int .i64 0] s) 3)).heap.size (wn.drew.alloc (.cells (madeCells #[.int .i64 0] s) 3)) ((wn.drew.alloc (.cells (madeCells #[.int .i64 0] s) 3)).alloc (.cells (LP.enc ⟨(some ⟨wn.heap.size, 0, none⟩, 0, s), 0, 0, (none, 0, 0), false⟩).toArray 53)) := bel_alloc (Below.refl _ _) _
            have hlit : Rw LP ((wn.drew.alloc (.cells (madeCells #[.int .i64 0] s) 3)).alloc (.cells (LP.enc ⟨(some ⟨wn.heap.size, 0, none⟩, 0, s), 0, 0, (none, 0, 0), false⟩).toArray 53)) (some ⟨wn.heap.size + 1, 0, none⟩) 1 1 [⟨(some ⟨wn.heap.size, 0, none⟩, 0, s), 0, 0, (none, 0, 0), false⟩] := by
              have := Rw.lit (L := LP) (wn.drew.alloc (.cells (madeCells #[.int .i64 0] s) 3)) ⟨(some ⟨wn.heap.size, 0, none⟩, 0, s), 0, 0, (none, 0, 0), false⟩ 53
              rw [size_alloc] at this
              exact this
            have hsz0 : wn.heap.size < (wn.drew.alloc (.cells (madeCells #[.int .i64 0] s) 3)).heap.size := by rw [size_alloc]; exact Nat.lt_succ_self _
            have hgB : w0.heap.size ≤ g := (h1.lo g (by rw [h1.gc]; omega)).1
            obtain ⟨i0, hi0, hz0, hz1, hz2⟩ := info_parts info_part
            obtain ⟨V, c', u3, hrun, hown, hgr, hloc⟩ := run_append_rw (L := LP) (ty := 43) (bytes := 72) Try.underlying43 hi0 hz0 hz1 hz2 rfl (ownsRow_below (h1.prt.own (pts_len _ _) w0.heap.size hgB) (bel_trans hb1 hb2)) hlit (by unfold maxLen; omega) (by omega) (Nat.le_trans h1.bel.size (Nat.le_trans hb1.size hb2.size))
            have hown0 : (wn.drew.alloc (.cells (madeCells #[.int .i64 0] s) 3)).ownsRow w0.heap.size 3 LN.s (.slice (some ⟨wn.heap.size, 0, none⟩) 0 s) 0 [] := ⟨rfl, .inr ⟨wn.heap.size, s, madeCells #[.int .i64 0] s, rfl, h1.bel.size, heap_alloc_new wn.drew _, Nat.zero_le _, by unfold maxLen; omega, by simp [madeCells, LN], by simp⟩⟩
            obtain ⟨hbox, col4, g', hV, hR4, ht4⟩ := h1.grow hb1 ⟨Nat.le_refl _, hsz0⟩ hown0 hb2 hndK hown hgr hloc
            subst hV
            have c2u : u3.cell? ⟨p, 2, none⟩ = some (.slice (some ⟨g, 0, none⟩) K cg) := by rw [hbox.cell]; rfl
            have f2u := hbox.soft 2
            have hrun' : (Builtin.append_ #[43, 43] 43 #[.slice (some ⟨g, 0, none⟩) K cg, .slice (some ⟨wn.heap.size + 1, 0, none⟩) 1 1]).run Try.prog ((wn.drew.alloc (.cells (madeCells #[.int .i64 0] s) 3)).alloc (.cells (LP.enc ⟨(some ⟨wn.heap.size, 0, none⟩, 0, s), 0, 0, (none, 0, 0), false⟩).toArray 53)) = .ok (.slice (some ⟨g', 0, none⟩) (K + 1) c') u3 := hrun
            have hpl : p < wn.heap.size := h1.hn.box.lt
            have h6l : b6 < wn.heap.size := r6.lt
            obtain ⟨U3, hU3⟩ : ∃ y, u3.setCell ⟨p, 2, none⟩ (.slice (some ⟨g', 0, none⟩) (K + 1) c') = y := ⟨_, rfl⟩
            have HU3 := Lib.hid hU3
            clear hU3
            have HRUN := Lib.hid hrun'
            have HG := Lib.hid (And.intro hR4 (And.intro ht4 (And.intro (ht4.row r6 k6 (by unfold KA; omega)) (ht4.row r7 k7 (by unfold KA; omega)))))
            have HC := Lib.hid (show ids i < ct ∧ ids i = cc from ⟨by rw [hcc]; exact hcl, hcc⟩)
            have HK := Lib.hid (And.intro hkr (And.intro hK (And.intro k6 k7)))
            have HMD := Lib.hid (And.intro hm1 (And.intro hm2 hof))
            have HMZ := Lib.hid hmd
            clear h1 k6 r6 k7 r7 hm1 hm2 hof hmu hcc hle hkr hK hndK hb1 hb2 hlit hsz0 hgB i0 hi0 hz0 hz1 hz2 hrun hrun' hown hgr hloc hown0 hbox hR4 ht4 hKK hmd hs c0 c1 c3
            go_upto_region 11 with fail
            go_cut [] from 42 to 56 (fun wx => wx = U3)
            case first =>
              go_region_law (refine step_append_row rfl (.tmp 46) (.tmp 53) rfl HRUN.out ?_)
              all_goals go_wp2_with fail
              all_goals go_meet
              all_goals exact HU3.out
            case rest =>
              have hcut : wc = U3 := hcut
              subst hcut
              obtain ⟨h3, ht3, r6, r7⟩ := HG.out
              rw [HU3.out] at h3 ht3 r6 r7
              obtain ⟨c0, c1, c2, c3⟩ := h3.cells
              have q4 := nrow_at r7 hcl HMZ.out
              have f4 := r7.frozen cc
              have k6 := ht3.cl HK.out.2.2.1 (by omega)
              have k7 := ht3.cl HK.out.2.2.2 (by omega)
              have t7 : Turns 7 wc col4 (wc.setCell ⟨b7, cc, none⟩ (.int .i64 (((K + 1 : Nat)) : Int))) col4 := Turns.set k7 _
              have h4 := h3.side (Hq.Trn.of (K := fun q => q = 7) t7 rfl) (fun q hq => .inr (.inr hq))
              have hms := HMD.out
              have HMID := Lib.hid (show NuMid w0 A n c p bo e ids b6 b7 ct sz ofn i (wc.setCell ⟨b7, cc, none⟩ (.int .i64 ((K : Int) + 1))) from by
                refine ⟨g', c', col4, _, upd md cc (K + 1), by rw [HK.out.2.1]; exact h4, k6, t7.row r6 k6 (by omega), k7, nrow_set r7, fun v hv => ?_, fun x hx => ?_, hms.2.2⟩
                · by_cases ev : ids v = cc
                  · have hvi : rk e v = rk e i := by
                      refine (rk_iff (by omega) hil).2 ((HI.out.2.2.2.2.1 v i (by omega) hin).1 ?_)
                      rw [ev, HC.out.2]
                    rw [ev, upd_same, hvi, HK.out.1]
                  · rw [upd_other ev]
                    exact hms.1 v (by
                      have : v ≠ i := fun e1 => ev (by rw [e1, HC.out.2])
                      omega)
                · have hxc : x ≠ cc := fun e1 => hx i (Nat.lt_succ_self i) (by rw [HC.out.2, e1])
                  rw [upd_other hxc]
                  exact hms.2.1 x fun v hv => hx v (by omega))
              clear h3 ht3 r6 r7 k6 k7 t7 h4 hms c0 c1 c3 q2 q3 c2u f2u
              go_upto_region 13 with fail
              obtain ⟨W4, hW4⟩ : ∃ y, wc.setCell ⟨b7, cc, none⟩ (.int .i64 ((K : Int) + 1)) = y := ⟨_, rfl⟩
              rw [hW4] at HMID ⊢
              clear hW4 c2 q4 f4
              have hlr : rk e i < kc e (i + 1) := rk_lt hil (Nat.lt_succ_self i)
              obtain ⟨gx, cgx, colx, nox, mdx, h4, k6, r6, k7, r7, hm1, hm2, hof⟩ := HMID.out
              obtain ⟨r, hr⟩ : ∃ y, rk e i = y := ⟨_, rfl⟩
              obtain ⟨K, hK⟩ : ∃ y, kc e (i + 1) = y := ⟨_, rfl⟩
              rw [hr, hK] at hlr
              rw [hK] at h4
              obtain ⟨c0, c1, c2, c3⟩ := h4.cells
              have f1 := h4.ofr.frozen i
              have o1 := h4.ofr.cell hin
              have q1 := nrow_at r7 HC.out.1 (hm1 i (Nat.lt_succ_self i))
              rw [hr, HC.out.2] at q1
              have hrn : r < n := by have := kc_le (e := e) (i + 1); omega
              have q1' : W4.cell? ⟨b7, cc, none⟩ = some (.int .i64 ((r : Int) + 1)) := q1
              have hwr : IntKind.i64.wrap ((r : Int) + 1 - 1) = (r : Int) := by rw [show (r : Int) + 1 - 1 = (r : Int) by omega]; exact wr64 (by omega) (by have := kc_le (e := e) (i + 1); omega)
              have hwr' : wrap64 (r : Int) = (r : Int) := by unfold wrap64; have := kc_le (e := e) (i + 1); omega
              have h5 := h4.setOf i r
              have HX := Lib.hid (And.intro k6 (And.intro k7 (And.intro hm1 (And.intro hm2 (And.intro hof (And.intro hr hK))))))
              have HR := Lib.hid (And.intro r6 r7)
              have hne : ¬ bo = b7 := cne h4.oc k7 (by decide)
              have H5 := Lib.hid h5
              have OC := Lib.hid (And.intro h4.oc h4.gc)
              clear h4 h5 k6 r6 k7 r7 hm1 hm2 hof hr hK q1 HMID c0 c2 c3
              go_region
              obtain ⟨W5, hW5⟩ : ∃ y, (W4.setCell ⟨bo, i, none⟩ (.int .i64 (r : Int))).drew = y := ⟨_, rfl⟩
              have hb5 : Below (W4.setCell ⟨bo, i, none⟩ (.int .i64 (r : Int))).heap.size (W4.setCell ⟨bo, i, none⟩ (.int .i64 (r : Int))) W5 := by rw [← hW5]; exact Below.drew (Below.refl _ _)
              have h5 := H5.out.turn hb5
              have r6 := (HR.out.1.setOther (a := ⟨bo, i, none⟩) (cne HX.out.1 OC.out.1 (by decide)) (.int .i64 (r : Int))).of_block (hb5.block b6 (by have := HR.out.1.lt; simpa using this))
              have r7 := (HR.out.2.setOther (a := ⟨bo, i, none⟩) (cne HX.out.2.1 OC.out.1 (by decide)) (.int .i64 (r : Int))).of_block (hb5.block b7 (by have := HR.out.2.lt; simpa using this))
              rw [hW5]
              clear hW5 hb5 H5 HR c1 f1 o1 q1' hwr hwr' hne
              obtain ⟨c0, c1, c2, c3⟩ := h5.cells
              have o1 := nrow_at h5.ofr hin (upd_same _ i r)
              have H5 := Lib.hid h5
              have HR := Lib.hid (And.intro r6 r7)
              clear h5 r6 r7 c0 c3
              go_upto_region 14 with fail
              go_quiet (fail)
              obtain ⟨W6, hW6⟩ : ∃ y, W5.drewN nq = y := ⟨_, rfl⟩
              have hb6 : Below W5.heap.size W5 W6 := by rw [← hW6]; exact below_drewN (Below.refl _ _) _
              have h6 := H5.out.turn hb6
              have r6 := HR.out.1.of_block (hb6.block b6 HR.out.1.lt)
              have r7 := HR.out.2.of_block (hb6.block b7 HR.out.2.lt)
              rw [hW6]
              clear hW6 hb6 H5 HR c1 c2 o1
              obtain ⟨⟨N0, m, cN⟩, hno⟩ : ∃ y, (nf nox).no r = y := ⟨_, rfl⟩
              have hnod := h6.nod r hlr
              rw [hno] at hnod
              have hml : (nd e i r).length = m := by have := hnod.len; rw [toZ_length] at this; exact this
              have hmn : m ≤ 1000000 := by have := nd_len (e := e) i r; omega
              obtain ⟨d0, _, _, _, _⟩ := h6.part hlr
              rw [hno] at d0
              have f0 := h6.soft (r * 5)
              obtain ⟨V, c', u3, col3, hrun, ht3, hr3⟩ := push_run (t := 27) Try.underlying27 hnod h6.lo h6.bel.size hmn 27 i
              obtain ⟨hf1, hf2⟩ := h6.setNo hlr (V := V) (m := m + 1) (c' := c') (N' := nd e i r ++ [i]) ht3 hr3
              have hbl : u3.heap[gx]? = W6.heap[gx]? := ht3.blk gx h6.prt.lt (by rw [h6.gc]; omega)
              have d0u : u3.cell? ⟨gx, r * 5, none⟩ = some (.slice N0 m cN) := (World.cell?_of_block (a := ⟨gx, r * 5, none⟩) hbl).trans d0
              have f0u : u3.frozen? ⟨gx, r * 5, none⟩ = false := (World.frozen?_of_block (a := ⟨gx, r * 5, none⟩) hbl).trans f0
              have e6 := hf2.row (K := KA) r6 HX.out.1 (by unfold KA; omega)
              have e7 := hf2.row (K := KA) r7 HX.out.2.1 (by unfold KA; omega)
              rw [Nat.add_zero] at hf1 hf2 e6 e7
              have hnl : upd (nd e i) r (nd e i r ++ [i]) = nd e (i + 1) := by
                funext k
                rw [nd_succ, HX.out.2.2.2.2.2.1]
                by_cases ek : k = r
                · rw [ek, upd_same, if_pos rfl]
                · rw [upd_other ek, if_neg (fun h => ek h.symm), List.append_nil]
              rw [hnl] at hf1
              have hwi : IntKind.i64.wrap ((i : Int) + 1) = (i : Int) + 1 := wr64 (by omega) (by omega)
              have HF := Lib.hid (show ∀ x y z, NuRel w0 A n c p bo e ids b6 b7 ct sz x y z (.int .i64 ((i + 1 : Nat) : Int)) (u3.setCell ⟨gx, r * 5, none⟩ (.slice V (m + 1) c')) from fun _ _ _ => by
                refine ⟨i + 1, gx, cgx, col3, upd ofn i r, upd nox r (V, m + 1, c'), mdx, rfl, hin, ?_, hf2.cl HX.out.1 (by omega), e6, hf2.cl HX.out.2.1 (by omega), e7, HX.out.2.2.1, HX.out.2.2.2.1, fun v hv => ?_⟩
                · rw [HX.out.2.2.2.2.2.2]
                  exact hf1
                · by_cases ev : v = i
                  · rw [ev, upd_same, HX.out.2.2.2.2.2.1]
                  · rw [upd_other ev]
                    exact HX.out.2.2.2.2.1 v (by omega))
              have HRUN := Lib.hid hrun
              clear h6 r6 r7 hno hnod hml hmn f0 hrun ht3 hr3 hf1 hf2 hbl e6 e7 hnl
              go_wp2_with (at_builtin; refine wpList_append_row rfl (.tmp 92) (.tmp 94) rfl HRUN.out ?_)
              go_roundw
              case rel => exact HF.out _ _ _
              case measure =>
                simp [intOf]
                omega
          · have hK : kc e (i + 1) = kc e i := by rw [kc_succ, if_neg hle]; rfl
            have hhl : hd e i < i := by
              have h3 := hd_le hil
              have h4 : ¬ hd e i = i := fun h => hle (decide_eq_true h)
              omega
            have hih : ids (hd e i) = cc := by
              rw [← hcc]
              exact (hmu (hd e i) i (by omega) hin).2 (hd_in hil).1
            have hrh : rk e (hd e i) = rk e i := (rk_iff (by omega) hil).2 (hd_in hil).1
            have hmd : md cc = rk e i + 1 := by rw [← hih, hm1 _ hhl, hrh]
            have q2 := nrow_at r7 hcl hmd
            have HC := Lib.hid (show ids i < ct ∧ ids i = cc from ⟨by rw [hcc]; exact hcl, hcc⟩)
            have HMID := Lib.hid (show NuMid w0 A n c p bo e ids b6 b7 ct sz ofn i wn from ⟨g, cg, col, no, md, by rw [hK]; exact h1, k6, r6, k7, r7, fun v hv => by
              by_cases ev : v = i
              · rw [ev, hcc]; exact hmd
              · exact hm1 v (by omega), fun x hx => hm2 x fun v hv => hx v (by omega), hof⟩)
            have hz : ((((rk e i + 1 : Nat)) : Int) == 0) = false := by simp; omega
            obtain ⟨rr, hrr⟩ : ∃ y : Nat, rk e i + 1 = y := ⟨_, rfl⟩
            rw [hrr] at q2 hz
            have hz' : ¬ (rr : Int) = 0 := by omega
            clear h1 k6 r6 k7 r7 hm1 hm2 hof hmu hcc hle hK hhl hih hrh hmd hrr
            go_upto_region 13 with fail
            clear q2 hz hz'
            have hlr : rk e i < kc e (i + 1) := rk_lt hil (Nat.lt_succ_self i)
            obtain ⟨gx, cgx, colx, nox, mdx, h4, k6, r6, k7, r7, hm1, hm2, hof⟩ := HMID.out
            obtain ⟨r, hr⟩ : ∃ y, rk e i = y := ⟨_, rfl⟩
            obtain ⟨K, hK⟩ : ∃ y, kc e (i + 1) = y := ⟨_, rfl⟩
            rw [hr, hK] at hlr
            rw [hK] at h4
            obtain ⟨c0, c1, c2, c3⟩ := h4.cells
            have f1 := h4.ofr.frozen i
            have o1 := h4.ofr.cell hin
            have q1 := nrow_at r7 HC.out.1 (hm1 i (Nat.lt_succ_self i))
            rw [hr, HC.out.2] at q1
            have hrn : r < n := by have := kc_le (e := e) (i + 1); omega
            have q1' : wn.cell? ⟨b7, cc, none⟩ = some (.int .i64 ((r : Int) + 1)) := q1
            have hwr : IntKind.i64.wrap ((r : Int) + 1 - 1) = (r : Int) := by rw [show (r : Int) + 1 - 1 = (r : Int) by omega]; exact wr64 (by omega) (by have := kc_le (e := e) (i + 1); omega)
            have hwr' : wrap64 (r : Int) = (r : Int) := by unfold wrap64; have := kc_le (e := e) (i + 1); omega
            have h5 := h4.setOf i r
            have HX := Lib.hid (And.intro k6 (And.intro k7 (And.intro hm1 (And.intro hm2 (And.intro hof (And.intro hr hK))))))
            have HR := Lib.hid (And.intro r6 r7)
            have hne : ¬ bo = b7 := cne h4.oc k7 (by decide)
            have H5 := Lib.hid h5
            have OC := Lib.hid (And.intro h4.oc h4.gc)
            clear h4 h5 k6 r6 k7 r7 hm1 hm2 hof hr hK q1 HMID c0 c2 c3
            go_region
            obtain ⟨W5, hW5⟩ : ∃ y, (wn.setCell ⟨bo, i, none⟩ (.int .i64 (r : Int))).drew = y := ⟨_, rfl⟩
            have hb5 : Below (wn.setCell ⟨bo, i, none⟩ (.int .i64 (r : Int))).heap.size (wn.setCell ⟨bo, i, none⟩ (.int .i64 (r : Int))) W5 := by rw [← hW5]; exact Below.drew (Below.refl _ _)
            have h5 := H5.out.turn hb5
            have r6 := (HR.out.1.setOther (a := ⟨bo, i, none⟩) (cne HX.out.1 OC.out.1 (by decide)) (.int .i64 (r : Int))).of_block (hb5.block b6 (by have := HR.out.1.lt; simpa using this))
            have r7 := (HR.out.2.setOther (a := ⟨bo, i, none⟩) (cne HX.out.2.1 OC.out.1 (by decide)) (.int .i64 (r : Int))).of_block (hb5.block b7 (by have := HR.out.2.lt; simpa using this))
            rw [hW5]
            clear hW5 hb5 H5 HR c1 f1 o1 q1' hwr hwr' hne
            obtain ⟨c0, c1, c2, c3⟩ := h5.cells
            have o1 := nrow_at h5.ofr hin (upd_same _ i r)
            have H5 := Lib.hid h5
            have HR := Lib.hid (And.intro r6 r7)
            clear h5 r6 r7 c0 c3
            go_upto_region 14 with fail
            go_quiet (fail)
            obtain ⟨W6, hW6⟩ : ∃ y, W5.drewN nq = y := ⟨_, rfl⟩
            have hb6 : Below W5.heap.size W5 W6 := by rw [← hW6]; exact below_drewN (Below.refl _ _) _
            have h6 := H5.out.turn hb6
            have r6 := HR.out.1.of_block (hb6.block b6 HR.out.1.lt)
            have r7 := HR.out.2.of_block (hb6.block b7 HR.out.2.lt)
            rw [hW6]
            clear hW6 hb6 H5 HR c1 c2 o1
            obtain ⟨⟨N0, m, cN⟩, hno⟩ : ∃ y, (nf nox).no r = y := ⟨_, rfl⟩
            have hnod := h6.nod r hlr
            rw [hno] at hnod
            have hml : (nd e i r).length = m := by have := hnod.len; rw [toZ_length] at this; exact this
            have hmn : m ≤ 1000000 := by have := nd_len (e := e) i r; omega
            obtain ⟨d0, _, _, _, _⟩ := h6.part hlr
            rw [hno] at d0
            have f0 := h6.soft (r * 5)
            obtain ⟨V, c', u3, col3, hrun, ht3, hr3⟩ := push_run (t := 27) Try.underlying27 hnod h6.lo h6.bel.size hmn 27 i
            obtain ⟨hf1, hf2⟩ := h6.setNo hlr (V := V) (m := m + 1) (c' := c') (N' := nd e i r ++ [i]) ht3 hr3
            have hbl : u3.heap[gx]? = W6.heap[gx]? := ht3.blk gx h6.prt.lt (by rw [h6.gc]; omega)
            have d0u : u3.cell? ⟨gx, r * 5, none⟩ = some (.slice N0 m cN) := (World.cell?_of_block (a := ⟨gx, r * 5, none⟩) hbl).trans d0
            have f0u : u3.frozen? ⟨gx, r * 5, none⟩ = false := (World.frozen?_of_block (a := ⟨gx, r * 5, none⟩) hbl).trans f0
            have e6 := hf2.row (K := KA) r6 HX.out.1 (by unfold KA; omega)
            have e7 := hf2.row (K := KA) r7 HX.out.2.1 (by unfold KA; omega)
            rw [Nat.add_zero] at hf1 hf2 e6 e7
            have hnl : upd (nd e i) r (nd e i r ++ [i]) = nd e (i + 1) := by
              funext k
              rw [nd_succ, HX.out.2.2.2.2.2.1]
              by_cases ek : k = r
              · rw [ek, upd_same, if_pos rfl]
              · rw [upd_other ek, if_neg (fun h => ek h.symm), List.append_nil]
            rw [hnl] at hf1
            have hwi : IntKind.i64.wrap ((i : Int) + 1) = (i : Int) + 1 := wr64 (by omega) (by omega)
            have HF := Lib.hid (show ∀ x y z, NuRel w0 A n c p bo e ids b6 b7 ct sz x y z (.int .i64 ((i + 1 : Nat) : Int)) (u3.setCell ⟨gx, r * 5, none⟩ (.slice V (m + 1) c')) from fun _ _ _ => by
              refine ⟨i + 1, gx, cgx, col3, upd ofn i r, upd nox r (V, m + 1, c'), mdx, rfl, hin, ?_, hf2.cl HX.out.1 (by omega), e6, hf2.cl HX.out.2.1 (by omega), e7, HX.out.2.2.1, HX.out.2.2.2.1, fun v hv => ?_⟩
              · rw [HX.out.2.2.2.2.2.2]
                exact hf1
              · by_cases ev : v = i
                · rw [ev, upd_same, HX.out.2.2.2.2.2.1]
                · rw [upd_other ev]
                  exact HX.out.2.2.2.2.1 v (by omega))
            have HRUN := Lib.hid hrun
            clear h6 r6 r7 hno hnod hml hmn f0 hrun ht3 hr3 hf1 hf2 hbl e6 e7 hnl
            go_wp2_with (at_builtin; refine wpList_append_row rfl (.tmp 92) (.tmp 94) rfl HRUN.out ?_)
            go_roundw
            case rel => exact HF.out _ _ _
            case measure =>
              simp [intOf]
              omega
        · have hin' : ¬ ((i : Int) < (n : Int)) := by omega
          have hie : i = n := by omega
          have HF := Lib.hid (show NuPost w0 A n c p bo e (.returned (.tuple #[])) wn from ⟨rfl, g, cg, col, no, by
            subst hie
            exact h1.ofc hof⟩)
          clear h1 k6 r6 k7 r7 hm1 hm2 hof hie
          go_wp2_with fail
          first | go_end0 | refine bodyPost_ret (results_none rfl _ _ _) rfl ?_
          exact HF.out
end Go.Proofs.Ytpalmnjapiijaaa.Gr
