/-
  Texts of earlier layers, as one.
-/
import Derived.Test.YtpalmnjapiijaaaCompTarMem
import Derived.BigRegion
/- The program's enter: a node is found. -/
namespace Go.Proofs.Ytpalmnjapiijaaa.Gr
open Go.RowKit Mem Dsk

theorem wr64 {x : Int} (h : -9223372036854775808 ≤ x) (h' : x ≤ 9223372036854775807) : IntKind.i64.wrap x = x := by
  simp [IntKind.wrap, IntKind.bits, IntKind.signed]
  omega
theorem up_len : ∀ (l : List Nat) (a b : Nat), l.Pairwise (· < ·) → (∀ x ∈ l, a ≤ x ∧ x < b) → l.length ≤ b - a
  | [], a, b, _, _ => Nat.zero_le _
  | x :: l, a, b, h, hx => by
    have h1 := List.pairwise_cons.1 h
    have h2 := hx x (List.mem_cons_self ..)
    have := up_len l (x + 1) b h1.2 fun y hy => ⟨h1.1 y hy, (hx y (List.mem_cons_of_mem _ hy)).2⟩
    rw [List.length_cons]
    omega
theorem TI.plen {e : Graph} {s : TS} (h : TI e s) : s.path.length ≤ s.count ∧ s.opn.length ≤ s.count := by
  refine ⟨?_, by have := h.few; omega⟩
  have := up_len (s.path.map s.fnd) 1 (s.count + 1) (List.pairwise_map.2 h.psort) fun x hx => by
    obtain ⟨v, hv, rfl⟩ := List.mem_map.1 hx
    have := h.opnF v (h.sub v hv)
    have := h.le v
    omega
  rw [List.length_map] at this
  omega
set_option maxRecDepth 20000 in
set_option maxHeartbeats 4000000 in
theorem enter_any {w0 w : World} {A : Option Addr} {n c p bo bf bl bg j : Nat} {col : Nat → Nat} {Ap Ao : Option Addr} {cp co : Nat} {s : TS} (h : TM w0 A n c p bo bf bl bg w col Ap cp Ao co s) (hj : j < n) (hn : s.count ≤ 1000000) (hl : s.path.length ≤ 1000000 ∧ s.opn.length ≤ 1000000) :
    Calls Try.prog 19 #[ptr p, .int .i64 (j : Int)] w (Left w0 A n c p bo bf bl bg (s.enter j)) := by
  obtain ⟨c0, c1, c2, c3, c4, c5, c6, c7, c8⟩ := h.cells
  have f3 := h.soft 3
  have hw : IntKind.i64.wrap ((s.count : Int) + 1) = (s.count : Int) + 1 := wr64 (by omega) (by omega)
  obtain ⟨cnt, hcnt⟩ : ∃ x, s.count = x := ⟨_, rfl⟩
  obtain ⟨a1, ha1⟩ : ∃ x, s.path.length = x := ⟨_, rfl⟩
  obtain ⟨a2, ha2⟩ : ∃ x, s.opn.length = x := ⟨_, rfl⟩
  have h1 : TM w0 A n c p bo bf bl bg (w.setCell ⟨p, 3, none⟩ (.int .i64 ((cnt : Int) + 1))) col Ap cp Ao co { s with count := cnt + 1 } := h.setCount (cnt + 1)
  rw [hcnt] at c3 hw hn
  rw [ha1] at c1
  rw [ha2] at c2
  rw [ha1, ha2] at hl
  have H1 := Lib.hid h1
  have HS := Lib.hid (And.intro hcnt (And.intro ha1 ha2))
  have HL := Lib.hid (And.intro hl hn)
  clear h h1 hcnt ha1 ha2 hl hn
  unfold ptr
  go_enter Try.func19, Try.ntmps19
  go_upto_region 1 with fail
  obtain ⟨W1, hW1⟩ : ∃ x, w.setCell ⟨p, 3, none⟩ (.int .i64 ((cnt : Int) + 1)) = x := ⟨_, rfl⟩
  have h1 := H1.out
  rw [hW1] at h1 ⊢
  clear c0 c1 c2 c3 c4 c5 c6 c7 c8 f3 H1
  obtain ⟨c0, c1, c2, c3, c4, c5, c6, c7, c8⟩ := h1.cells
  have q1 := h1.fnd.cell hj
  have q2 := h1.low.cell hj
  have g1 := h1.fnd.frozen j
  have g2 := h1.low.frozen j
  have hne : ¬ bf = bl := cne h1.fc h1.lc (by omega)
  have hne' : ¬ bl = bf := cne h1.lc h1.fc (by omega)
  have h2 : TM w0 A n c p bo bf bl bg ((W1.setCell ⟨bf, j, none⟩ (.int .i64 ((cnt : Int) + 1))).setCell ⟨bl, j, none⟩ (.int .i64 ((cnt : Int) + 1))) col Ap cp Ao co { s with count := cnt + 1, fnd := upd s.fnd j (cnt + 1), low := upd s.low j (cnt + 1) } := (h1.setFnd j (cnt + 1)).setLow j (cnt + 1)
  have c3' : W1.cell? ⟨p, 3, none⟩ = some (.int .i64 ((cnt : Int) + 1)) := c3
  simp only [HS.out.2.1] at c1
  simp only [HS.out.2.2] at c2
  have H2 := Lib.hid h2
  clear h1 h2 c3
  go_upto_region 1 with fail
  go_region
  obtain ⟨W2, hW2⟩ : ∃ x, ((W1.setCell ⟨bf, j, none⟩ (.int .i64 ((cnt : Int) + 1))).setCell ⟨bl, j, none⟩ (.int .i64 ((cnt : Int) + 1))).drew = x := ⟨_, rfl⟩
  have h2 := H2.out.turn (w' := W2) (by rw [← hW2]; exact Below.drew (Below.refl _ _))
  rw [hW2]
  clear c0 c1 c2 c3' c4 c5 c6 c7 c8 q1 q2 g1 g2 hne hne' H2 hW2 hw
  obtain ⟨c0, c1, c2, c3, c4, c5, c6, c7, c8⟩ := h2.cells
  obtain ⟨V, c', u3, col3, hrun, ht3, ho3⟩ := push_run (t := 27) Try.underlying27 h2.path h2.lo h2.bel.size (by show s.path.length ≤ 1000000; rw [HS.out.2.1]; exact HL.out.1.1) 27 j
  have hpl : (s.path ++ [j]).length = a1 + 1 := by rw [List.length_append, HS.out.2.1]; rfl
  have h3 := h2.setPath (P := s.path ++ [j]) ht3 (by rw [List.length_append]; exact ho3)
  have hx := ht3.hblk h2.box h2.pc (by omega)
  have d1 : u3.cell? ⟨p, 1, none⟩ = some (.slice Ap a1 cp) := by rw [hx.cell, ← HS.out.2.1]; rfl
  have d2 := hx.soft 1
  simp only [HS.out.2.1] at c1
  simp only [HS.out.2.2] at c2
  have hrun' : (Builtin.append_ #[27, 27] 27 #[.slice Ap a1 cp, .slice (some ⟨W2.heap.size, 0, none⟩) 1 1]).run Try.prog (W2.alloc (.cells #[.int .i64 (j : Int)] 3)) = .ok (.slice V (a1 + 1) c') u3 := by
    rw [← HS.out.2.1]; exact hrun
  have HRUN := Lib.hid hrun'
  rw [hpl] at h3
  have H3 := Lib.hid h3
  clear h2 h3 hrun hrun' ht3 ho3 hpl hx c0 c2 c3 c4 c5 c6 c7 c8
  go_upto_region 2 with fail
  go_upto_region 3 with (at_builtin; refine wpList_append_row rfl (.tmp 35) (.tmp 37) rfl HRUN.out ?_)
  obtain ⟨W3, hW3⟩ : ∃ x, u3.setCell ⟨p, 1, none⟩ (.slice V (a1 + 1) c') = x := ⟨_, rfl⟩
  have h3 := H3.out
  rw [hW3] at h3 ⊢
  clear c1 d1 d2 H3 hW3 HRUN
  obtain ⟨c0, c1, c2, c3, c4, c5, c6, c7, c8⟩ := h3.cells
  obtain ⟨V2, c2x, u4, col4, hrun, ht4, ho4⟩ := push_run (t := 27) Try.underlying27 h3.opn h3.lo h3.bel.size (by show s.opn.length ≤ 1000000; rw [HS.out.2.2]; exact HL.out.1.2) 27 j
  have hpl : (s.opn ++ [j]).length = a2 + 1 := by rw [List.length_append, HS.out.2.2]; rfl
  have h4 := h3.setOpn (P := s.opn ++ [j]) ht4 (by rw [List.length_append]; exact ho4)
  have hx := ht4.hblk h3.box h3.pc (by omega)
  have d1 : u4.cell? ⟨p, 2, none⟩ = some (.slice Ao a2 co) := by rw [hx.cell, ← HS.out.2.2]; rfl
  have d2 := hx.soft 2
  simp only [HS.out.2.2] at c2
  have hrun' : (Builtin.append_ #[27, 27] 27 #[.slice Ao a2 co, .slice (some ⟨W3.heap.size, 0, none⟩) 1 1]).run Try.prog (W3.alloc (.cells #[.int .i64 (j : Int)] 3)) = .ok (.slice V2 (a2 + 1) c2x) u4 := by
    rw [← HS.out.2.2]; exact hrun
  have HRUN := Lib.hid hrun'
  rw [hpl] at h4
  have hfin : Left w0 A n c p bo bf bl bg (s.enter j) (.returned (.tuple #[])) (u4.setCell ⟨p, 2, none⟩ (.slice V2 (a2 + 1) c2x)) := by
    refine ⟨rfl, col4, V, c', V2, c2x, ?_⟩
    unfold TS.enter
    rw [HS.out.1]
    exact h4
  have HF := Lib.hid hfin
  clear h3 h4 hrun hrun' ht4 ho4 hpl hx c0 c1 c3 c4 c5 c6 c7 c8 hfin
  go_wp2_with (at_builtin; refine wpList_append_row rfl (.tmp 45) (.tmp 47) rfl HRUN.out ?_)
  first | go_end0 | refine bodyPost_ret (results_none rfl _ _ _) rfl ?_
  exact HF.out
end Go.Proofs.Ytpalmnjapiijaaa.Gr
