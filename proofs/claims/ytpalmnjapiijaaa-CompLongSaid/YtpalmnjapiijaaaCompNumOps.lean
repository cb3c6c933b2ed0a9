/-
  Texts of earlier layers, as one.
-/
import Derived.Test.YtpalmnjapiijaaaCompNum
import Derived.BigRegion
import Derived.Deep.RegionLaw
/- What the methods of the program's heap of numbers do. -/
namespace Go.Proofs.Ytpalmnjapiijaaa.Gr.Hq
open Go.RowKit Mem Dsk

theorem flat_ln (l : List Int) : LN.flat l = l.map fun z => Value.int .i64 z := by
  induction l with
  | nil => rfl
  | cons a l ih => rw [Lay.flat, List.flatMap_cons, List.map_cons, ← ih]; rfl
/-- s[i] = x -/
theorem own1_set {w : World} {B k n c g i x : Nat} {col : Nat → Nat} {l : List Nat} (h : Own1 w B col k (some ⟨g, 0, none⟩) n c (toZ l)) : Own1 (w.setCell ⟨g, i, none⟩ (.int .i64 (x : Int))) B col k (some ⟨g, 0, none⟩) n c (toZ (l.set i x)) := by
  refine ⟨?_, h.clr⟩
  obtain ⟨h1, ⟨h2, _⟩ | ⟨g', cap, cur, h2, h3, h4, h5, h6, h7, h8⟩⟩ := h.row
  · cases h2
  · cases h2
    refine ⟨by rw [← h1, length_flat, length_flat, toZ_length, toZ_length, List.length_set], .inr ⟨g, c, cur.setIfInBounds i (.int .i64 (x : Int)), rfl, h3, ?_, h5, h6, by simpa using h7, ?_⟩⟩
    · simp [World.setCell, Array.getElem?_modify, h4]
    · rw [flat_ln] at h8 ⊢
      unfold toZ at h8 ⊢
      rw [List.map_set, List.map_set, ← h8]
      simp [Array.toList_setIfInBounds, List.take_set]
section
variable {w : World} {B p c : Nat} {col : Nat → Nat} {x0 x1 x2 : Value} {A : Option Addr} {h : List Nat}
set_option maxHeartbeats 1000000 in
theorem less_any {i j : Nat} (w : World) (ho : HN w B col p x0 x1 x2 A c h) (hi : i < h.length) (hj : j < h.length) :
    Calls Try.prog 45 #[.slice A h.length c, .int .i64 (i : Int), .int .i64 (j : Int)] w (fun e w' => e = .returned (.bool (tlt (G h i) (G h j))) ∧ Below w.heap.size w w') := by
  obtain ⟨g, rfl, _, _⟩ := own_off ho.row (by omega)
  have e1 := G_cell ho.row hi
  have e2 := G_cell ho.row hj
  obtain ⟨a, ha⟩ : ∃ y, G h i = y := ⟨_, rfl⟩
  obtain ⟨b, hb⟩ : ∃ y, G h j = y := ⟨_, rfl⟩
  obtain ⟨n, hn⟩ : ∃ y, h.length = y := ⟨_, rfl⟩
  have ht : decide ((a : Int) < (b : Int)) = tlt a b := by
    unfold tlt
    rw [Bool.eq_iff_iff, decide_eq_true_iff, decide_eq_true_iff]
    omega
  rw [ha] at e1 ⊢
  rw [hb] at e2 ⊢
  rw [hn] at hi hj ⊢
  rw [Nat.zero_add] at e1 e2
  have HT := Lib.hid ht
  clear ho ha hb hn ht
  go_enter Try.func45, Try.ntmps45
  go_upto_region 1 with fail
  go_quiet (fail)
  go_wp2_with fail
  go_ret
  refine ⟨?_, below_drewN (Below.refl _ _) _⟩
  rw [← HT.out]
  first | rfl | simp
set_option maxHeartbeats 1000000 in
theorem len_any (w : World) (A : Option Addr) (n c : Nat) : Calls Try.prog 23 #[.slice A n c] w (fun e w' => e = .returned (.int .i64 (n : Int)) ∧ w = w') := by
  go_enter Try.func23, Try.ntmps23
  go_wp2_with fail
  go_ret
  exact ⟨rfl, rfl⟩
set_option maxHeartbeats 2000000 in
theorem swap_any {i j : Nat} (w : World) (ho : HN w B col p x0 x1 x2 A c h) (hi : i < h.length) (hj : j < h.length) :
    Calls Try.prog 46 #[.slice A h.length c, .int .i64 (i : Int), .int .i64 (j : Int)] w (fun e w' => e = .returned (.tuple #[]) ∧ HN w' B col p x0 x1 x2 A c (swl h i j) ∧ Trn K4 w col w' col) := by
  obtain ⟨g, rfl, hg4, hglt⟩ := own_off ho.row (by omega)
  have e1 := G_cell ho.row hi
  have e2 := G_cell ho.row hj
  rw [Nat.zero_add] at e1 e2
  have f1 := ho.row.row.frozenAt i
  have f2 := ho.row.row.frozenAt j
  have hgp : g ≠ p := fun e => by have := ho.pc; rw [← e, hg4] at this; omega
  have t1 : Turns 4 w col (w.setCell ⟨g, i, none⟩ (.int .i64 (G h j : Int))) col := Turns.set hg4 _
  have t2 : Turns 4 (w.setCell ⟨g, i, none⟩ (.int .i64 (G h j : Int))) col ((w.setCell ⟨g, i, none⟩ (.int .i64 (G h j : Int))).setCell ⟨g, j, none⟩ (.int .i64 (G h i : Int))) col := Turns.set hg4 _
  have t3 := (t1.trans t2 (by omega)).trans (Turns.ofBelow (Below.drew (Below.refl _ _)) 4 col) (by omega)
  have hsz := (ho.lo p (by rw [ho.pc]; omega))
  have hl : (swl h i j).length = h.length := length_swl h i j
  have hrow := own1_set (i := j) (x := G h i) (own1_set (i := i) (x := G h j) ho.row)
  have hfin : HN (((w.setCell ⟨g, i, none⟩ (.int .i64 (G h j : Int))).setCell ⟨g, j, none⟩ (.int .i64 (G h i : Int))).drew) B col p x0 x1 x2 (some ⟨g, 0, none⟩) c (swl h i j) := by
    refine ⟨t3.lo ho.lo (by omega), ho.pc, ?_, ?_⟩
    · rw [hl]
      exact t3.hblk ho.box ho.pc (by omega)
    · rw [hl]
      exact (Turns.ofBelow (Below.drew (Below.refl _ _)) 9 col).own hrow (by omega) (by omega)
  have HF := Lib.hid (And.intro hfin (Trn.of (K := K4) t3 rfl))
  obtain ⟨a, ha⟩ : ∃ y, G h i = y := ⟨_, rfl⟩
  obtain ⟨b, hb⟩ : ∃ y, G h j = y := ⟨_, rfl⟩
  obtain ⟨n, hn⟩ : ∃ y, h.length = y := ⟨_, rfl⟩
  rw [ha] at e1
  rw [hb] at e2
  rw [ha, hb] at HF
  rw [hn] at hi hj ⊢
  have HX := Lib.hid (And.intro ha hb)
  clear ho hgp t1 t2 t3 hsz hl hrow hfin ha hb hn hg4 hglt
  by_cases hij : i = j
  · subst hij
    have hab : b = a := by rw [← HX.out.1, ← HX.out.2]
    rw [hab] at HF
    clear e2 f2 hj HX hab
    go_enter Try.func46, Try.ntmps46
    go_upto_region 0 with fail
    go_region
    first | go_end0 | refine bodyPost_ret (results_none rfl _ _ _) rfl ?_
    exact ⟨rfl, HF.out⟩
  · have hij' : ¬ j = i := fun e => hij e.symm
    clear HX
    go_enter Try.func46, Try.ntmps46
    go_upto_region 0 with fail
    go_region
    first | go_end0 | refine bodyPost_ret (results_none rfl _ _ _) rfl ?_
    exact ⟨rfl, HF.out⟩
/-- The numbers are another row of their colour. -/
theorem HN.put {w1 : World} {col' : Nat → Nat} {V : Option Addr} {c' : Nat} {h' : List Nat} (ho : HN w B col p x0 x1 x2 A c h) (t1 : Turns 4 w col w1 col') (hr : Own1 w1 B col' 4 V h'.length c' (toZ h')) : HN (w1.setCell ⟨p, 3, none⟩ (.slice V h'.length c')) B col' p x0 x1 x2 V c' h' ∧ Trn KH w col (w1.setCell ⟨p, 3, none⟩ (.slice V h'.length c')) col' := by
  have pc := t1.cl ho.pc (by omega)
  have hlp := ho.lo p (by rw [ho.pc]; omega)
  have t : Turns 1 w1 col' _ col' := Turns.set (w := w1) (i := 3) pc (.slice V h'.length c')
  have l1 := t1.lo ho.lo (by omega)
  have hx := (t1.hblk ho.box ho.pc (by omega)).put 3 (.slice V h'.length c')
  exact ⟨⟨t.lo l1 (by have := t1.size; omega), pc, by simpa using hx, t.own hr (by omega) (by omega)⟩, (Trn.of (K := KH) t1 (.inr rfl)).trans (Trn.of (K := KH) t (.inl rfl)) (by unfold KH; omega)⟩
theorem as_int (v : Value) (w : World) : (Instr.typeAssert (.iface 3 v) 20 3 false).run Try.prog w = .ok v w := by kernel_rfl
set_option maxRecDepth 20000 in
set_option maxHeartbeats 4000000 in
theorem npush_any (x : Nat) (w : World) (ho : HN w B col p x0 x1 x2 A c h) (hn : h.length ≤ 1000000) :
    Calls Try.prog 48 #[.pointer (some ⟨p, 3, none⟩), .iface 3 (.int .i64 (x : Int))] w (fun e w' => e = .returned (.tuple #[]) ∧ ∃ V c' col', HN w' B col' p x0 x1 x2 V c' (h ++ [x]) ∧ Trn KH w col w' col') := by
  have hlp := ho.lo p (by rw [ho.pc]; omega)
  have hb : Below w.heap.size w (w.drew.alloc (.cells #[.int .i64 (x : Int)] 3)) := bel_alloc (Below.drew (Below.refl _ _)) _
  obtain ⟨V, c', u3, col', hrun, ht, hr⟩ := push_at (t := 44) (w1 := (w.drew.alloc (.cells #[.int .i64 (x : Int)] 3))) Try.underlying44 ho.row ho.lo (by omega) hn 44 hb (Rw.lit (L := LN) w.drew (x : Int) 3)
  have hl : (h ++ [x]).length = h.length + 1 := by simp
  have hf := ho.put (h' := h ++ [x]) ht (by rw [hl]; exact hr)
  rw [hl] at hf
  have c3 := ho.cell
  have hx := ht.hblk ho.box ho.pc (by omega)
  have d1 : u3.cell? ⟨p, 3, none⟩ = some (.slice A h.length c) := by rw [hx.cell]; rfl
  have d2 := hx.soft 3
  have ha := as_int (.int .i64 (x : Int))
  obtain ⟨n, hnl⟩ : ∃ y, h.length = y := ⟨_, rfl⟩
  rw [hnl] at hrun hf c3 d1
  have HF := Lib.hid (show ∃ V c' col', HN (u3.setCell ⟨p, 3, none⟩ (.slice V (n + 1) c')) B col' p x0 x1 x2 V c' (h ++ [x]) ∧ Trn KH w col (u3.setCell ⟨p, 3, none⟩ (.slice V (n + 1) c')) col' from ⟨V, c', col', hf⟩)
  have HF2 := Lib.hid hf
  have HRUN := Lib.hid hrun
  clear ho hb hrun ht hr hl hf hx hnl HF
  go_enter Try.func48, Try.ntmps48
  go_upto_region 0 with fail
  go_region_law (refine step_append_row rfl (.tmp 7) (.tmp 10) rfl HRUN.out ?_)
  all_goals first | go_end0 | refine bodyPost_ret (results_none rfl _ _ _) rfl ?_
  all_goals exact ⟨rfl, _, _, _, HF2.out⟩
set_option maxRecDepth 20000 in
set_option maxHeartbeats 4000000 in
theorem npop_any (x : Nat) (w : World) (ho : HN w B col p x0 x1 x2 A c (h ++ [x])) (hn : h.length ≤ 1000000) :
    Calls Try.prog 47 #[.pointer (some ⟨p, 3, none⟩)] w (fun e w' => e = .returned (.iface 3 (.int .i64 (x : Int))) ∧ HN w' B col p x0 x1 x2 A c h ∧ Trn KH w col w' col) := by
  obtain ⟨n, hnl⟩ : ∃ y, h.length = y := ⟨_, rfl⟩
  have hl : (h ++ [x]).length = n + 1 := by simp [hnl]
  have hr := ho.row
  obtain ⟨_, hcap, g, o, hA, hg, e0⟩ := hr.last
  have ht := hr.take (m := n) (by omega)
  have htk : (toZ (h ++ [x])).take n = toZ h := by rw [← hnl]; exact toZ_take h x
  rw [htk] at ht
  have hf := ho.put (h' := h) (Turns.refl 4 w col) (by rw [hnl]; exact ht)
  have c3 := ho.cell
  have f3 := ho.box.soft 3
  subst hA
  rw [hl] at c3 hcap
  rw [hnl] at e0 hf hn
  have hnc : n ≤ c := Nat.le_of_succ_le hcap
  have hw : IntKind.i64.wrap ((n : Int) + 1 - 1) = (n : Int) := by rw [show (n : Int) + 1 - 1 = (n : Int) by omega]; exact wr64 (by omega) (by omega)
  have hw' : wrap64 (n : Int) = (n : Int) := by unfold wrap64; omega
  have HF := Lib.hid hf
  clear ho hr ht htk hf hnl hl hcap hg hn
  go_enter Try.func47, Try.ntmps47
  go_wp2_with fail
  go_ret
  exact ⟨rfl, HF.out⟩
end
end Go.Proofs.Ytpalmnjapiijaaa.Gr.Hq
