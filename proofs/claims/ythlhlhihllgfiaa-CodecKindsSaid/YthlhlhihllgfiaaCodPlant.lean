/-
  codec's planter: fail, over, add, plant: of a right item comes its tree, and the length of its form is counted; of any other one a fault is thrown that tells what is wrong.
-/
import Derived.Test.YthlhlhihllgfiaaCodForm
import Derived.Test.YthlhlhihllgfiaaCodNode
import Derived.Test.YthlhlhihllgfiaaNumSize
import Derived.WalkSmall
namespace Go.Proofs.Ythlhlhihllgfiaa
open Go.RowKit Mem Cod

theorem fail_any (e p : Nat) (w : World) : Calls Try.prog 26 #[.int .i64 (e : Int), .int .i64 (p : Int)] w fun en w' => en = .panicked (flt e p) ∧ w = w' := by
  go_enter Try.func26, Try.ntmps26
  go_wp2_with fail
  exact ⟨rfl, rfl, rfl⟩
theorem fail_4 (w : World) : Calls Try.prog 26 #[.int .i64 4, .int .i64 0] w fun en w' => en = .panicked (flt 4 0) ∧ w = w' := fail_any 4 0 w
theorem fail_12 (w : World) : Calls Try.prog 26 #[.int .i64 12, .int .i64 0] w fun en w' => en = .panicked (flt 12 0) ∧ w = w' := fail_any 12 0 w

theorem over_any (g s : Nat) (w : World) (h : Plan w g s) (hs : s ≤ 1048576) : Calls Try.prog 25 #[.pointer (some ⟨g, 0, none⟩)] w fun en w' => en = .returned (.bool false) ∧ w = w' := by
  have hc : w.cell? ⟨g, 0, none⟩ = some (.int .i64 (s : Int)) := Blk.cell h 0
  have hs' : ¬ (1048576 < (s : Int)) := by omega
  go_enter Try.func25, Try.ntmps25
  go_wp2_with fail
  go_ret
  exact ⟨rfl, rfl⟩

theorem add_any (g s n : Nat) (w : World) (h : Plan w g s) (hs : s + n ≤ 1048576) : Calls Try.prog 37 #[.pointer (some ⟨g, 0, none⟩), .int .i64 (n : Int)] w
    fun en w' => en = .returned (.tuple #[]) ∧ Plan w' g (s + n) ∧ w.grownBy w' (some g) := by
  have hc : w.cell? ⟨g, 0, none⟩ = some (.int .i64 (s : Int)) := Blk.cell h 0
  have hz : w.frozen? ⟨g, 0, none⟩ = false := Blk.soft h 0
  go_enter Try.func37, Try.ntmps37
  go_wp2_with fail
  have e : min ((s : Int) + n) 1048577 = ((s + n : Nat) : Int) := by rw [Int.min_eq_left (by omega)]; omega
  rw [e]
  go_end0
  exact ⟨rfl, h.put 0 _, gr_set (gr_refl _ _) (.inl rfl) _⟩

/-- The ending of plant: the tree, and the bytes counted; or what is wrong. -/
def Planted (x : It) (d g s : Nat) (w : World) (e : Ending) (w' : World) : Prop :=
  w.grownBy w' (some g) ∧ ((chk x d = 0 ∧ (∃ v, e = .returned v ∧ IsNode w' (fun b => w.heap.size ≤ b) x v) ∧ Plan w' g (s + (form x).length)) ∨ (chk x d ≠ 0 ∧ e = .panicked (flt (chk x d) 0)))

set_option maxHeartbeats 2000000 in
theorem plant_bad (x : It) (A : Option Addr) (c d g s : Nat) (w : World) (hf : formed x = false) :
    Calls Try.prog 24 #[.pointer (some ⟨g, 0, none⟩), .agg #[.int .i64 x.kind, .int .u64 (x.num : Int), .string x.str, .slice A x.kids.length c], .int .i64 d] w (Planted x d g s w) := by
  have h4 : chk x d = 4 := by rw [chk_eq, if_pos hf]
  have H4 := Lib.hid h4
  have HF := Lib.hid hf
  clear h4 hf
  go_enter Try.func24, Try.ntmps24
  go_wp2_with fail
  refine (formed_any x A c _).mono ?_
  rintro e w1 ⟨rfl, hb1⟩
  rw [HF.out]
  go_wp2_with fail
  refine (fail_4 _).mono ?_
  rintro e w2 ⟨rfl, rfl⟩
  refine ⟨rfl, gr_bel (gr_alloc (gr_refl _ _) _) hb1, .inr ⟨by rw [H4.out]; omega, by rw [H4.out]⟩⟩

set_option maxHeartbeats 2000000 in
theorem plant_deep (x : It) (A : Option Addr) (c d g s : Nat) (w : World) (hf : formed x = true) (hd : 16 ≤ (d : Int)) :
    Calls Try.prog 24 #[.pointer (some ⟨g, 0, none⟩), .agg #[.int .i64 x.kind, .int .u64 (x.num : Int), .string x.str, .slice A x.kids.length c], .int .i64 d] w (Planted x d g s w) := by
  have h4 : chk x d = 12 := by rw [chk_eq, if_neg (by simp [hf]), if_pos (by omega)]
  have H4 := Lib.hid h4
  have HF := Lib.hid hf
  clear h4 hf
  go_enter Try.func24, Try.ntmps24
  go_wp2_with fail
  refine (formed_any x A c _).mono ?_
  rintro e w1 ⟨rfl, hb1⟩
  rw [HF.out]
  go_wp2_with fail
  refine (fail_12 _).mono ?_
  rintro e w2 ⟨rfl, rfl⟩
  refine ⟨rfl, gr_bel (gr_alloc (gr_refl _ _) _) hb1, .inr ⟨by rw [H4.out]; omega, by rw [H4.out]⟩⟩

set_option maxHeartbeats 2000000 in
theorem plant_num (n : Nat) (A : Option Addr) (c d g s : Nat) (w : World) (hd : (d : Int) ≤ 15) (hn : n ≤ 18446744073709551615) (hp : Plan w g s) (hs : s + (1 + Num.size n) ≤ 1048576) :
    Calls Try.prog 24 #[.pointer (some ⟨g, 0, none⟩), .agg #[.int .i64 0, .int .u64 (n : Int), .string ByteArray.empty, .slice A 0 c], .int .i64 d] w (Planted (.mk 0 n ByteArray.empty []) d g s w) := by
  have hf : formed (.mk 0 n ByteArray.empty []) = true := by simp [formed, It.kind, It.str, It.kids]
  have HF := Lib.hid hf
  clear hf
  go_enter Try.func24, Try.ntmps24
  go_wp2_with fail
  refine (formed_any (.mk 0 n ByteArray.empty []) A c _).mono ?_
  rintro e w1 ⟨rfl, hb1⟩
  rw [HF.out]
  have hp1 : Plan w1 g s := (hp.alloc _).bel hb1
  have hg1 : w.grownBy w1 (some g) := gr_bel (gr_alloc (gr_refl _ _) _) hb1
  have hk1 := (Blk.new w 25 #[.int .i64 0, .int .u64 (n : Int), .string ByteArray.empty, .slice A 0 c]).bel hb1
  clear hb1
  go_wp2_with fail
  refine (add_any g s 1 _ hp1 (by omega)).mono ?_
  rintro e w2 ⟨rfl, hp2, hg2⟩
  have hk2 := hk1.grown hg2 (by have := hp.lt; simp; omega)
  obtain ⟨hc0, hc1, hc2, hc3⟩ := blk4 hk2
  go_wp2_with fail
  refine (size_any n _ (by omega) (by omega)).mono ?_
  rintro e w3 ⟨rfl, rfl⟩
  go_wp2_with fail
  refine (add_any g (s + 1) (Num.size n) _ hp2 (by omega)).mono ?_
  rintro e w4 ⟨rfl, hp4, hg4⟩
  have hk4 := hk2.grown hg4 (by have := hp.lt; simp; omega)
  obtain ⟨_, hd1, _, _⟩ := blk4 hk4
  go_wp2_with fail
  go_ret
  refine ⟨(hg1.trans hg2).trans hg4, .inl ⟨?_, ⟨_, rfl, ?_⟩, ?_⟩⟩
  · rw [chk_eq]
    simp [HF.out, It.kids, chks]
    omega
  · rw [node_eq]
    exact ⟨.inl ⟨rfl, hn, rfl⟩, fun i hi => by simp [It.kids] at hi⟩
  · rw [form0 rfl, List.length_cons, It.num, Num.length_put, show s + (Num.size n + 1) = s + 1 + Num.size n by omega]
    exact hp4

set_option maxHeartbeats 2000000 in
theorem plant_text (st : ByteArray) (A : Option Addr) (c d g s : Nat) (w : World) (hd : (d : Int) ≤ 15) (hn : st.size ≤ 140737488355328) (hp : Plan w g s) (hs : s + (1 + Num.size st.size + st.size) ≤ 1048576) :
    Calls Try.prog 24 #[.pointer (some ⟨g, 0, none⟩), .agg #[.int .i64 1, .int .u64 0, .string st, .slice A 0 c], .int .i64 d] w (Planted (.mk 1 0 st []) d g s w) := by
  have hf : formed (.mk 1 0 st []) = true := by simp [formed, It.kind, It.num, It.kids]
  have HF := Lib.hid hf
  clear hf
  go_enter Try.func24, Try.ntmps24
  go_wp2_with fail
  refine (formed_any (.mk 1 0 st []) A c _).mono ?_
  rintro e w1 ⟨rfl, hb1⟩
  rw [HF.out]
  have hp1 : Plan w1 g s := (hp.alloc _).bel hb1
  have hg1 : w.grownBy w1 (some g) := gr_bel (gr_alloc (gr_refl _ _) _) hb1
  have hk1 := (Blk.new w 25 #[.int .i64 1, .int .u64 0, .string st, .slice A 0 c]).bel hb1
  clear hb1
  go_wp2_with fail
  refine (add_any g s 1 _ hp1 (by omega)).mono ?_
  rintro e w2 ⟨rfl, hp2, hg2⟩
  have hk2 := hk1.grown hg2 (by have := hp.lt; simp; omega)
  obtain ⟨hc0, hc1, hc2, hc3⟩ := blk4 hk2
  go_wp2_with fail
  refine (size_any st.size _ (by omega) (by omega)).mono ?_
  rintro e w3 ⟨rfl, rfl⟩
  go_wp2_with fail
  refine (add_any g (s + 1) (Num.size st.size) _ hp2 (by omega)).mono ?_
  rintro e w4 ⟨rfl, hp4, hg4⟩
  have hk4 := hk2.grown hg4 (by have := hp.lt; simp; omega)
  obtain ⟨_, _, hd1, _⟩ := blk4 hk4
  go_wp2_with fail
  refine (add_any g (s + 1 + Num.size st.size) st.size _ hp4 (by omega)).mono ?_
  rintro e w5 ⟨rfl, hp5, hg5⟩
  have hk5 := hk4.grown hg5 (by have := hp.lt; simp; omega)
  obtain ⟨_, _, hd2, _⟩ := blk4 hk5
  go_wp2_with fail
  go_ret
  refine ⟨((hg1.trans hg2).trans hg4).trans hg5, .inl ⟨?_, ⟨_, rfl, ?_⟩, ?_⟩⟩
  · rw [chk_eq]
    simp [HF.out, It.kids, chks]
    omega
  · rw [node_eq]
    exact ⟨.inr (.inl ⟨rfl, hn, rfl⟩), fun i hi => by simp [It.kids] at hi⟩
  · rw [form1 rfl, List.length_cons, It.str, List.length_append, Num.length_put, length_bts, show s + (Num.size st.size + st.size + 1) = s + 1 + Num.size st.size + st.size by omega]
    exact hp5
end Go.Proofs.Ythlhlhihllgfiaa
