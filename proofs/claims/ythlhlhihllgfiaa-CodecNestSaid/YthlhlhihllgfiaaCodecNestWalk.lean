/-
  CodecNest answers true: a text in fewer than 16 lists has a form and is read as it was, one in more has none.
-/
import Derived.Test.YthlhlhihllgfiaaCodecBackWalk
namespace Go.Proofs.Ythlhlhihllgfiaa
open Go.RowKit Mem Cod

/-- A text in so many lists. -/
def nestI (s : ByteArray) : Nat → It
  | 0 => .mk 1 0 s []
  | k + 1 => .mk 2 0 ByteArray.empty [nestI s k]
theorem wt_nest (s : ByteArray) (k : Nat) : wt (nestI s k) = k + 1 + s.size := by
  induction k with
  | zero => simp [nestI, wt, wts]
  | succ k ih => rw [nestI, wt, wts, wts, ih]; show 1 + 0 + _ = _; omega
theorem chk_nest (s : ByteArray) (k : Nat) : ∀ d, chk (nestI s k) d = if 15 < d + k then 12 else 0 := by
  induction k with
  | zero =>
    intro d
    rw [nestI, chk_eq, if_neg (by simp [formed, It.kind, It.num, It.kids])]
    simp [It.kids, chks]
  | succ k ih =>
    intro d
    rw [nestI, chk_eq, if_neg (by simp [formed, It.kind, It.num, It.str])]
    simp only [It.kids, chks]
    rw [ih (d + 1)]
    by_cases h1 : 15 < d
    · rw [if_pos h1, if_pos (by omega)]
    · have e : (15 < d + 1 + k) ↔ (15 < d + (k + 1)) := by omega
      simp only [h1, e, if_false]
      split <;> simp

/-- A slice literal of one item, just made. -/
theorem row_lit1 (W : World) (T : Nat → Prop) (x : It) (A : Option Addr) (c : Nat) (hl : Lies W T x A c) :
    Row (W.alloc (.cells #[.int .i64 x.kind, .int .u64 (x.num : Int), .string x.str, .slice A x.kids.length c] 25)) (fun b => T b ∨ b = W.heap.size) (some ⟨W.heap.size, 0, none⟩) 1 1 [x] := by
  refine Row.of_hung (hs := [⟨x, A, c⟩]) rfl ⟨Nat.le_refl _, by omega, (fun e => by cases e)⟩ (fun h hh => ?_) fun _ => ⟨_, rfl, .inr rfl, by simp, fun j u hu => ?_⟩
  · rw [List.mem_singleton.1 hh]
    exact (hl.alloc _).more fun b hb _ => .inl hb
  · rw [Addr.add_lit, Nat.zero_add, cell_of_row _ _ _ _ _ _ (heap_alloc_new W _)]
    simpa [cells4, Hung.cells] using hu

def NestRel (w : World) (s : ByteArray) (n B : Nat) (i : Value) (wr : World) : Prop :=
  ∃ (k : Nat) (V : Option Addr) (c : Nat), k ≤ n ∧ i = .int .i64 k ∧ Blk wr B 25 #[.int .i64 (nestI s k).kind, .int .u64 ((nestI s k).num : Int), .string (nestI s k).str, .slice V (nestI s k).kids.length c] ∧
    Lies wr (fun b => b < wr.heap.size ∧ b ≠ B) (nestI s k) V c ∧ Below w.heap.size w wr

set_option maxRecDepth 100000 in
set_option maxHeartbeats 4000000 in
theorem codecnest_true (s : ByteArray) (dp : Int) (w : World) (hd : 0 ≤ dp ∧ dp ≤ 255) :
    Calls Try.prog 7 #[.string s, .int .u8 dp] w (Tells true w) := by
  by_cases hs : 100 < (s.size : Int)
  · go_enter Try.func7, Try.ntmps7
    go_wp2_with fail
    refine (awake_true _).mono ?_
    rintro e w2 ⟨rfl, hb2⟩
    go_wp2_with fail
    go_ret
    exact ⟨rfl, hb2⟩
  · obtain ⟨n, hn⟩ : ∃ n : Nat, dp.tmod 24 = n := ⟨(dp.tmod 24).toNat, by have := Int.tmod_nonneg 24 hd.1; omega⟩
    have hn24 : n < 24 := by have := Int.tmod_lt_of_pos dp (show (0 : Int) < 24 by omega); omega
    go_enter Try.func7, Try.ntmps7
    go_wp2_with fail
    refine (text_any s _).mono ?_
    rintro e w1 ⟨rfl, hb1⟩
    go_wp2_with fail
    have hst : NestRel w s n w1.heap.size (.int .i64 0) (w1.alloc (.cells #[.int .i64 1, .int .u64 0, .string s, .slice none 0 0] 25)) :=
      ⟨0, none, 0, Nat.zero_le _, rfl, Blk.new w1 _ _, lies_leaf _ _ (by omega) (by omega) (by omega), bel_alloc hb1 _⟩
    have hB : w.heap.size ≤ w1.heap.size := hb1.size
    clear hb1
    generalize w1.heap.size = B at hst hB ⊢
    generalize (w1.alloc (.cells #[.int .i64 1, .int .u64 0, .string s, .slice none 0 0] 25)) = w2 at hst ⊢
    go_loopw [7] (NestRel w s n B) (fun i _ => n - (intOf i).toNat)
    case atStart => exact hst
    case round =>
      clear hst
      obtain ⟨k, V, c, hk, rfl, hblk, hlies, hbw⟩ := hrel
      have hBs := hblk.lt
      obtain ⟨c0, c1, c2, c3⟩ := blk4 hblk
      obtain ⟨z0, z1, z2, z3⟩ := blk4_soft hblk
      have HBLK := Lib.hid hblk
      have HL := Lib.hid hlies
      have HBW := Lib.hid hbw
      clear hblk hlies hbw
      by_cases hlt : k < n
      · have hrow := row_lit1 wr _ (nestI s k) V c HL.out
        have hwt := wt_nest s k
        generalize hy : nestI s k = y at c0 c1 c2 c3 hrow
        have HY := Lib.hid hy
        have HROW := Lib.hid hrow
        clear hy hrow
        go_wp2_with fail
        refine (list_more _ 1 1 _ [y] _ HROW.out (fun b hb => by rw [size_alloc]; omega) (by rw [wts_one, ← HY.out]; omega)).mono ?_
        rintro e w3 ⟨V3, c3', rfl, hr3, hb3⟩
        have hblk3 := (HBLK.out.alloc (.cells #[.int .i64 y.kind, .int .u64 (y.num : Int), .string y.str, .slice V y.kids.length c] 25)).bel hb3
        obtain ⟨d0, d1, d2, d3⟩ := blk4 hblk3
        obtain ⟨x0, x1, x2, x3⟩ := blk4_soft hblk3
        have hl3 : Lies w3 (fun b => b < w3.heap.size ∧ b ≠ B) (nestI s (k + 1)) V3 c3' := by
          have := (hr3.more (S' := fun b => b < w3.heap.size ∧ b ≠ B) fun b hb _ => ⟨hb.1, by rw [size_alloc] at hb; omega⟩).lies (k := 2) (n := 0) (s := ByteArray.empty) (by omega) (by omega) (by show (0 : Nat) ≤ _; omega)
          rw [nestI, HY.out]
          exact this
        have HL3 := Lib.hid hl3
        have HB3 := Lib.hid (bel_trans (bel_alloc HBW.out (.cells #[.int .i64 y.kind, .int .u64 (y.num : Int), .string y.str, .slice V y.kids.length c] 25)) hb3)
        have HBLK3 := Lib.hid hblk3
        clear hr3 hb3 hl3 hblk3 c0 c1 c2 c3 z0 z1 z2 z3
        go_wp2_with fail
        obtain ⟨hk4, hg4⟩ := blk4_set HBLK3.out (.int .i64 2) (.int .u64 0) (.string ByteArray.empty) (.slice V3 1 c3')
        refine ⟨⟨k + 1, V3, c3', by omega, by simp, hk4, ?_, ?_⟩, by simp [intOf]; omega⟩
        · exact (HL3.out.grown hg4 fun b hb => by simpa using hb.2).more fun b hb hlt => ⟨hlt, hb.2⟩
        · exact HB3.out.trans (gr_below hg4 HB3.out.size fun b hb => by cases hb; exact hB)
      · obtain rfl : k = n := by omega
        have hwt := wt_nest s k
        have hck := chk_nest s k 0
        rw [Nat.zero_add] at hck
        generalize hy : nestI s k = y at c0 c1 c2 c3 hwt hck
        have HY := Lib.hid hy
        have HCK := Lib.hid hck
        have hly : Lies wr (fun b => b < wr.heap.size ∧ b ≠ B) y V c := by rw [← hy]; exact HL.out
        have hfit := hly.fit
        have hfl := length_form_le y hfit
        have HLY := Lib.hid hly
        have HFIT := Lib.hid hfit
        clear hy hck hly hfit
        go_wp2_with fail
        refine (put_item y V c _ wr HLY.out (fun b hb => hb.1) (by omega)).mono ?_
        rintro e w4 ⟨P, m, cp, rfl, hr4, hb4⟩
        have HR4 := Lib.hid hr4
        have HB4 := Lib.hid hb4
        clear hr4 hb4
        by_cases h16 : 16 ≤ (k : Int)
        · have hc := HCK.out
          rw [if_pos (by omega)] at hc
          have hr4 := HR4.out
          rw [hc, if_neg (by omega)] at hr4
          have hm : m = 0 := by have := hr4.len; rw [length_cs] at this; simpa using this.symm
          subst hm
          rw [hc]
          clear hc hr4
          go_wp2_with fail
          refine (awake_true _).mono ?_
          rintro e w5 ⟨rfl, hb5⟩
          go_wp2_with fail
          go_ret
          exact ⟨rfl, bel_trans (bel_trans HBW.out HB4.out) hb5⟩
        · have hc := HCK.out
          rw [if_neg (by omega)] at hc
          have hr4 := HR4.out
          rw [hc, if_pos rfl] at hr4
          rw [hc]
          have hm : (form y).length = m := by have := hr4.len; rwa [length_cs] at this
          have HC := Lib.hid hc
          have HR5 := Lib.hid hr4
          have HM := Lib.hid hm
          have hm2 : m ≤ 2000 := by omega
          clear hc hr4 hm
          go_wp2_with fail
          refine (get_yes (get_form HC.out HFIT.out (by omega)) P m cp w4 HR5.out (form_bytes y HFIT.out) (by omega)).mono ?_
          rintro e w5 ⟨Y, cy, rfl, hl5, hb5⟩
          have hw35 := bel_trans HB4.out hb5
          have hbx := HBLK.out
          rw [HY.out] at hbx
          obtain ⟨d0, d1, d2, d3⟩ := blk4 ((hbx.bel hw35).alloc (.cells #[.int .i64 y.kind, .int .u64 (y.num : Int), .string y.str, .slice Y y.kids.length cy] 25))
          have HLX := Lib.hid ((HLY.out.below (w' := w5) hw35 fun b hb => hb.1).more (S' := fun b => b < w5.heap.size) fun b _ h => h)
          have HLZ := Lib.hid (hl5.more (S' := fun b => b < w5.heap.size) fun b _ h => h)
          have HW5 := Lib.hid (bel_trans HBW.out hw35)
          clear hbx hl5 hb5 hw35
          go_wp2_with fail
          refine (same_item y y V Y c cy (fun b => b < w5.heap.size) _ (HLX.out.alloc _) (HLZ.out.alloc _) (fun b h => by rw [size_alloc]; omega) (by omega)).mono ?_
          rw [same_self]
          rintro e w6 ⟨rfl, hb6⟩
          go_wp2_with fail
          refine (awake_true _).mono ?_
          rintro e w7 ⟨rfl, hb7⟩
          go_wp2_with fail
          go_ret
          exact ⟨rfl, bel_trans (bel_trans (bel_alloc HW5.out _) hb6) hb7⟩
end Go.Proofs.Ythlhlhihllgfiaa
