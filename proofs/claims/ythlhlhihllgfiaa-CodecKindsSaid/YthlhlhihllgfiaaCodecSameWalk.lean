/-
  CodecSame answers true: whether any two items are the same is what the document says; two that have forms have the same just then.
-/
import Derived.Test.YthlhlhihllgfiaaCodRefSame
import Derived.Test.YthlhlhihllgfiaaCodecPutsWalk
namespace Go.Proofs.Ythlhlhihllgfiaa
open Go.RowKit Mem Cod

theorem same_self (x : It) : same x x = true := (same_iff x x).2 rfl
theorem same_form {x y : It} (hx : chk x 0 = 0) (hy : chk y 0 = 0) (fx : Fit x) (fy : Fit y) : decide (form x = form y) = same x y := by
  rw [Bool.eq_iff_iff, decide_eq_true_eq, same_iff]
  exact ⟨form_inj hx hy fx fy, fun h => by rw [h]⟩

set_option maxRecDepth 100000 in
set_option maxHeartbeats 4000000 in
theorem codecsame_true (x y : It) (A1 A2 : Option Addr) (c1 c2 : Nat) (S : Nat → Prop) (w : World) (h1 : Lies w S x A1 c1) (h2 : Lies w S y A2 c2) (hS : ∀ b, S b → b < w.heap.size) :
    Calls Try.prog 6 #[.agg #[.int .i64 x.kind, .int .u64 (x.num : Int), .string x.str, .slice A1 x.kids.length c1], .agg #[.int .i64 y.kind, .int .u64 (y.num : Int), .string y.str, .slice A2 y.kids.length c2]] w (Tells true w) := by
  have H1 := Lib.hid h1
  have H2 := Lib.hid h2
  have HS := Lib.hid hS
  clear h1 h2 hS
  go_enter Try.func6, Try.ntmps6
  go_wp2_with fail
  have hw0 : Below w.heap.size w ((w.alloc (.cells #[.int .i64 x.kind, .int .u64 (x.num : Int), .string x.str, .slice A1 x.kids.length c1] 25)).alloc (.cells #[.int .i64 y.kind, .int .u64 (y.num : Int), .string y.str, .slice A2 y.kids.length c2] 25)) := bel_alloc (bel_alloc (Below.refl _ _) _) _
  have bx0 := (Blk.new w 25 #[.int .i64 x.kind, .int .u64 (x.num : Int), .string x.str, .slice A1 x.kids.length c1]).alloc (.cells #[.int .i64 y.kind, .int .u64 (y.num : Int), .string y.str, .slice A2 y.kids.length c2] 25)
  have by0 := Blk.new (w.alloc (.cells #[.int .i64 x.kind, .int .u64 (x.num : Int), .string x.str, .slice A1 x.kids.length c1] 25)) 25 #[.int .i64 y.kind, .int .u64 (y.num : Int), .string y.str, .slice A2 y.kids.length c2]
  rw [size_alloc] at by0
  generalize (w.alloc (.cells #[.int .i64 x.kind, .int .u64 (x.num : Int), .string x.str, .slice A1 x.kids.length c1] 25)).alloc (.cells #[.int .i64 y.kind, .int .u64 (y.num : Int), .string y.str, .slice A2 y.kids.length c2] 25) = W0 at hw0 bx0 by0 ⊢
  refine (sizeof_any 40 x A1 c1 S _ (by omega) (H1.out.below hw0 HS.out)).mono ?_
  rintro e w1 ⟨r, rfl, r0, r1, hr, hb1⟩
  have HR := Lib.hid hr
  have bx1 := bx0.bel hb1
  have by1 := by0.bel hb1
  have hw1 := bel_trans hw0 hb1
  obtain ⟨p0, p1, p2, p3⟩ := blk4 by1
  clear hr hb1 bx0 by0 hw0
  by_cases h6 : 600 < r
  · have HW := Lib.hid hw1
    clear hw1 bx1 by1
    go_wp2_with fail
    refine (awake_true _).mono ?_
    rintro e w2 ⟨rfl, hb2⟩
    go_wp2_with fail
    go_ret
    exact ⟨rfl, bel_trans HW.out hb2⟩
  · have hwx : wt x ≤ 600 := by have := HR.out (by omega); omega
    have h6' : decide (600 < r) = false := by simpa using h6
    have HBX := Lib.hid bx1
    have HBY := Lib.hid by1
    have HW := Lib.hid hw1
    clear bx1 by1 hw1
    go_wp2_with fail
    refine (sizeof_any 40 y A2 c2 S _ (by omega) (H2.out.below HW.out HS.out)).mono ?_
    rintro e w2 ⟨q, rfl, q0, q1, hq, hb2⟩
    have HQ := Lib.hid hq
    have bx2 := HBX.out.bel hb2
    have by2 := HBY.out.bel hb2
    have hw2 := bel_trans HW.out hb2
    obtain ⟨a0, a1, a2, a3⟩ := blk4 bx2
    obtain ⟨b0, b1, b2, b3⟩ := blk4 by2
    clear hq hb2 p0 p1 p2 p3 HBX HBY HW
    have HBX := Lib.hid bx2
    have HBY := Lib.hid by2
    have HW := Lib.hid hw2
    clear bx2 by2 hw2
    by_cases h7 : 600 < q
    · go_wp2_with fail
      refine (awake_true _).mono ?_
      rintro e w3 ⟨rfl, hb3⟩
      go_wp2_with fail
      go_ret
      exact ⟨rfl, bel_trans HW.out hb3⟩
    · have hwy : wt y ≤ 600 := by have := HQ.out (by omega); omega
      have h7' : decide (600 < q) = false := by simpa using h7
      go_wp2_with fail
      refine (refsame_item x y A1 A2 c1 c2 S _ (H1.out.below HW.out HS.out) (H2.out.below HW.out HS.out) (fun b hb => by have := HS.out b hb; have := HW.out.size; omega)).mono ?_
      rintro e w3 ⟨rfl, hb3⟩
      have bx3 := HBX.out.bel hb3
      have by3 := HBY.out.bel hb3
      have hw3 := bel_trans HW.out hb3
      obtain ⟨d0, d1, d2, d3⟩ := blk4 bx3
      obtain ⟨e0, e1, e2, e3⟩ := blk4 by3
      clear hb3 a0 a1 a2 a3 b0 b1 b2 b3 HBX HBY HW
      have HBX := Lib.hid bx3
      have HBY := Lib.hid by3
      have HW := Lib.hid hw3
      clear bx3 by3 hw3
      go_wp2_with fail
      refine (same_item x y A1 A2 c1 c2 S _ (H1.out.below HW.out HS.out) (H2.out.below HW.out HS.out) (fun b hb => by have := HS.out b hb; have := HW.out.size; omega) (by omega)).mono ?_
      rintro e w4 ⟨rfl, hb4⟩
      have bx4 := HBX.out.bel hb4
      have by4 := HBY.out.bel hb4
      have hw4 := bel_trans HW.out hb4
      obtain ⟨f0, f1, f2, f3⟩ := blk4 bx4
      clear hb4 d0 d1 d2 d3 e0 e1 e2 e3 HBX HBY HW
      have HBX := Lib.hid bx4
      have HBY := Lib.hid by4
      have HW := Lib.hid hw4
      clear bx4 by4 hw4
      have hne : (same x y != same x y) = false := by simp
      generalize hst : same x y = st at hne
      have HST := Lib.hid hst
      clear hst
      go_wp2_with fail
      refine (same_item x x A1 A1 c1 c1 S _ (H1.out.below HW.out HS.out) (H1.out.below HW.out HS.out) (fun b hb => by have := HS.out b hb; have := HW.out.size; omega) (by omega)).mono ?_
      rw [same_self]
      rintro e w5 ⟨rfl, hb5⟩
      have bx5 := HBX.out.bel hb5
      have by5 := HBY.out.bel hb5
      have hw5 := bel_trans HW.out hb5
      obtain ⟨g0, g1, g2, g3⟩ := blk4 bx5
      clear hb5 f0 f1 f2 f3 HBX HBY HW
      have HBY := Lib.hid by5
      have HW := Lib.hid hw5
      clear bx5 by5 hw5
      go_wp2_with fail
      have hfx := small_form H1.out hwx
      have hfy := small_form H2.out hwy
      refine (put_item x A1 c1 S _ (H1.out.below HW.out HS.out) (fun b hb => by have := HS.out b hb; have := HW.out.size; omega) (by omega)).mono ?_
      rintro e w6 ⟨P6, n6, k6, rfl, hr6, hb6⟩
      have hw6 := bel_trans HW.out hb6
      obtain ⟨i0, i1, i2, i3⟩ := blk4 (HBY.out.bel hb6)
      clear hb6 g0 g1 g2 g3 HBY HW
      have HW := Lib.hid hw6
      have HR6 := Lib.hid hr6
      clear hw6 hr6
      go_wp2_with fail
      refine (put_item y A2 c2 S _ (H2.out.below HW.out HS.out) (fun b hb => by have := HS.out b hb; have := HW.out.size; omega) (by omega)).mono ?_
      rintro e w7 ⟨P7, n7, k7, rfl, hr7, hb7⟩
      have hr6 := HR6.out.below hb7
      have hw7 := bel_trans HW.out hb7
      clear hb7 i0 i1 i2 i3 HR6 HW
      have HW := Lib.hid hw7
      have HR6 := Lib.hid hr6
      have HR7 := Lib.hid hr7
      clear hw7 hr6 hr7
      by_cases z1 : chk x 0 = 0
      · have Z1 := Lib.hid z1
        rw [show ((chk x 0 : Nat) : Int) = 0 by omega]
        clear z1
        by_cases z2 : chk y 0 = 0
        · have Z2 := Lib.hid z2
          rw [show ((chk y 0 : Nat) : Int) = 0 by omega]
          clear z2
          have hr6 := HR6.out
          have hr7 := HR7.out
          rw [if_pos Z1.out] at hr6
          rw [if_pos Z2.out] at hr7
          have HR6' := Lib.hid hr6
          have HR7' := Lib.hid hr7
          clear hr6 hr7
          go_wp2_with fail
          refine (same_tells P6 P7 n6 n7 k6 k7 _ _ st _ HR6'.out HR7'.out ((same_form Z1.out Z2.out H1.out.fit H2.out.fit).trans HST.out)).mono ?_
          rintro e w8 ⟨rfl, hb8⟩
          have hss : (st == st) = true := by simp
          go_wp2_with fail
          refine (awake_true _).mono ?_
          rintro e w9 ⟨rfl, hb9⟩
          go_wp2_with fail
          go_ret
          exact ⟨rfl, bel_trans (bel_trans HW.out hb8) hb9⟩
        · have e2 : (((chk y 0 : Nat) : Int) != 0) = true := by rw [bne_iff_ne]; omega
          generalize chk y 0 = v2 at e2 ⊢
          clear z2
          go_wp2_with fail
          refine (awake_true _).mono ?_
          rintro e w9 ⟨rfl, hb9⟩
          go_wp2_with fail
          go_ret
          exact ⟨rfl, bel_trans HW.out hb9⟩
      · have e1 : (((chk x 0 : Nat) : Int) != 0) = true := by rw [bne_iff_ne]; omega
        generalize chk x 0 = v1 at e1 ⊢
        generalize chk y 0 = v2
        clear z1
        go_wp2_with fail
        refine (awake_true _).mono ?_
        rintro e w9 ⟨rfl, hb9⟩
        go_wp2_with fail
        go_ret
        exact ⟨rfl, bel_trans HW.out hb9⟩
end Go.Proofs.Ythlhlhihllgfiaa
