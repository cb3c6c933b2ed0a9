/-
  The walk of the statement AttrChecks.
-/
import Derived.Test.YtccbkpdkmdnmfaaAttAwake
namespace Go.Proofs.Ytccbkpdkmdnmfaa
open Go.RowKit Mem Ids Att

theorem held12 {W w' : World} {g1 g2 g3 g4 : Nat} {t1 t2 t3 t4 : TypeId} {a b c d e f a' b' c' d' e' f' : Value} (h1 : Blk W g1 t1 #[a, b, c]) (h2 : Blk W g2 t2 #[d, e, f]) (h3 : Blk W g3 t3 #[a', b', c']) (h4 : Blk W g4 t4 #[d', e', f']) (hb : Below W.heap.size W w') :
    w'.cell? ⟨g1, 0, none⟩ = some a ∧ w'.cell? ⟨g1, 1, none⟩ = some b ∧ w'.cell? ⟨g1, 2, none⟩ = some c ∧ w'.cell? ⟨g2, 0, none⟩ = some d ∧ w'.cell? ⟨g2, 1, none⟩ = some e ∧ w'.cell? ⟨g2, 2, none⟩ = some f ∧
    w'.cell? ⟨g3, 0, none⟩ = some a' ∧ w'.cell? ⟨g3, 1, none⟩ = some b' ∧ w'.cell? ⟨g3, 2, none⟩ = some c' ∧ w'.cell? ⟨g4, 0, none⟩ = some d' ∧ w'.cell? ⟨g4, 1, none⟩ = some e' ∧ w'.cell? ⟨g4, 2, none⟩ = some f' :=
  ⟨(h1.bel hb).cell 0, (h1.bel hb).cell 1, (h1.bel hb).cell 2, (h2.bel hb).cell 0, (h2.bel hb).cell 1, (h2.bel hb).cell 2, (h3.bel hb).cell 0, (h3.bel hb).cell 1, (h3.bel hb).cell 2, (h4.bel hb).cell 0, (h4.bel hb).cell 1, (h4.bel hb).cell 2⟩

set_option maxRecDepth 100000 in
set_option maxHeartbeats 8000000 in
theorem attrchecks_true (l : List (Int × Int)) (s t : Int) (A : Option Addr) (n c : Nat) (l' : List (Int × Int)) (s' t' : Int) (A' : Option Addr) (n' c' : Nat) (w : World) (hr : Rs w A n c l) (hr' : Rs w A' n' c' l') :
    Calls Try.prog 3 #[.agg #[.slice A n c, .int .i64 s, .int .i64 t], .agg #[.slice A' n' c', .int .i64 s', .int .i64 t']] w (Tells true w) := by
  have HA := Lib.hid awake_any
  obtain ⟨k1, k2, kb⟩ := two_boxes w 24 #[.slice A n c, .int .i64 s, .int .i64 t] #[.slice A' n' c', .int .i64 s', .int .i64 t']
  have HK1 := Lib.hid k1
  have HK2 := Lib.hid k2
  have HBW := Lib.hid kb
  clear k1 k2
  by_cases h1 : 60 < n
  · have b1 : decide ((60 : Int) < (n : Int)) = true := decide_eq_true (by omega)
    clear h1 hr hr' kb
    go_enter Try.func3, Try.ntmps3
    go_wp2_with fail
    refine (HA.out _).mono ?_
    rintro e w1 ⟨rfl, hb1⟩
    have HB := Lib.hid (bel_trans HBW.out hb1)
    clear hb1
    go_wp2_with fail
    go_ret
    exact ⟨rfl, HB.out⟩
  have b1 : decide ((60 : Int) < (n : Int)) = false := decide_eq_false (by omega)
  replace h1 : n ≤ 60 := by omega
  by_cases h2 : 60 < n'
  · have b2 : decide ((60 : Int) < (n' : Int)) = true := decide_eq_true (by omega)
    clear h2 hr hr' kb
    go_enter Try.func3, Try.ntmps3
    go_wp2_with fail
    refine (HA.out _).mono ?_
    rintro e w1 ⟨rfl, hb1⟩
    have HB := Lib.hid (bel_trans HBW.out hb1)
    clear hb1
    go_wp2_with fail
    go_ret
    exact ⟨rfl, HB.out⟩
  have b2 : decide ((60 : Int) < (n' : Int)) = false := decide_eq_false (by omega)
  replace h2 : n' ≤ 60 := by omega
  clear h1 h2
  have j1 := fun w (h : Rs w A n c l) (h' : Rs w A' n' c' l') => ajoin_any l s t A n c l' s' t' A' n' c' w h h'
  have j2 := fun w (h : Rs w A n c l) (h' : Rs w A' n' c' l') => refajoin_any l s t A n c l' s' t' A' n' c' w h h'
  have c1 := fun w (h : Rs w A n c l) => acheck_any l s t A n c w h
  have c2 := fun w (h : Rs w A n c l) => refacheck_any l s t A n c w h
  have s1 := fun w (h : Rs w A n c l) (h' : Rs w A' n' c' l') => asame_any l s t A n c l' s' t' A' n' c' w h h'
  have s2 := fun w (h : Rs w A n c l) (h' : Rs w A' n' c' l') => refasame_any l s t A n c l' s' t' A' n' c' w h h'
  generalize achk ⟨l, s, t⟩ = v at c1 c2
  generalize asame ⟨l, s, t⟩ ⟨l', s', t'⟩ = r at s1 s2
  generalize ajoin ⟨l, s, t⟩ ⟨l', s', t'⟩ = R at j1 j2
  obtain ⟨⟨J, S, T⟩, E⟩ := R
  have s3 := fun w B m d B' m' d' (h : Rs w B m d J) (h' : Rs w B' m' d' J) => refasame_any J S T B m d J S T B' m' d' w h h'
  rw [asame_self] at s3
  have HJ1 := Lib.hid j1
  have HJ2 := Lib.hid j2
  have HC1 := Lib.hid c1
  have HC2 := Lib.hid c2
  have HS1 := Lib.hid s1
  have HS2 := Lib.hid s2
  have HS3 := Lib.hid s3
  have HRa := Lib.hid (hr.below kb)
  have HRb := Lib.hid (hr'.below kb)
  clear kb hr hr' j1 j2 c1 c2 s1 s2 s3
  go_enter Try.func3, Try.ntmps3
  go_wp2_with fail
  refine (HJ1.out _ HRa.out HRb.out).mono ?_
  rintro e w1 ⟨B, m, d, rfl, hx, hb1⟩
  simp only at hx ⊢
  have HN := Lib.hid (Blk.new w1 24 #[.slice B m d, .int .i64 S, .int .i64 T])
  have HRN := Lib.hid (hx.alloc (.cells #[.slice B m d, .int .i64 S, .int .i64 T] 24))
  replace HK1 := Lib.hid ((HK1.out.bel hb1).alloc (.cells #[.slice B m d, .int .i64 S, .int .i64 T] 24))
  replace HK2 := Lib.hid ((HK2.out.bel hb1).alloc (.cells #[.slice B m d, .int .i64 S, .int .i64 T] 24))
  replace HRa := Lib.hid ((HRa.out.below hb1).alloc (.cells #[.slice B m d, .int .i64 S, .int .i64 T] 24))
  replace HRb := Lib.hid ((HRb.out.below hb1).alloc (.cells #[.slice B m d, .int .i64 S, .int .i64 T] 24))
  replace HBW := Lib.hid (bel_alloc (bel_trans HBW.out hb1) (.cells #[.slice B m d, .int .i64 S, .int .i64 T] 24))
  clear hb1 HJ1 hx
  have HK3 := HN
  have HRx := HRN
  clear HN HRN
  obtain ⟨x10, x11, x12⟩ := blk3 HK1.out
  obtain ⟨x20, x21, x22⟩ := blk3 HK2.out
  obtain ⟨x30, x31, x32⟩ := blk3 HK3.out
  go_wp2_with fail
  refine (HJ2.out _ HRa.out HRb.out).mono ?_
  rintro e w2 ⟨B', m', d', rfl, hx, hb1⟩
  simp only at hx ⊢
  have HN := Lib.hid (Blk.new w2 24 #[.slice B' m' d', .int .i64 S, .int .i64 T])
  have HRN := Lib.hid (hx.alloc (.cells #[.slice B' m' d', .int .i64 S, .int .i64 T] 24))
  replace HK1 := Lib.hid ((HK1.out.bel hb1).alloc (.cells #[.slice B' m' d', .int .i64 S, .int .i64 T] 24))
  replace HK2 := Lib.hid ((HK2.out.bel hb1).alloc (.cells #[.slice B' m' d', .int .i64 S, .int .i64 T] 24))
  replace HK3 := Lib.hid ((HK3.out.bel hb1).alloc (.cells #[.slice B' m' d', .int .i64 S, .int .i64 T] 24))
  replace HRa := Lib.hid ((HRa.out.below hb1).alloc (.cells #[.slice B' m' d', .int .i64 S, .int .i64 T] 24))
  replace HRb := Lib.hid ((HRb.out.below hb1).alloc (.cells #[.slice B' m' d', .int .i64 S, .int .i64 T] 24))
  replace HRx := Lib.hid ((HRx.out.below hb1).alloc (.cells #[.slice B' m' d', .int .i64 S, .int .i64 T] 24))
  replace HBW := Lib.hid (bel_alloc (bel_trans HBW.out hb1) (.cells #[.slice B' m' d', .int .i64 S, .int .i64 T] 24))
  clear x10 x11 x12 x20 x21 x22 x30 x31 x32
  clear hb1 HJ2 hx
  have HK4 := HN
  have HRy := HRN
  clear HN HRN
  obtain ⟨x10, x11, x12⟩ := blk3 HK1.out
  obtain ⟨x20, x21, x22⟩ := blk3 HK2.out
  obtain ⟨x30, x31, x32⟩ := blk3 HK3.out
  obtain ⟨x40, x41, x42⟩ := blk3 HK4.out
  go_upto_region 5 with fail
  obtain ⟨W, hW⟩ : ∃ W, w2.alloc (.cells #[.slice B' m' d', .int .i64 S, .int .i64 T] 24) = W := ⟨_, rfl⟩
  rw [hW] at HK1 HK2 HK3 HK4 HRa HRb HRx HRy HBW
  rw [hW]
  clear hW x10 x11 x12 x20 x21 x22 x30 x31 x32 x40 x41 x42
  have HCUR := Lib.hid (Below.drew (Below.refl W.heap.size W))
  go_region_held3 (fun w' => w'.cell? ⟨w.heap.size, 0, none⟩ = some (.slice A n c) ∧ w'.cell? ⟨w.heap.size, 1, none⟩ = some (.int .i64 s) ∧ w'.cell? ⟨w.heap.size, 2, none⟩ = some (.int .i64 t) ∧ w'.cell? ⟨w.heap.size + 1, 0, none⟩ = some (.slice A' n' c') ∧ w'.cell? ⟨w.heap.size + 1, 1, none⟩ = some (.int .i64 s') ∧ w'.cell? ⟨w.heap.size + 1, 2, none⟩ = some (.int .i64 t') ∧ w'.cell? ⟨w1.heap.size, 0, none⟩ = some (.slice B m d) ∧ w'.cell? ⟨w1.heap.size, 1, none⟩ = some (.int .i64 S) ∧ w'.cell? ⟨w1.heap.size, 2, none⟩ = some (.int .i64 T) ∧ w'.cell? ⟨w2.heap.size, 0, none⟩ = some (.slice B' m' d') ∧ w'.cell? ⟨w2.heap.size, 1, none⟩ = some (.int .i64 S) ∧ w'.cell? ⟨w2.heap.size, 2, none⟩ = some (.int .i64 T)) (with_reducible exact held12 HK1.out HK2.out HK3.out HK4.out HCUR.out)
      (first
      | (go_at_call 10
         refine (HC1.out _ (HRa.out.below HCUR.out)).mono ?_
         rintro e v1 ⟨rfl, hb1⟩
         have hnow := HCUR.out.trans (hb1.mono HCUR.out.size)
         replace HCUR := Lib.hid hnow
         clear HC1 hb1 hnow)
      | (go_at_call 11
         refine (HC2.out _ (HRa.out.below HCUR.out)).mono ?_
         rintro e v1 ⟨rfl, hb1⟩
         have hnow := HCUR.out.trans (hb1.mono HCUR.out.size)
         replace HCUR := Lib.hid hnow
         clear HC2 hb1 hnow)
      | (go_at_call 12
         refine (HS1.out _ (HRa.out.below HCUR.out) (HRb.out.below HCUR.out)).mono ?_
         rintro e v1 ⟨rfl, hb1⟩
         have hnow := HCUR.out.trans (hb1.mono HCUR.out.size)
         replace HCUR := Lib.hid hnow
         clear HS1 hb1 hnow)
      | (go_at_call 13
         refine (HS2.out _ (HRa.out.below HCUR.out) (HRb.out.below HCUR.out)).mono ?_
         rintro e v1 ⟨rfl, hb1⟩
         have hnow := HCUR.out.trans (hb1.mono HCUR.out.size)
         replace HCUR := Lib.hid hnow
         clear HS2 hb1 hnow)
      | (go_at_call 13
         refine (HS3.out _ _ _ _ _ _ _ (HRx.out.below HCUR.out) (HRy.out.below HCUR.out)).mono ?_
         rintro e v1 ⟨rfl, hb1⟩
         have hnow := HCUR.out.trans (hb1.mono HCUR.out.size)
         replace HCUR := Lib.hid hnow
         clear HS3 hb1 hnow)
      | (go_at_call 7
         refine (HA.out _).mono ?_
         rintro e v1 ⟨rfl, hb1⟩
         have hnow := HCUR.out.trans (hb1.mono HCUR.out.size)
         replace HCUR := Lib.hid hnow
         clear HA hb1 hnow))
  go_wp2_with fail
  go_ret
  exact ⟨rfl, bel_trans HBW.out HCUR.out⟩
end Go.Proofs.Ytccbkpdkmdnmfaa
