/-
  The walk of the statement AttrThree.
-/
import Derived.Test.YtccbkpdkmdnmfaaAttAwake
namespace Go.Proofs.Ytccbkpdkmdnmfaa
open Go.RowKit Mem Ids Att

set_option maxRecDepth 100000 in
set_option maxHeartbeats 8000000 in
theorem attrthree_true (l : List (Int × Int)) (s t : Int) (A : Option Addr) (n c : Nat) (l' : List (Int × Int)) (s' t' : Int) (A' : Option Addr) (n' c' : Nat) (l'' : List (Int × Int)) (s'' t'' : Int) (A'' : Option Addr) (n'' c'' : Nat) (w : World) (hr : Rs w A n c l) (hr' : Rs w A' n' c' l') (hr'' : Rs w A'' n'' c'' l'') :
    Calls Try.prog 6 #[.agg #[.slice A n c, .int .i64 s, .int .i64 t], .agg #[.slice A' n' c', .int .i64 s', .int .i64 t'], .agg #[.slice A'' n'' c'', .int .i64 s'', .int .i64 t'']] w (Tells true w) := by
  have HA := Lib.hid awake_any
  obtain ⟨k1, k2, k3, kb⟩ := three_boxes w 24 #[.slice A n c, .int .i64 s, .int .i64 t] #[.slice A' n' c', .int .i64 s', .int .i64 t'] #[.slice A'' n'' c'', .int .i64 s'', .int .i64 t'']
  have HK1 := Lib.hid k1
  have HK2 := Lib.hid k2
  have HK3 := Lib.hid k3
  have HBW := Lib.hid kb
  clear k1 k2 k3
  by_cases h1 : 60 < n
  · have b1 : decide ((60 : Int) < (n : Int)) = true := decide_eq_true (by omega)
    clear h1 hr hr' hr'' kb
    go_enter Try.func6, Try.ntmps6
    go_wp2_with fail
    refine (HA.out _).mono ?_
    rintro e w1 ⟨rfl, hb1⟩
    have HB := Lib.hid (bel_trans HBW.out hb1)
    clear hb1
    go_wp2_with fail
    go_ret
    exact ⟨rfl, HB.out⟩
  have b1 : decide ((60 : Int) < (n : Int)) = false := decide_eq_false (by omega)
  replace h1 : n ≤ 60 := by omega
  by_cases h2 : 60 < n'
  · have b2 : decide ((60 : Int) < (n' : Int)) = true := decide_eq_true (by omega)
    clear h2 hr hr' hr'' kb
    go_enter Try.func6, Try.ntmps6
    go_wp2_with fail
    refine (HA.out _).mono ?_
    rintro e w1 ⟨rfl, hb1⟩
    have HB := Lib.hid (bel_trans HBW.out hb1)
    clear hb1
    go_wp2_with fail
    go_ret
    exact ⟨rfl, HB.out⟩
  have b2 : decide ((60 : Int) < (n' : Int)) = false := decide_eq_false (by omega)
  replace h2 : n' ≤ 60 := by omega
  by_cases h3 : 60 < n''
  · have b3 : decide ((60 : Int) < (n'' : Int)) = true := decide_eq_true (by omega)
    clear h3 hr hr' hr'' kb
    go_enter Try.func6, Try.ntmps6
    go_wp2_with fail
    refine (HA.out _).mono ?_
    rintro e w1 ⟨rfl, hb1⟩
    have HB := Lib.hid (bel_trans HBW.out hb1)
    clear hb1
    go_wp2_with fail
    go_ret
    exact ⟨rfl, HB.out⟩
  have b3 : decide ((60 : Int) < (n'' : Int)) = false := decide_eq_false (by omega)
  replace h3 : n'' ≤ 60 := by omega
  have j1 := fun w (h : Rs w A n c l) (h' : Rs w A' n' c' l') => ajoin_any l s t A n c l' s' t' A' n' c' w h h'
  have j2 := fun w (h : Rs w A' n' c' l') (h' : Rs w A'' n'' c'' l'') => ajoin_any l' s' t' A' n' c' l'' s'' t'' A'' n'' c'' w h h'
  have hth := fun p q => ajoin_three (a := ⟨l, s, t⟩) (b := ⟨l', s', t'⟩) (c := ⟨l'', s'', t''⟩) p q (by show l.length ≤ 60; rw [hr.len]; exact h1) (by show l'.length ≤ 60; rw [hr'.len]; exact h2) (by show l''.length ≤ 60; rw [hr''.len]; exact h3)
  clear h1 h2 h3
  generalize ajoin ⟨l, s, t⟩ ⟨l', s', t'⟩ = R at j1 hth
  generalize ajoin ⟨l', s', t'⟩ ⟨l'', s'', t''⟩ = R' at j2 hth
  obtain ⟨⟨J, S, T⟩, E⟩ := R
  obtain ⟨⟨J', S', T'⟩, E'⟩ := R'
  simp only at hth
  have HTH := Lib.hid hth
  have HJ1 := Lib.hid j1
  have HJ2 := Lib.hid j2
  have HRa := Lib.hid (hr.below kb)
  have HRb := Lib.hid (hr'.below kb)
  have HRc := Lib.hid (hr''.below kb)
  clear kb hr hr' hr'' j1 j2 hth
  go_enter Try.func6, Try.ntmps6
  go_wp2_with fail
  refine (HJ1.out _ HRa.out HRb.out).mono ?_
  rintro e w1 ⟨B, m, d, rfl, hx, hb1⟩
  simp only at hx ⊢
  have HN := Lib.hid (Blk.new w1 24 #[.slice B m d, .int .i64 S, .int .i64 T])
  have HRN := Lib.hid (hx.alloc (.cells #[.slice B m d, .int .i64 S, .int .i64 T] 24))
  replace HK1 := Lib.hid ((HK1.out.bel hb1).alloc (.cells #[.slice B m d, .int .i64 S, .int .i64 T] 24))
  replace HK2 := Lib.hid ((HK2.out.bel hb1).alloc (.cells #[.slice B m d, .int .i64 S, .int .i64 T] 24))
  replace HK3 := Lib.hid ((HK3.out.bel hb1).alloc (.cells #[.slice B m d, .int .i64 S, .int .i64 T] 24))
  replace HRa := Lib.hid ((HRa.out.below hb1).alloc (.cells #[.slice B m d, .int .i64 S, .int .i64 T] 24))
  replace HRb := Lib.hid ((HRb.out.below hb1).alloc (.cells #[.slice B m d, .int .i64 S, .int .i64 T] 24))
  replace HRc := Lib.hid ((HRc.out.below hb1).alloc (.cells #[.slice B m d, .int .i64 S, .int .i64 T] 24))
  replace HBW := Lib.hid (bel_alloc (bel_trans HBW.out hb1) (.cells #[.slice B m d, .int .i64 S, .int .i64 T] 24))
  clear hb1 HJ1 hx
  have HK4 := HN
  have HRx := HRN
  clear HN HRN
  obtain ⟨x10, x11, x12⟩ := blk3 HK1.out
  obtain ⟨x20, x21, x22⟩ := blk3 HK2.out
  obtain ⟨x30, x31, x32⟩ := blk3 HK3.out
  obtain ⟨x40, x41, x42⟩ := blk3 HK4.out
  go_wp2_with fail
  refine (HJ2.out _ HRb.out HRc.out).mono ?_
  rintro e w2 ⟨B', m', d', rfl, hx, hb1⟩
  simp only at hx ⊢
  have HN := Lib.hid (Blk.new w2 24 #[.slice B' m' d', .int .i64 S', .int .i64 T'])
  have HRN := Lib.hid (hx.alloc (.cells #[.slice B' m' d', .int .i64 S', .int .i64 T'] 24))
  replace HK1 := Lib.hid ((HK1.out.bel hb1).alloc (.cells #[.slice B' m' d', .int .i64 S', .int .i64 T'] 24))
  replace HK2 := Lib.hid ((HK2.out.bel hb1).alloc (.cells #[.slice B' m' d', .int .i64 S', .int .i64 T'] 24))
  replace HK3 := Lib.hid ((HK3.out.bel hb1).alloc (.cells #[.slice B' m' d', .int .i64 S', .int .i64 T'] 24))
  replace HK4 := Lib.hid ((HK4.out.bel hb1).alloc (.cells #[.slice B' m' d', .int .i64 S', .int .i64 T'] 24))
  replace HRa := Lib.hid ((HRa.out.below hb1).alloc (.cells #[.slice B' m' d', .int .i64 S', .int .i64 T'] 24))
  replace HRb := Lib.hid ((HRb.out.below hb1).alloc (.cells #[.slice B' m' d', .int .i64 S', .int .i64 T'] 24))
  replace HRc := Lib.hid ((HRc.out.below hb1).alloc (.cells #[.slice B' m' d', .int .i64 S', .int .i64 T'] 24))
  replace HRx := Lib.hid ((HRx.out.below hb1).alloc (.cells #[.slice B' m' d', .int .i64 S', .int .i64 T'] 24))
  replace HBW := Lib.hid (bel_alloc (bel_trans HBW.out hb1) (.cells #[.slice B' m' d', .int .i64 S', .int .i64 T'] 24))
  clear x10 x11 x12 x20 x21 x22 x30 x31 x32 x40 x41 x42
  clear hb1 HJ2 hx
  have HK5 := HN
  have HRy := HRN
  clear HN HRN
  obtain ⟨x10, x11, x12⟩ := blk3 HK1.out
  obtain ⟨x20, x21, x22⟩ := blk3 HK2.out
  obtain ⟨x30, x31, x32⟩ := blk3 HK3.out
  obtain ⟨x40, x41, x42⟩ := blk3 HK4.out
  obtain ⟨x50, x51, x52⟩ := blk3 HK5.out
  by_cases hE : E = 0
  case neg =>
    have b4 : (E != 0) = true := bne_iff_ne.2 hE
    clear hE HTH
    go_wp2_with fail
    refine (HA.out _).mono ?_
    rintro e w3 ⟨rfl, hb1⟩
    replace HK1 := Lib.hid ((HK1.out.bel hb1))
    replace HK2 := Lib.hid ((HK2.out.bel hb1))
    replace HK3 := Lib.hid ((HK3.out.bel hb1))
    replace HK4 := Lib.hid ((HK4.out.bel hb1))
    replace HK5 := Lib.hid ((HK5.out.bel hb1))
    replace HRa := Lib.hid ((HRa.out.below hb1))
    replace HRb := Lib.hid ((HRb.out.below hb1))
    replace HRc := Lib.hid ((HRc.out.below hb1))
    replace HRx := Lib.hid ((HRx.out.below hb1))
    replace HRy := Lib.hid ((HRy.out.below hb1))
    replace HBW := Lib.hid (bel_trans HBW.out hb1)
    clear x10 x11 x12 x20 x21 x22 x30 x31 x32 x40 x41 x42 x50 x51 x52
    clear hb1
    go_wp2_with fail
    go_ret
    exact ⟨rfl, HBW.out⟩
  subst hE
  by_cases hE : E' = 0
  case neg =>
    have b4 : (E' != 0) = true := bne_iff_ne.2 hE
    clear hE HTH
    go_wp2_with fail
    refine (HA.out _).mono ?_
    rintro e w3 ⟨rfl, hb1⟩
    replace HK1 := Lib.hid ((HK1.out.bel hb1))
    replace HK2 := Lib.hid ((HK2.out.bel hb1))
    replace HK3 := Lib.hid ((HK3.out.bel hb1))
    replace HK4 := Lib.hid ((HK4.out.bel hb1))
    replace HK5 := Lib.hid ((HK5.out.bel hb1))
    replace HRa := Lib.hid ((HRa.out.below hb1))
    replace HRb := Lib.hid ((HRb.out.below hb1))
    replace HRc := Lib.hid ((HRc.out.below hb1))
    replace HRx := Lib.hid ((HRx.out.below hb1))
    replace HRy := Lib.hid ((HRy.out.below hb1))
    replace HBW := Lib.hid (bel_trans HBW.out hb1)
    clear x10 x11 x12 x20 x21 x22 x30 x31 x32 x40 x41 x42 x50 x51 x52
    clear hb1
    go_wp2_with fail
    go_ret
    exact ⟨rfl, HBW.out⟩
  subst hE
  obtain ⟨⟨J3, S3, T3⟩, z1, z2⟩ := HTH.out rfl rfl
  have j3 := fun w B m d (h : Rs w B m d J) (h' : Rs w A'' n'' c'' l'') => ajoin_any J S T B m d l'' s'' t'' A'' n'' c'' w h h'
  have j4 := fun w B m d (h : Rs w A n c l) (h' : Rs w B m d J') => ajoin_any l s t A n c J' S' T' B m d w h h'
  rw [z1] at j3
  rw [z2] at j4
  have s3 := fun w B m d B' m' d' (h : Rs w B m d J3) (h' : Rs w B' m' d' J3) => asame_any J3 S3 T3 B m d J3 S3 T3 B' m' d' w h h'
  rw [asame_self] at s3
  have HJ3 := Lib.hid j3
  have HJ4 := Lib.hid j4
  have HS3 := Lib.hid s3
  clear j3 j4 s3 z1 z2 HTH
  go_wp2_with fail
  refine (HJ3.out _ _ _ _ HRx.out HRc.out).mono ?_
  rintro e w3 ⟨P, mp, dp, rfl, hx, hb1⟩
  simp only at hx ⊢
  have HN := Lib.hid (Blk.new w3 24 #[.slice P mp dp, .int .i64 S3, .int .i64 T3])
  have HRN := Lib.hid (hx.alloc (.cells #[.slice P mp dp, .int .i64 S3, .int .i64 T3] 24))
  replace HK1 := Lib.hid ((HK1.out.bel hb1).alloc (.cells #[.slice P mp dp, .int .i64 S3, .int .i64 T3] 24))
  replace HK2 := Lib.hid ((HK2.out.bel hb1).alloc (.cells #[.slice P mp dp, .int .i64 S3, .int .i64 T3] 24))
  replace HK3 := Lib.hid ((HK3.out.bel hb1).alloc (.cells #[.slice P mp dp, .int .i64 S3, .int .i64 T3] 24))
  replace HK4 := Lib.hid ((HK4.out.bel hb1).alloc (.cells #[.slice P mp dp, .int .i64 S3, .int .i64 T3] 24))
  replace HK5 := Lib.hid ((HK5.out.bel hb1).alloc (.cells #[.slice P mp dp, .int .i64 S3, .int .i64 T3] 24))
  replace HRa := Lib.hid ((HRa.out.below hb1).alloc (.cells #[.slice P mp dp, .int .i64 S3, .int .i64 T3] 24))
  replace HRb := Lib.hid ((HRb.out.below hb1).alloc (.cells #[.slice P mp dp, .int .i64 S3, .int .i64 T3] 24))
  replace HRc := Lib.hid ((HRc.out.below hb1).alloc (.cells #[.slice P mp dp, .int .i64 S3, .int .i64 T3] 24))
  replace HRx := Lib.hid ((HRx.out.below hb1).alloc (.cells #[.slice P mp dp, .int .i64 S3, .int .i64 T3] 24))
  replace HRy := Lib.hid ((HRy.out.below hb1).alloc (.cells #[.slice P mp dp, .int .i64 S3, .int .i64 T3] 24))
  replace HBW := Lib.hid (bel_alloc (bel_trans HBW.out hb1) (.cells #[.slice P mp dp, .int .i64 S3, .int .i64 T3] 24))
  clear x10 x11 x12 x20 x21 x22 x30 x31 x32 x40 x41 x42 x50 x51 x52
  clear hb1 HJ3 hx
  have HK6 := HN
  have HRp := HRN
  clear HN HRN
  obtain ⟨x10, x11, x12⟩ := blk3 HK1.out
  obtain ⟨x20, x21, x22⟩ := blk3 HK2.out
  obtain ⟨x30, x31, x32⟩ := blk3 HK3.out
  obtain ⟨x40, x41, x42⟩ := blk3 HK4.out
  obtain ⟨x50, x51, x52⟩ := blk3 HK5.out
  obtain ⟨x60, x61, x62⟩ := blk3 HK6.out
  go_wp2_with fail
  refine (HJ4.out _ _ _ _ HRa.out HRy.out).mono ?_
  rintro e w4 ⟨Q, mq, dq, rfl, hx, hb1⟩
  simp only at hx ⊢
  have HN := Lib.hid (Blk.new w4 24 #[.slice Q mq dq, .int .i64 S3, .int .i64 T3])
  have HRN := Lib.hid (hx.alloc (.cells #[.slice Q mq dq, .int .i64 S3, .int .i64 T3] 24))
  replace HK1 := Lib.hid ((HK1.out.bel hb1).alloc (.cells #[.slice Q mq dq, .int .i64 S3, .int .i64 T3] 24))
  replace HK2 := Lib.hid ((HK2.out.bel hb1).alloc (.cells #[.slice Q mq dq, .int .i64 S3, .int .i64 T3] 24))
  replace HK3 := Lib.hid ((HK3.out.bel hb1).alloc (.cells #[.slice Q mq dq, .int .i64 S3, .int .i64 T3] 24))
  replace HK4 := Lib.hid ((HK4.out.bel hb1).alloc (.cells #[.slice Q mq dq, .int .i64 S3, .int .i64 T3] 24))
  replace HK5 := Lib.hid ((HK5.out.bel hb1).alloc (.cells #[.slice Q mq dq, .int .i64 S3, .int .i64 T3] 24))
  replace HK6 := Lib.hid ((HK6.out.bel hb1).alloc (.cells #[.slice Q mq dq, .int .i64 S3, .int .i64 T3] 24))
  replace HRa := Lib.hid ((HRa.out.below hb1).alloc (.cells #[.slice Q mq dq, .int .i64 S3, .int .i64 T3] 24))
  replace HRb := Lib.hid ((HRb.out.below hb1).alloc (.cells #[.slice Q mq dq, .int .i64 S3, .int .i64 T3] 24))
  replace HRc := Lib.hid ((HRc.out.below hb1).alloc (.cells #[.slice Q mq dq, .int .i64 S3, .int .i64 T3] 24))
  replace HRx := Lib.hid ((HRx.out.below hb1).alloc (.cells #[.slice Q mq dq, .int .i64 S3, .int .i64 T3] 24))
  replace HRy := Lib.hid ((HRy.out.below hb1).alloc (.cells #[.slice Q mq dq, .int .i64 S3, .int .i64 T3] 24))
  replace HRp := Lib.hid ((HRp.out.below hb1).alloc (.cells #[.slice Q mq dq, .int .i64 S3, .int .i64 T3] 24))
  replace HBW := Lib.hid (bel_alloc (bel_trans HBW.out hb1) (.cells #[.slice Q mq dq, .int .i64 S3, .int .i64 T3] 24))
  clear x10 x11 x12 x20 x21 x22 x30 x31 x32 x40 x41 x42 x50 x51 x52 x60 x61 x62
  clear hb1 HJ4 hx
  have HK7 := HN
  have HRq := HRN
  clear HN HRN
  obtain ⟨x10, x11, x12⟩ := blk3 HK1.out
  obtain ⟨x20, x21, x22⟩ := blk3 HK2.out
  obtain ⟨x30, x31, x32⟩ := blk3 HK3.out
  obtain ⟨x40, x41, x42⟩ := blk3 HK4.out
  obtain ⟨x50, x51, x52⟩ := blk3 HK5.out
  obtain ⟨x60, x61, x62⟩ := blk3 HK6.out
  obtain ⟨x70, x71, x72⟩ := blk3 HK7.out
  go_wp2_with fail
  refine (HS3.out _ _ _ _ _ _ _ HRp.out HRq.out).mono ?_
  rintro e w5 ⟨rfl, hb1⟩
  replace HK1 := Lib.hid ((HK1.out.bel hb1))
  replace HK2 := Lib.hid ((HK2.out.bel hb1))
  replace HK3 := Lib.hid ((HK3.out.bel hb1))
  replace HK4 := Lib.hid ((HK4.out.bel hb1))
  replace HK5 := Lib.hid ((HK5.out.bel hb1))
  replace HK6 := Lib.hid ((HK6.out.bel hb1))
  replace HK7 := Lib.hid ((HK7.out.bel hb1))
  replace HRa := Lib.hid ((HRa.out.below hb1))
  replace HRb := Lib.hid ((HRb.out.below hb1))
  replace HRc := Lib.hid ((HRc.out.below hb1))
  replace HRx := Lib.hid ((HRx.out.below hb1))
  replace HRy := Lib.hid ((HRy.out.below hb1))
  replace HRp := Lib.hid ((HRp.out.below hb1))
  replace HRq := Lib.hid ((HRq.out.below hb1))
  replace HBW := Lib.hid (bel_trans HBW.out hb1)
  clear x10 x11 x12 x20 x21 x22 x30 x31 x32 x40 x41 x42 x50 x51 x52 x60 x61 x62 x70 x71 x72
  clear hb1 HS3
  go_wp2_with fail
  refine (HA.out _).mono ?_
  rintro e w6 ⟨rfl, hb1⟩
  replace HK1 := Lib.hid ((HK1.out.bel hb1))
  replace HK2 := Lib.hid ((HK2.out.bel hb1))
  replace HK3 := Lib.hid ((HK3.out.bel hb1))
  replace HK4 := Lib.hid ((HK4.out.bel hb1))
  replace HK5 := Lib.hid ((HK5.out.bel hb1))
  replace HK6 := Lib.hid ((HK6.out.bel hb1))
  replace HK7 := Lib.hid ((HK7.out.bel hb1))
  replace HRa := Lib.hid ((HRa.out.below hb1))
  replace HRb := Lib.hid ((HRb.out.below hb1))
  replace HRc := Lib.hid ((HRc.out.below hb1))
  replace HRx := Lib.hid ((HRx.out.below hb1))
  replace HRy := Lib.hid ((HRy.out.below hb1))
  replace HRp := Lib.hid ((HRp.out.below hb1))
  replace HRq := Lib.hid ((HRq.out.below hb1))
  replace HBW := Lib.hid (bel_trans HBW.out hb1)
  clear hb1
  go_wp2_with fail
  go_ret
  exact ⟨rfl, HBW.out⟩
end Go.Proofs.Ytccbkpdkmdnmfaa
