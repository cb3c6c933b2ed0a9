/-
  The walk of the statement AttrJoins.
-/
import Derived.Test.YtccbkpdkmdnmfaaAttAwake
namespace Go.Proofs.Ytccbkpdkmdnmfaa
open Go.RowKit Mem Ids Att

def JoRel (n : Nat) (W : World) (v : Value) (wr : World) : Prop := ∃ k : Nat, v = .int .i64 (k : Int) ∧ k ≤ n ∧ Below W.heap.size W wr
theorem held4 {W w' : World} {g1 g3 g o : Nat} {t1 t3 : TypeId} {a b c a' b' c' u v : Value} (h1 : Blk W g1 t1 #[a, b, c]) (h3 : Blk W g3 t3 #[a', b', c']) (hg : g < W.heap.size) (e0 : W.cell? ⟨g, o, none⟩ = some u) (e1 : W.cell? ⟨g, o + 1, none⟩ = some v) (hb : Below W.heap.size W w') :
    w'.cell? ⟨g1, 0, none⟩ = some a ∧ w'.cell? ⟨g3, 0, none⟩ = some a' ∧ w'.cell? ⟨g, o, none⟩ = some u ∧ w'.cell? ⟨g, o + 1, none⟩ = some v :=
  ⟨(h1.bel hb).cell 0, (h3.bel hb).cell 0, (hb.cell (p := ⟨g, o, none⟩) hg).trans e0, (hb.cell (p := ⟨g, o + 1, none⟩) hg).trans e1⟩

set_option maxRecDepth 100000 in
set_option maxHeartbeats 8000000 in
theorem attrjoins_true (l : List (Int × Int)) (s t : Int) (A : Option Addr) (n c : Nat) (l' : List (Int × Int)) (s' t' : Int) (A' : Option Addr) (n' c' : Nat) (w : World) (hr : Rs w A n c l) (hr' : Rs w A' n' c' l') :
    Calls Try.prog 5 #[.agg #[.slice A n c, .int .i64 s, .int .i64 t], .agg #[.slice A' n' c', .int .i64 s', .int .i64 t']] w (Tells true w) := by
  have HA := Lib.hid awake_any
  obtain ⟨k1, k2, kb⟩ := two_boxes w 24 #[.slice A n c, .int .i64 s, .int .i64 t] #[.slice A' n' c', .int .i64 s', .int .i64 t']
  have HK1 := Lib.hid k1
  have HK2 := Lib.hid k2
  have HBW := Lib.hid kb
  clear k1 k2
  by_cases h1 : 60 < n
  · have b1 : decide ((60 : Int) < (n : Int)) = true := decide_eq_true (by omega)
    clear h1 hr hr' kb
    go_enter Try.func5, Try.ntmps5
    go_wp2_with fail
    refine (HA.out _).mono ?_
    rintro e w1 ⟨rfl, hb1⟩
    have HB := Lib.hid (bel_trans HBW.out hb1)
    clear hb1
    go_wp2_with fail
    go_ret
    exact ⟨rfl, HB.out⟩
  have b1 : decide ((60 : Int) < (n : Int)) = false := decide_eq_false (by omega)
  replace h1 : n ≤ 60 := by omega
  by_cases h2 : 60 < n'
  · have b2 : decide ((60 : Int) < (n' : Int)) = true := decide_eq_true (by omega)
    clear h2 hr hr' kb
    go_enter Try.func5, Try.ntmps5
    go_wp2_with fail
    refine (HA.out _).mono ?_
    rintro e w1 ⟨rfl, hb1⟩
    have HB := Lib.hid (bel_trans HBW.out hb1)
    clear hb1
    go_wp2_with fail
    go_ret
    exact ⟨rfl, HB.out⟩
  have b2 : decide ((60 : Int) < (n' : Int)) = false := decide_eq_false (by omega)
  replace h2 : n' ≤ 60 := by omega
  clear h2
  have j1 := fun w (h : Rs w A n c l) (h' : Rs w A' n' c' l') => ajoin_any l s t A n c l' s' t' A' n' c' w h h'
  have j2 := fun w (h : Rs w A n c l) (h' : Rs w A' n' c' l') => ajoin_any l' s' t' A' n' c' l s t A n c w h' h
  rw [ajoin_comm ⟨l', s', t'⟩ ⟨l, s, t⟩] at j2
  have hnone := @ajoin_none ⟨l, s, t⟩ ⟨l', s', t'⟩
  have hright := @ajoin_right ⟨l, s, t⟩ ⟨l', s', t'⟩
  have hstays := @ajoin_stays ⟨l, s, t⟩ ⟨l', s', t'⟩
  have hhas := @ajoin_has ⟨l, s, t⟩ ⟨l', s', t'⟩
  generalize ajoin ⟨l, s, t⟩ ⟨l', s', t'⟩ = R at j1 j2 hnone hright hstays hhas
  obtain ⟨⟨J, S, T⟩, E⟩ := R
  simp only at hnone hright hstays hhas
  have s1 := fun w B m d B' m' d' (h : Rs w B m d J) (h' : Rs w B' m' d' J) => asame_any J S T B m d J S T B' m' d' w h h'
  rw [asame_self] at s1
  have HJ1 := Lib.hid j1
  have HJ2 := Lib.hid j2
  have HS1 := Lib.hid s1
  have HNO := Lib.hid hnone
  have HRI := Lib.hid hright
  have HST := Lib.hid hstays
  have HHA := Lib.hid hhas
  have HRa := Lib.hid (hr.below kb)
  have HRb := Lib.hid (hr'.below kb)
  have hla := hr.len
  have hca := And.intro hr.le hr.cap
  unfold maxLen at hca
  clear kb hr hr' j1 j2 s1 hnone hright hstays hhas
  go_enter Try.func5, Try.ntmps5
  go_wp2_with fail
  refine (HJ1.out _ HRa.out HRb.out).mono ?_
  rintro e w1 ⟨B, m, d, rfl, hx, hb1⟩
  simp only at hx ⊢
  have HN := Lib.hid (Blk.new w1 24 #[.slice B m d, .int .i64 S, .int .i64 T])
  have HRN := Lib.hid (hx.alloc (.cells #[.slice B m d, .int .i64 S, .int .i64 T] 24))
  replace HK1 := Lib.hid ((HK1.out.bel hb1).alloc (.cells #[.slice B m d, .int .i64 S, .int .i64 T] 24))
  replace HK2 := Lib.hid ((HK2.out.bel hb1).alloc (.cells #[.slice B m d, .int .i64 S, .int .i64 T] 24))
  replace HRa := Lib.hid ((HRa.out.below hb1).alloc (.cells #[.slice B m d, .int .i64 S, .int .i64 T] 24))
  replace HRb := Lib.hid ((HRb.out.below hb1).alloc (.cells #[.slice B m d, .int .i64 S, .int .i64 T] 24))
  replace HBW := Lib.hid (bel_alloc (bel_trans HBW.out hb1) (.cells #[.slice B m d, .int .i64 S, .int .i64 T] 24))
  clear hb1 HJ1 hx
  have HK3 := HN
  have HRx := HRN
  clear HN HRN
  obtain ⟨x10, x11, x12⟩ := blk3 HK1.out
  obtain ⟨x20, x21, x22⟩ := blk3 HK2.out
  obtain ⟨x30, x31, x32⟩ := blk3 HK3.out
  go_wp2_with fail
  refine (HJ2.out _ HRa.out HRb.out).mono ?_
  rintro e w2 ⟨B', m', d', rfl, hx, hb1⟩
  simp only at hx ⊢
  have HN := Lib.hid (Blk.new w2 24 #[.slice B' m' d', .int .i64 S, .int .i64 T])
  have HRN := Lib.hid (hx.alloc (.cells #[.slice B' m' d', .int .i64 S, .int .i64 T] 24))
  replace HK1 := Lib.hid ((HK1.out.bel hb1).alloc (.cells #[.slice B' m' d', .int .i64 S, .int .i64 T] 24))
  replace HK2 := Lib.hid ((HK2.out.bel hb1).alloc (.cells #[.slice B' m' d', .int .i64 S, .int .i64 T] 24))
  replace HK3 := Lib.hid ((HK3.out.bel hb1).alloc (.cells #[.slice B' m' d', .int .i64 S, .int .i64 T] 24))
  replace HRa := Lib.hid ((HRa.out.below hb1).alloc (.cells #[.slice B' m' d', .int .i64 S, .int .i64 T] 24))
  replace HRb := Lib.hid ((HRb.out.below hb1).alloc (.cells #[.slice B' m' d', .int .i64 S, .int .i64 T] 24))
  replace HRx := Lib.hid ((HRx.out.below hb1).alloc (.cells #[.slice B' m' d', .int .i64 S, .int .i64 T] 24))
  replace HBW := Lib.hid (bel_alloc (bel_trans HBW.out hb1) (.cells #[.slice B' m' d', .int .i64 S, .int .i64 T] 24))
  clear x10 x11 x12 x20 x21 x22 x30 x31 x32
  clear hb1 HJ2 hx
  have HK4 := HN
  have HRy := HRN
  clear HN HRN
  obtain ⟨x10, x11, x12⟩ := blk3 HK1.out
  obtain ⟨x20, x21, x22⟩ := blk3 HK2.out
  obtain ⟨x30, x31, x32⟩ := blk3 HK3.out
  obtain ⟨x40, x41, x42⟩ := blk3 HK4.out
  go_wp2_with fail
  refine (HS1.out _ _ _ _ _ _ _ HRx.out HRy.out).mono ?_
  rintro e w3 ⟨rfl, hb1⟩
  replace HK1 := Lib.hid ((HK1.out.bel hb1))
  replace HK2 := Lib.hid ((HK2.out.bel hb1))
  replace HK3 := Lib.hid ((HK3.out.bel hb1))
  replace HK4 := Lib.hid ((HK4.out.bel hb1))
  replace HRa := Lib.hid ((HRa.out.below hb1))
  replace HRb := Lib.hid ((HRb.out.below hb1))
  replace HRx := Lib.hid ((HRx.out.below hb1))
  replace HRy := Lib.hid ((HRy.out.below hb1))
  replace HBW := Lib.hid (bel_trans HBW.out hb1)
  clear x10 x11 x12 x20 x21 x22 x30 x31 x32 x40 x41 x42
  clear hb1
  obtain ⟨x10, x11, x12⟩ := blk3 HK1.out
  obtain ⟨x20, x21, x22⟩ := blk3 HK2.out
  obtain ⟨x30, x31, x32⟩ := blk3 HK3.out
  obtain ⟨x40, x41, x42⟩ := blk3 HK4.out
  by_cases hE : E = 0
  case neg =>
    have b4 : (E != 0) = true := bne_iff_ne.2 hE
    have hz := HNO.out hE
    have hm : m = 0 := by
      have h1 := congrArg At.dp hz
      have h2 := HRx.out.len
      simp only [zeroAt] at h1
      rw [h1] at h2
      simpa using h2.symm
    have hT : T = 0 := congrArg At.tg hz
    subst hm; subst hT
    clear hE HNO HRI HST HHA HS1 hz
    go_wp2_with fail
    refine (HA.out _).mono ?_
    rintro e w4 ⟨rfl, hb1⟩
    replace HK1 := Lib.hid ((HK1.out.bel hb1))
    replace HK2 := Lib.hid ((HK2.out.bel hb1))
    replace HK3 := Lib.hid ((HK3.out.bel hb1))
    replace HK4 := Lib.hid ((HK4.out.bel hb1))
    replace HRa := Lib.hid ((HRa.out.below hb1))
    replace HRb := Lib.hid ((HRb.out.below hb1))
    replace HRx := Lib.hid ((HRx.out.below hb1))
    replace HRy := Lib.hid ((HRy.out.below hb1))
    replace HBW := Lib.hid (bel_trans HBW.out hb1)
    clear x10 x11 x12 x20 x21 x22 x30 x31 x32 x40 x41 x42
    clear hb1
    go_wp2_with fail
    go_ret
    exact ⟨rfl, HBW.out⟩
  subst hE
  have hz := HST.out rfl
  have hup := achk_up (HRI.out rfl)
  have hml : m ≤ 1073741824 := by
    have h1 := achk_len (HRI.out rfl)
    have h2 := HRx.out.len
    simp only at h1
    omega
  simp only at hup
  have j3 := fun w B m d (h : Rs w B m d J) (h' : Rs w A n c l) => ajoin_any J S T B m d l s t A n c w h h'
  rw [hz] at j3
  have c3 := fun w B m d (h : Rs w B m d J) => acheck_any J S T B m d w h
  rw [HRI.out rfl] at c3
  have HJ3 := Lib.hid j3
  have HC3 := Lib.hid c3
  have HH := Lib.hid (fun w (i : Int × Int) (h : Rs w B m d J) => has_any J i B m d w h hup hml)
  obtain ⟨hin, q1, q2⟩ := HHA.out rfl
  have g1 : decide (s ≤ S) = true := decide_eq_true q1
  have g2 : decide (s' ≤ S) = true := decide_eq_true q2
  have HIN := Lib.hid hin
  clear hz hup hml j3 c3 hin q1 q2 HNO HRI HST HHA
  go_wp2_with fail
  refine (HJ3.out _ _ _ _ HRx.out HRa.out).mono ?_
  rintro e w4 ⟨C, mc, dc, rfl, hx, hb1⟩
  simp only at hx ⊢
  have HN := Lib.hid (Blk.new w4 24 #[.slice C mc dc, .int .i64 S, .int .i64 T])
  have HRN := Lib.hid (hx.alloc (.cells #[.slice C mc dc, .int .i64 S, .int .i64 T] 24))
  replace HK1 := Lib.hid ((HK1.out.bel hb1).alloc (.cells #[.slice C mc dc, .int .i64 S, .int .i64 T] 24))
  replace HK2 := Lib.hid ((HK2.out.bel hb1).alloc (.cells #[.slice C mc dc, .int .i64 S, .int .i64 T] 24))
  replace HK3 := Lib.hid ((HK3.out.bel hb1).alloc (.cells #[.slice C mc dc, .int .i64 S, .int .i64 T] 24))
  replace HK4 := Lib.hid ((HK4.out.bel hb1).alloc (.cells #[.slice C mc dc, .int .i64 S, .int .i64 T] 24))
  replace HRa := Lib.hid ((HRa.out.below hb1).alloc (.cells #[.slice C mc dc, .int .i64 S, .int .i64 T] 24))
  replace HRb := Lib.hid ((HRb.out.below hb1).alloc (.cells #[.slice C mc dc, .int .i64 S, .int .i64 T] 24))
  replace HRx := Lib.hid ((HRx.out.below hb1).alloc (.cells #[.slice C mc dc, .int .i64 S, .int .i64 T] 24))
  replace HRy := Lib.hid ((HRy.out.below hb1).alloc (.cells #[.slice C mc dc, .int .i64 S, .int .i64 T] 24))
  replace HBW := Lib.hid (bel_alloc (bel_trans HBW.out hb1) (.cells #[.slice C mc dc, .int .i64 S, .int .i64 T] 24))
  clear x10 x11 x12 x20 x21 x22 x30 x31 x32 x40 x41 x42
  clear hb1 HJ3 hx
  have HK5 := HN
  have HRz := HRN
  clear HN HRN
  obtain ⟨W, hW⟩ : ∃ W, w4.alloc (.cells #[.slice C mc dc, .int .i64 S, .int .i64 T] 24) = W := ⟨_, rfl⟩
  rw [hW] at HK1 HK2 HK3 HK4 HK5 HRa HRb HRx HRy HRz HBW
  go_wp2_with fail
  try rw [hW]
  clear hW
  go_loopw [11] (JoRel n W) (fun v _ => n - (intOf v).toNat)
  case atStart => exact ⟨0, rfl, Nat.zero_le _, Below.refl _ _⟩
  case round =>
    obtain ⟨k, rfl, hk, hbw⟩ := hrel
    by_cases hlt : k < n
    · obtain ⟨g, o, x, rfl, hg, hx, c1, c2⟩ := (HRa.out.below hbw).at_ hlt
      have hh := fun w h => HH.out w x h
      rw [decide_eq_true (HIN.out x (List.mem_of_getElem? hx))] at hh
      have HHX := Lib.hid hh
      obtain ⟨x1, x2⟩ := x
      simp only at c1 c2 HHX
      have H1 := Lib.hid (HK1.out.bel hbw)
      have H3 := Lib.hid (HK3.out.bel hbw)
      obtain ⟨f0, f1, f2⟩ := blk3 H1.out
      have HBR := Lib.hid hbw
      have HXR := Lib.hid (HRx.out.below hbw)
      have HCUR := Lib.hid (Below.drew (Below.refl wr.heap.size wr))
      clear hbw hx hh
      go_wp2_with fail
      go_region_held3 (fun w' => w'.cell? ⟨w.heap.size, 0, none⟩ = some (.slice (some ⟨g, o, none⟩) n c) ∧ w'.cell? ⟨w1.heap.size, 0, none⟩ = some (.slice B m d) ∧ w'.cell? ⟨g, o + k * 2, none⟩ = some (.int .i64 x1) ∧ w'.cell? ⟨g, o + k * 2 + 1, none⟩ = some (.int .i64 x2)) (with_reducible exact held4 H1.out H3.out hg c1 c2 HCUR.out)
        (first
        | (go_at_call 24
           refine (HHX.out _ (HXR.out.below HCUR.out)).mono ?_
           rintro e v1 ⟨rfl, hb1⟩
           have hnow := HCUR.out.trans (hb1.mono HCUR.out.size)
           replace HCUR := Lib.hid hnow
           clear HHX hb1 hnow))
      go_wp2_with fail
      go_roundw
      case rel => exact ⟨k + 1, by simp, by omega, bel_trans HBR.out HCUR.out⟩
      case measure =>
        simp [intOf]
        omega
    · replace HBW := Lib.hid (bel_trans HBW.out hbw)
      replace HK1 := Lib.hid (HK1.out.bel hbw)
      replace HK2 := Lib.hid (HK2.out.bel hbw)
      replace HK3 := Lib.hid (HK3.out.bel hbw)
      replace HK5 := Lib.hid (HK5.out.bel hbw)
      replace HRx := Lib.hid (HRx.out.below hbw)
      replace HRz := Lib.hid (HRz.out.below hbw)
      clear hbw HK4 HRa HRb HRy HH HIN
      obtain ⟨x10, x11, x12⟩ := blk3 HK1.out
      obtain ⟨x20, x21, x22⟩ := blk3 HK2.out
      obtain ⟨x30, x31, x32⟩ := blk3 HK3.out
      obtain ⟨x50, x51, x52⟩ := blk3 HK5.out
      go_wp2_with fail
      refine (HC3.out _ _ _ _ HRx.out).mono ?_
      rintro e w5 ⟨rfl, hb1⟩
      replace HK1 := Lib.hid ((HK1.out.bel hb1))
      replace HK2 := Lib.hid ((HK2.out.bel hb1))
      replace HK3 := Lib.hid ((HK3.out.bel hb1))
      replace HK5 := Lib.hid ((HK5.out.bel hb1))
      replace HRx := Lib.hid ((HRx.out.below hb1))
      replace HRz := Lib.hid ((HRz.out.below hb1))
      replace HBW := Lib.hid (bel_trans HBW.out hb1)
      clear x10 x11 x12 x20 x21 x22 x30 x31 x32 x50 x51 x52
      clear hb1 HC3
      obtain ⟨x10, x11, x12⟩ := blk3 HK1.out
      obtain ⟨x20, x21, x22⟩ := blk3 HK2.out
      obtain ⟨x30, x31, x32⟩ := blk3 HK3.out
      obtain ⟨x50, x51, x52⟩ := blk3 HK5.out
      go_wp2_with fail
      refine (HS1.out _ _ _ _ _ _ _ HRx.out HRz.out).mono ?_
      rintro e w6 ⟨rfl, hb1⟩
      replace HK1 := Lib.hid ((HK1.out.bel hb1))
      replace HK2 := Lib.hid ((HK2.out.bel hb1))
      replace HK3 := Lib.hid ((HK3.out.bel hb1))
      replace HK5 := Lib.hid ((HK5.out.bel hb1))
      replace HRx := Lib.hid ((HRx.out.below hb1))
      replace HRz := Lib.hid ((HRz.out.below hb1))
      replace HBW := Lib.hid (bel_trans HBW.out hb1)
      clear x10 x11 x12 x20 x21 x22 x30 x31 x32 x50 x51 x52
      clear hb1 HS1
      obtain ⟨x10, x11, x12⟩ := blk3 HK1.out
      obtain ⟨x20, x21, x22⟩ := blk3 HK2.out
      obtain ⟨x30, x31, x32⟩ := blk3 HK3.out
      obtain ⟨x50, x51, x52⟩ := blk3 HK5.out
      go_wp2_with fail
      refine (HA.out _).mono ?_
      rintro e w7 ⟨rfl, hb1⟩
      replace HK1 := Lib.hid ((HK1.out.bel hb1))
      replace HK2 := Lib.hid ((HK2.out.bel hb1))
      replace HK3 := Lib.hid ((HK3.out.bel hb1))
      replace HK5 := Lib.hid ((HK5.out.bel hb1))
      replace HRx := Lib.hid ((HRx.out.below hb1))
      replace HRz := Lib.hid ((HRz.out.below hb1))
      replace HBW := Lib.hid (bel_trans HBW.out hb1)
      clear x10 x11 x12 x20 x21 x22 x30 x31 x32 x50 x51 x52
      clear hb1
      go_wp2_with fail
      go_ret
      exact ⟨rfl, HBW.out⟩
end Go.Proofs.Ytccbkpdkmdnmfaa
