/-
  The walk of the law NumApart: it answers true, whatever the two numbers; what was there stays.
-/
import Derived.Test.YtagcejdcmkihpaaNumAwake
namespace Go.Proofs.Ytagcejdcmkihpaa
open Go.RowKit Mem

theorem min_max_facts (a b : Int) (ha : 0 ≤ a) (hb : 0 ≤ b) (h : a ≠ b) (ha2 : a ≤ 18446744073709551615) (hb2 : b ≤ 18446744073709551615) :
    0 ≤ min a b ∧ min a b ≤ 18446744073709551615 ∧ 0 ≤ max a b ∧ max a b ≤ 18446744073709551615 ∧
    Num.put (min a b).toNat ≠ (Num.put (max a b).toNat).take (Num.put (min a b).toNat).length ∧
    (Num.put (min a b).toNat).length ≤ (Num.put (max a b).toNat).length ∧ 1 ≤ (Num.put (min a b).toNat).length ∧ (Num.put (max a b).toNat).length ≤ 9 := by
  have h1 : 0 ≤ min a b ∧ min a b < max a b ∧ max a b ≤ 18446744073709551615 := by omega
  generalize min a b = x at *
  generalize max a b = y at *
  refine ⟨by omega, by omega, by omega, by omega, ?_, ?_, ?_, ?_⟩
  · rw [Num.length_put]; exact Num.put_apart _ _ (by omega) (by omega) (by omega)
  · rw [Num.length_put, Num.length_put]; exact Num.size_mono _ _ (by omega) (by omega)
  · rw [Num.length_put]; exact Num.size_pos _
  · rw [Num.length_put]; exact Num.size_le _ (by omega)

set_option maxHeartbeats 1000000 in
theorem apart_ne (a b : Int) (w : World) (ha : 0 ≤ a) (hb : 0 ≤ b) (ha2 : a ≤ 18446744073709551615) (hb2 : b ≤ 18446744073709551615) (h : a ≠ b) :
    Calls Try.prog 6 #[.int .u64 a, .int .u64 b] w (Tells true w) := by
  have hne : (a == b) = false := by simp; omega
  obtain ⟨l1, l2, u1, u2, hap, hle, hpos, h9⟩ := min_max_facts a b ha hb h ha2 hb2
  have hpx : ∃ p m, [] ++ Num.put (min a b).toNat = p ∧ p.length = m := ⟨_, _, rfl, rfl⟩
  have hpy : ∃ p m, [] ++ Num.put (max a b).toNat = p ∧ p.length = m := ⟨_, _, rfl, rfl⟩
  obtain ⟨p, m, hp, hm⟩ := hpx
  obtain ⟨q, l, hq, hl⟩ := hpy
  have HPX := put_gives none 0 0 m [] p (min a b) w (Rd.nil_ _) l1 l2 (by omega) hp hm
  have HPY := Lib.hid fun W : World => put_gives none 0 0 l [] q (max a b) W (Rd.nil_ _) u1 u2 (by omega) hq hl
  simp only [List.nil_append] at hp hq
  rw [hp] at hap hle hpos
  rw [hq] at hap hle h9
  rw [hm] at hap hle hpos
  rw [hl] at hle h9
  have HAP : Hid (decide (p = q.take m) = false) := by simpa [Hid] using hap
  have HPX2 := Lib.hid HPX
  have HM := Lib.hid hm
  have HL := Lib.hid hl
  have d1 : decide (l < m) = false := by simp; omega
  have d2 : ((m : Int) == 0) = false := by simp; omega
  clear hap HPX hp hq hm hl h
  go_enter Try.func6, Try.ntmps6
  go_wp2_with fail
  refine HPX2.out.mono ?_
  rintro e w1 ⟨A1, c1, rfl, hr1, hb1⟩
  go_wp2_with fail
  refine (HPY.out _).mono ?_
  rintro e w2 ⟨A2, c2, rfl, hr2, hb2⟩
  have hc2 := hr2.le
  go_wp2_with fail
  have hr2' := hr2.take hle
  rw [cs_take] at hr2'
  refine (same_tells A1 A2 m m c1 c2 p (q.take m) false _ (hr1.below hb2) hr2' HAP.out).mono ?_
  rintro e w3 ⟨rfl, hb3⟩
  go_wp2_with fail
  refine (awake_true _).mono ?_
  rintro e w4 ⟨rfl, hb4⟩
  go_wp2_with fail
  go_ret
  exact ⟨rfl, bel_trans (bel_trans (bel_trans hb1 hb2) hb3) hb4⟩

set_option maxHeartbeats 1000000 in
theorem apart_eq (a : Int) (w : World) :
    Calls Try.prog 6 #[.int .u64 a, .int .u64 a] w (Tells true w) := by
  go_enter Try.func6, Try.ntmps6
  go_wp2_with fail
  refine (awake_true _).mono ?_
  rintro e w4 ⟨rfl, hb4⟩
  go_wp2_with fail
  go_ret
  exact ⟨rfl, hb4⟩

theorem numApart_walk (a b : Int) (w : World) (wa : (Lit.int .u64 a).wf = true) (wb : (Lit.int .u64 b).wf = true) :
    Calls Try.prog 6 #[.int .u64 a, .int .u64 b] w fun e w' => e = .returned (.bool true) ∧ Below w.heap.size w w' := by
  have h1 := bounds_u64 wa
  have h2 := bounds_u64 wb
  by_cases h : a = b
  · subst h; exact apart_eq a w
  · exact apart_ne a b w h1.1 h2.1 h1.2 h2.2 h

end Go.Proofs.Ytagcejdcmkihpaa
