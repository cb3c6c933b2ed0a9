/-
  attr.ranged, Check and Same, and the document's: what is wrong with any one, and whether two are the same.
-/
import Derived.Test.YtccbkpdkmdnmfaaAttPlain
import Derived.Test.YtccbkpdkmdnmfaaIdsCheck
import Derived.Test.YtccbkpdkmdnmfaaIdsHas
namespace Go.Proofs.Ytccbkpdkmdnmfaa
open Go.RowKit Mem Ids Att

def Checks (v : Int) (w : World) (e : Ending) (w' : World) : Prop := e = .returned (.int .i64 v) ∧ Below w.heap.size w w'

/-- The answer of a check behind the tag: whether the number and the ids are right. -/
def chk2 (r k : Bool) : Int := if r = true then if k = true then 0 else 4 else 6
theorem ranged_any (s t : Int) (A : Option Addr) (n c : Nat) (w : World) :
    Calls Try.prog 28 #[.agg #[.slice A n c, .int .i64 s, .int .i64 t]] w (Tells (aranged s t) w) := by
  go_enter Try.func28, Try.ntmps28
  go_wp2_with fail
  all_goals
    go_ret
    exact ⟨by simp_all [aranged] <;> first | rfl | omega, bel_alloc (Below.refl _ _) _⟩

theorem blk3 {w : World} {g : Nat} {t : TypeId} {a b c : Value} (h : Blk w g t #[a, b, c]) : w.cell? ⟨g, 0, none⟩ = some a ∧ w.cell? ⟨g, 1, none⟩ = some b ∧ w.cell? ⟨g, 2, none⟩ = some c :=
  ⟨h.cell 0, h.cell 1, h.cell 2⟩

/-- Two boxes just made. -/
theorem two_boxes (w : World) (t : TypeId) (a b : Array Value) : Blk ((w.alloc (.cells a t)).alloc (.cells b t)) w.heap.size t a ∧ Blk ((w.alloc (.cells a t)).alloc (.cells b t)) (w.heap.size + 1) t b ∧ Below w.heap.size w ((w.alloc (.cells a t)).alloc (.cells b t)) := by
  refine ⟨(Blk.new w t a).alloc _, ?_, ((Below.refl w.heap.size w).alloc (Nat.le_refl _) _).alloc (by rw [size_alloc]; omega) _⟩
  have h := Blk.new (w.alloc (.cells a t)) t b
  rwa [size_alloc] at h

set_option maxHeartbeats 1000000 in
theorem acheck_any (l : List (Int × Int)) (s t : Int) (A : Option Addr) (n c : Nat) (w : World) (hr : Rs w A n c l) :
    Calls Try.prog 10 #[.agg #[.slice A n c, .int .i64 s, .int .i64 t]] w (Checks (achk ⟨l, s, t⟩) w) := by
  by_cases ht : t = 1 ∨ t = 2
  · have hc : achk ⟨l, s, t⟩ = chk2 (aranged s t) (Ids.chk l) := if_pos ht
    rw [hc]
    have H1 := Lib.hid (fun w => ranged_any s t A n c w)
    have H2 := Lib.hid (fun w (h : Rs w A n c l) => check_any l A n c w h)
    generalize aranged s t = r at H1 ⊢
    generalize Ids.chk l = k at H2 ⊢
    have hk := Blk.new w 24 #[.slice A n c, .int .i64 s, .int .i64 t]
    have HB := Lib.hid (bel_alloc (Below.refl w.heap.size w) (.cells #[.slice A n c, .int .i64 s, .int .i64 t] 24))
    have HK := Lib.hid hk
    have HR := Lib.hid (hr.alloc (.cells #[.slice A n c, .int .i64 s, .int .i64 t] 24))
    clear hk hr hc
    rcases ht with rfl | rfl
    all_goals
      go_enter Try.func10, Try.ntmps10
      go_wp2_with fail
      refine (H1.out _).mono ?_
      rintro e w1 ⟨rfl, hb1⟩
      obtain ⟨p0, p1, p2⟩ := blk3 (HK.out.bel hb1)
      have HB1 := Lib.hid (bel_trans HB.out hb1)
      have HR1 := Lib.hid (HR.out.below hb1)
      clear hb1
      cases r with
      | false =>
        go_wp2_with fail
        go_ret
        exact ⟨rfl, HB1.out⟩
      | true =>
        go_wp2_with fail
        refine (H2.out _ HR1.out).mono ?_
        rintro e w2 ⟨rfl, hb2⟩
        have HB2 := Lib.hid (bel_trans HB1.out hb2)
        clear hb2
        cases k
        all_goals
          go_wp2_with fail
          go_ret
          exact ⟨rfl, HB2.out⟩
  · have hc : achk ⟨l, s, t⟩ = 17 := if_neg ht
    rw [hc]
    have n1 : (t != 1) = true := bne_iff_ne.2 fun h => ht (.inl h)
    have n2 : (t != 2) = true := bne_iff_ne.2 fun h => ht (.inr h)
    clear hc ht hr
    go_enter Try.func10, Try.ntmps10
    go_wp2_with fail
    go_ret
    exact ⟨rfl, bel_alloc (Below.refl _ _) _⟩

set_option maxHeartbeats 1000000 in
theorem refacheck_any (l : List (Int × Int)) (s t : Int) (A : Option Addr) (n c : Nat) (w : World) (hr : Rs w A n c l) :
    Calls Try.prog 11 #[.agg #[.slice A n c, .int .i64 s, .int .i64 t]] w (Checks (achk ⟨l, s, t⟩) w) := by
  by_cases ht : t = 1 ∨ t = 2
  · have hc : achk ⟨l, s, t⟩ = chk2 (aranged s t) (Ids.chk l) := if_pos ht
    rw [hc]
    have H2 := Lib.hid (fun w (h : Rs w A n c l) => refcheck_any l A n c w h)
    generalize Ids.chk l = k at H2 ⊢
    have hk := Blk.new w 24 #[.slice A n c, .int .i64 s, .int .i64 t]
    have HB := Lib.hid (bel_alloc (Below.refl w.heap.size w) (.cells #[.slice A n c, .int .i64 s, .int .i64 t] 24))
    have HK := Lib.hid hk
    have HR := Lib.hid (hr.alloc (.cells #[.slice A n c, .int .i64 s, .int .i64 t] 24))
    clear hk hr hc
    cases hra : aranged s t with
    | true =>
      rcases ht with rfl | rfl
      · have hs : 1 ≤ s ∧ s ≤ 1099511627776 := by simpa [aranged] using hra
        have b1 : decide (s < 1) = false := decide_eq_false (by omega)
        have b2 : decide (1099511627776 < s) = false := decide_eq_false (by omega)
        clear hra hs
        go_enter Try.func11, Try.ntmps11
        go_wp2_with fail
        refine (H2.out _ HR.out).mono ?_
        rintro e w2 ⟨rfl, hb2⟩
        have HB2 := Lib.hid (bel_trans HB.out hb2)
        clear hb2
        cases k
        all_goals
          go_wp2_with fail
          go_ret
          exact ⟨rfl, HB2.out⟩
      · have hs : s = 0 := by simpa [aranged] using hra
        subst hs
        clear hra
        go_enter Try.func11, Try.ntmps11
        go_wp2_with fail
        refine (H2.out _ HR.out).mono ?_
        rintro e w2 ⟨rfl, hb2⟩
        have HB2 := Lib.hid (bel_trans HB.out hb2)
        clear hb2
        cases k
        all_goals
          go_wp2_with fail
          go_ret
          exact ⟨rfl, HB2.out⟩
    | false =>
      rcases ht with rfl | rfl
      · have hs : ¬ (1 ≤ s ∧ s ≤ 1099511627776) := by simpa [aranged] using hra
        clear hra H2
        by_cases b1 : s < 1
        · have b1 : decide (s < 1) = true := decide_eq_true b1
          go_enter Try.func11, Try.ntmps11
          go_wp2_with fail
          go_ret
          exact ⟨rfl, HB.out⟩
        · have b2 : decide (1099511627776 < s) = true := decide_eq_true (by omega)
          have b1 : decide (s < 1) = false := decide_eq_false b1
          go_enter Try.func11, Try.ntmps11
          go_wp2_with fail
          go_ret
          exact ⟨rfl, HB.out⟩
      · have hs : ¬ s = 0 := by simpa [aranged] using hra
        have b1 : (s == 0) = false := beq_false_of_ne hs
        clear hra H2 hs
        go_enter Try.func11, Try.ntmps11
        go_wp2_with fail
        go_ret
        exact ⟨rfl, HB.out⟩
  · have hc : achk ⟨l, s, t⟩ = 17 := if_neg ht
    rw [hc]
    have n1 : (t != 1) = true := bne_iff_ne.2 fun h => ht (.inl h)
    have n2 : (t != 2) = true := bne_iff_ne.2 fun h => ht (.inr h)
    clear hc ht hr
    go_enter Try.func11, Try.ntmps11
    go_wp2_with fail
    go_ret
    exact ⟨rfl, bel_alloc (Below.refl _ _) _⟩

set_option maxHeartbeats 1000000 in
theorem asame_any (l : List (Int × Int)) (s t : Int) (A : Option Addr) (n c : Nat) (l' : List (Int × Int)) (s' t' : Int) (A' : Option Addr) (n' c' : Nat) (w : World) (hr : Rs w A n c l) (hr' : Rs w A' n' c' l') :
    Calls Try.prog 12 #[.agg #[.slice A n c, .int .i64 s, .int .i64 t], .agg #[.slice A' n' c', .int .i64 s', .int .i64 t']] w (Tells (asame ⟨l, s, t⟩ ⟨l', s', t'⟩) w) := by
  have H1 := Lib.hid (fun w (h : Rs w A n c l) (h' : Rs w A' n' c' l') => equal_any l l' A A' n c n' c' w h h')
  obtain ⟨k1, k2, hb⟩ := two_boxes w 24 #[.slice A n c, .int .i64 s, .int .i64 t] #[.slice A' n' c', .int .i64 s', .int .i64 t']
  have HB := Lib.hid hb
  have HR := Lib.hid (hr.below hb)
  have HR' := Lib.hid (hr'.below hb)
  clear hr hr' k1 k2 hb
  by_cases ht : t = t'
  · subst ht
    by_cases hs : s = s'
    · subst hs
      rw [show asame ⟨l, s, t⟩ ⟨l', s, t⟩ = decide (l = l') by simp [asame]]
      go_enter Try.func12, Try.ntmps12
      go_wp2_with fail
      refine (H1.out _ HR.out HR'.out).mono ?_
      rintro e w1 ⟨rfl, hb1⟩
      have HB1 := Lib.hid (bel_trans HB.out hb1)
      clear hb1
      go_wp2_with fail
      go_ret
      exact ⟨rfl, HB1.out⟩
    · rw [show asame ⟨l, s, t⟩ ⟨l', s', t⟩ = false by simp [asame, hs]]
      have b1 : (s == s') = false := beq_false_of_ne hs
      clear hs H1
      go_enter Try.func12, Try.ntmps12
      go_wp2_with fail
      go_ret
      exact ⟨rfl, HB.out⟩
  · rw [show asame ⟨l, s, t⟩ ⟨l', s', t'⟩ = false by simp [asame, ht]]
    have b1 : (t == t') = false := beq_false_of_ne ht
    clear ht H1
    go_enter Try.func12, Try.ntmps12
    go_wp2_with fail
    go_ret
    exact ⟨rfl, HB.out⟩

set_option maxHeartbeats 1000000 in
theorem refasame_any (l : List (Int × Int)) (s t : Int) (A : Option Addr) (n c : Nat) (l' : List (Int × Int)) (s' t' : Int) (A' : Option Addr) (n' c' : Nat) (w : World) (hr : Rs w A n c l) (hr' : Rs w A' n' c' l') :
    Calls Try.prog 13 #[.agg #[.slice A n c, .int .i64 s, .int .i64 t], .agg #[.slice A' n' c', .int .i64 s', .int .i64 t']] w (Tells (asame ⟨l, s, t⟩ ⟨l', s', t'⟩) w) := by
  have H1 := Lib.hid (fun w (h : Rs w A n c l) (h' : Rs w A' n' c' l') => refequal_any l l' A A' n c n' c' w h h')
  obtain ⟨k1, k2, hb⟩ := two_boxes w 24 #[.slice A n c, .int .i64 s, .int .i64 t] #[.slice A' n' c', .int .i64 s', .int .i64 t']
  have HB := Lib.hid hb
  have HR := Lib.hid (hr.below hb)
  have HR' := Lib.hid (hr'.below hb)
  clear hr hr' k1 k2 hb
  by_cases ht : t = t'
  · subst ht
    by_cases hs : s = s'
    · subst hs
      rw [show asame ⟨l, s, t⟩ ⟨l', s, t⟩ = decide (l = l') by simp [asame]]
      go_enter Try.func13, Try.ntmps13
      go_wp2_with fail
      refine (H1.out _ HR.out HR'.out).mono ?_
      rintro e w1 ⟨rfl, hb1⟩
      have HB1 := Lib.hid (bel_trans HB.out hb1)
      clear hb1
      go_wp2_with fail
      go_ret
      exact ⟨rfl, HB1.out⟩
    · rw [show asame ⟨l, s, t⟩ ⟨l', s', t⟩ = false by simp [asame, hs]]
      have b1 : (s == s') = false := beq_false_of_ne hs
      clear hs H1
      go_enter Try.func13, Try.ntmps13
      go_wp2_with fail
      go_ret
      exact ⟨rfl, HB.out⟩
  · rw [show asame ⟨l, s, t⟩ ⟨l', s', t'⟩ = false by simp [asame, ht]]
    have b1 : (t == t') = false := beq_false_of_ne ht
    clear ht H1
    go_enter Try.func13, Try.ntmps13
    go_wp2_with fail
    go_ret
    exact ⟨rfl, HB.out⟩

end Go.Proofs.Ytccbkpdkmdnmfaa
