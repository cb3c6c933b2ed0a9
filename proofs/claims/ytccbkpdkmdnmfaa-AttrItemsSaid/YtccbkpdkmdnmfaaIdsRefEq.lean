/-
  The document's Equal, Has, Without of lists of ids.
-/
import Derived.Test.YtccbkpdkmdnmfaaIdsSmall
namespace Go.Proofs.Ytccbkpdkmdnmfaa
open Go.RowKit Mem Ids

theorem infoId : (Try.prog.info? 48).map (fun i => (i.zero, i.size, i.bytes)) = some (some (.agg #[.int .i64 0, .int .i64 0]), 2, 16) := by kernel_rfl

theorem take_eq_drop {α : Type} {a b : List α} {k : Nat} {x : α} (ha : a[k]? = some x) (hb : b[k]? = some x) (h : a.drop (k + 1) = b.drop (k + 1)) : a.drop k = b.drop k := by
  obtain ⟨h1, rfl⟩ := List.getElem?_eq_some_iff.1 ha
  obtain ⟨h2, e⟩ := List.getElem?_eq_some_iff.1 hb
  rw [List.drop_eq_getElem_cons h1, List.drop_eq_getElem_cons h2, h, e]

def EqRel (a b : List (Int × Int)) (w : World) (v : Value) (wr : World) : Prop :=
  ∃ k : Nat, v = .int .i64 k ∧ k ≤ a.length ∧ (a = b ↔ a.drop k = b.drop k) ∧ Below w.heap.size w wr

set_option maxHeartbeats 2000000 in
theorem refequal_any (a b : List (Int × Int)) (A B : Option Addr) (n c m d : Nat) (w : World) (ha : Rs w A n c a) (hb : Rs w B m d b) :
    Calls Try.prog 32 #[.slice A n c, .slice B m d] w (Tells (decide (a = b)) w) := by
  obtain ⟨t, ht⟩ : ∃ t, decide (a = b) = t := ⟨_, rfl⟩
  rw [ht]
  have hla := ha.len
  have hlb := hb.len
  have HA := Lib.hid ha
  have HB := Lib.hid hb
  have hca := And.intro ha.le ha.cap
  have hcb := And.intro hb.le hb.cap
  unfold maxLen at hca hcb
  have HT := Lib.hid ht
  clear ht ha hb
  go_enter Try.func32, Try.ntmps32
  by_cases hnm : n = m
  · subst hnm
    go_wp2_with fail
    go_loopw [5] (EqRel a b w) (fun v _ => n - (intOf v).toNat)
    case atStart => exact ⟨0, rfl, Nat.zero_le _, by simp, Below.refl _ _⟩
    case round =>
      obtain ⟨k, rfl, hk, hiff, hbw⟩ := hrel
      by_cases hlt : k < n
      · obtain ⟨g, o, x, rfl, hg, hx, c1, c2⟩ := (HA.out.below hbw).at_ hlt
        obtain ⟨g', o', y, rfl, hg', hy, d1, d2⟩ := (HB.out.below hbw).at_ hlt
        have hneq := neq_id x y
        have HX := Lib.hid (And.intro hx hy)
        have HBW := Lib.hid hbw
        have HI := Lib.hid hiff
        clear hx hy hbw hiff
        by_cases hxy : x = y
        · rw [decide_eq_true hxy] at hneq
          have HE := Lib.hid hxy
          clear hxy
          obtain ⟨x1, x2⟩ := x
          obtain ⟨y1, y2⟩ := y
          simp only at hneq c1 c2 d1 d2
          go_wp2_with fail
          go_quiet (fail)
          go_wp2_with fail
          go_roundw
          case rel =>
            refine ⟨k + 1, by simp, by omega, HI.out.trans ?_, below_drewN HBW.out _⟩
            have e := HE.out
            have h1 := HX.out.1
            have h2 := HX.out.2
            rw [← e] at h2
            refine ⟨fun h => ?_, take_eq_drop h1 h2⟩
            have := congrArg (List.drop 1) h
            simpa [List.drop_drop, Nat.add_comm] using this
          case measure =>
            simp [intOf]
            omega
        · rw [decide_eq_false hxy] at hneq
          have HE := Lib.hid hxy
          clear hxy
          obtain ⟨x1, x2⟩ := x
          obtain ⟨y1, y2⟩ := y
          simp only at hneq c1 c2 d1 d2
          go_wp2_with fail
          go_quiet (fail)
          go_wp2_with fail
          go_ret
          have htf : t = false := by
            rw [← HT.out]
            refine decide_eq_false fun e => ?_
            have h1 := HX.out.1
            have h2 := HX.out.2
            rw [e, h2] at h1
            injection h1 with h1
            exact HE.out h1.symm
          exact ⟨by rw [htf]; rfl, below_drewN HBW.out _⟩
      · have HBW := Lib.hid hbw
        have HI := Lib.hid hiff
        clear hbw hiff
        go_wp2_with fail
        go_ret
        have htt : t = true := by
          rw [← HT.out]
          refine decide_eq_true (HI.out.2 ?_)
          rw [List.drop_eq_nil_of_le (by omega), List.drop_eq_nil_of_le (by omega)]
        exact ⟨by rw [htt]; rfl, HBW.out⟩
  · go_wp2_with fail
    go_ret
    have htf : t = false := by
      rw [← HT.out]
      refine decide_eq_false fun e => ?_
      rw [e] at hla
      omega
    exact ⟨by rw [htf]; rfl, Below.refl _ _⟩

def HasRel (l : List (Int × Int)) (x : Int × Int) (w : World) (v : Value) (wr : World) : Prop :=
  ∃ k : Nat, v = .int .i64 k ∧ k ≤ l.length ∧ (∀ y ∈ l.take k, y ≠ x) ∧ Below w.heap.size w wr
theorem not_snoc {l : List (Int × Int)} {k : Nat} {x y : Int × Int} (hy : l[k]? = some y) (h : ∀ z ∈ l.take k, z ≠ x) (hne : y ≠ x) : ∀ z ∈ l.take (k + 1), z ≠ x := by
  intro z hz
  rw [List.take_add_one, hy] at hz
  rcases List.mem_append.1 hz with hz | hz
  · exact h z hz
  · simp at hz
    rw [hz]
    exact hne

set_option maxHeartbeats 2000000 in
theorem refhas_any (l : List (Int × Int)) (x : Int × Int) (A : Option Addr) (n c : Nat) (w : World) (ha : Rs w A n c l) :
    Calls Try.prog 57 #[.slice A n c, .agg #[.int .i64 x.1, .int .i64 x.2]] w (Tells (decide (x ∈ l)) w) := by
  obtain ⟨t, ht⟩ : ∃ t, decide (x ∈ l) = t := ⟨_, rfl⟩
  rw [ht]
  have hla := ha.len
  have HA := Lib.hid ha
  have hca := And.intro ha.le ha.cap
  unfold maxLen at hca
  have HT := Lib.hid ht
  clear ht ha
  go_enter Try.func57, Try.ntmps57
  go_wp2_with fail
  have HW := Lib.hid (bel_alloc (Below.refl w.heap.size w) (.cells #[.int .i64 x.1, .int .i64 x.2] 48))
  have HB0 := Lib.hid (Blk.new w 48 #[.int .i64 x.1, .int .i64 x.2])
  have HS0 := Lib.hid (size_alloc w (.cells #[.int .i64 x.1, .int .i64 x.2] 48))
  have HA1 := Lib.hid (HA.out.alloc (.cells #[.int .i64 x.1, .int .i64 x.2] 48))
  generalize w.alloc (.cells #[.int .i64 x.1, .int .i64 x.2] 48) = w1 at HW HB0 HS0 HA1 ⊢
  go_loopw [5] (HasRel l x w1) (fun v _ => n - (intOf v).toNat)
  case atStart => exact ⟨0, rfl, Nat.zero_le _, by simp, Below.refl _ _⟩
  case round =>
    obtain ⟨k, rfl, hk, hno, hbw⟩ := hrel
    by_cases hlt : k < n
    · obtain ⟨g, o, y, rfl, hg, hy, c1, c2⟩ := (HA1.out.below hbw).at_ hlt
      have d0 := (HB0.out.bel hbw).cell 0
      have d1 := (HB0.out.bel hbw).cell 1
      have heq := eql_id y x
      have HX := Lib.hid hy
      have HBW := Lib.hid hbw
      have HI := Lib.hid hno
      clear hy hbw hno
      simp at d0 d1
      by_cases hxy : y = x
      · rw [decide_eq_true hxy] at heq
        have HE := Lib.hid hxy
        clear hxy
        obtain ⟨x1, x2⟩ := x
        obtain ⟨y1, y2⟩ := y
        simp only at heq c1 c2 d0 d1
        go_wp2_with fail
        go_quiet (fail)
        go_wp2_with fail
        go_ret
        have htt : t = true := by
          rw [← HT.out]
          refine decide_eq_true ?_
          rw [← HE.out]
          exact List.mem_of_getElem? HX.out
        exact ⟨by rw [htt]; rfl, bel_trans HW.out (below_drewN HBW.out _)⟩
      · rw [decide_eq_false hxy] at heq
        have HE := Lib.hid hxy
        clear hxy
        obtain ⟨x1, x2⟩ := x
        obtain ⟨y1, y2⟩ := y
        simp only at heq c1 c2 d0 d1
        go_wp2_with fail
        go_quiet (fail)
        go_wp2_with fail
        go_roundw
        case rel => exact ⟨k + 1, by simp, by omega, not_snoc HX.out HI.out HE.out, below_drewN HBW.out _⟩
        case measure =>
          simp [intOf]
          omega
    · have HBW := Lib.hid hbw
      have HI := Lib.hid hno
      clear hbw hno
      go_wp2_with fail
      go_ret
      have htf : t = false := by
        rw [← HT.out]
        refine decide_eq_false fun hm => ?_
        have := HI.out
        rw [List.take_of_length_le (by omega)] at this
        exact this x hm rfl
      exact ⟨by rw [htf]; rfl, bel_trans HW.out HBW.out⟩

/-- The ending: a slice of ids of the call's own; what was there stays. -/
def Makes (w : World) (l : List (Int × Int)) (e : Ending) (w' : World) : Prop :=
  ∃ A c, e = .returned (.slice A l.length c) ∧ w'.ownsRow w.heap.size 48 2 (.slice A l.length c) l.length (cells l) ∧ Below w.heap.size w w'

theorem own_base {w : World} {base base' : Nat} {e : TypeId} {size : Nat} {v : Value} {n : Nat} {xs : List Value} (h : w.ownsRow base e size v n xs) (hb : base' ≤ base) : w.ownsRow base' e size v n xs := by
  refine ⟨h.1, ?_⟩
  rcases h.2 with h | ⟨g, cap, cur, hv, hg, r⟩
  · exact .inl h
  · exact .inr ⟨g, cap, cur, hv, by omega, r⟩

theorem filter_yes {l : List (Int × Int)} {k : Nat} {y : Int × Int} {p : Int × Int → Bool} (hy : l[k]? = some y) (h : p y = true) : (l.take (k + 1)).filter p = (l.take k).filter p ++ [y] := by
  rw [List.take_add_one, hy, List.filter_append]
  simp [h]
theorem filter_no {l : List (Int × Int)} {k : Nat} {y : Int × Int} {p : Int × Int → Bool} (hy : l[k]? = some y) (h : p y = false) : (l.take (k + 1)).filter p = (l.take k).filter p := by
  rw [List.take_add_one, hy, List.filter_append]
  simp [h]
theorem len_filter_take (l : List (Int × Int)) (k : Nat) (p : Int × Int → Bool) : ((l.take k).filter p).length ≤ l.length :=
  Nat.le_trans (List.length_filter_le _ _) (by simp; omega)

/-- The ending: a slice that holds l; what was there stays. -/
def Gets (w : World) (l : List (Int × Int)) (e : Ending) (w' : World) : Prop :=
  ∃ A c, e = .returned (.slice A l.length c) ∧ Rs w' A l.length c l ∧ Below w.heap.size w w'
theorem Makes.gets {w : World} {l : List (Int × Int)} {e : Ending} {w' : World} (h : Makes w l e w') : Gets w l e w' := by
  obtain ⟨A, c, he, ho, hb⟩ := h
  exact ⟨A, c, he, Rs.own ho, hb⟩

end Go.Proofs.Ytccbkpdkmdnmfaa
