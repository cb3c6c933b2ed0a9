/-
  Texts of earlier layers, as one.
-/
import Derived.Test.YtlcggldcofncgaaRIdsP
import Derived.Test.YtlcggldcofncgaaChecked
import Derived.Laws.StructEq
import Derived.Sort.Grow
import Derived.Test.YtlcggldcofncgaaRBase
import Derived.WideLaws
import Derived.Test.YtlcggldcofncgaaShelf
import Derived.Shelf.SlSortCmp.QuietGrown
/- ids.Less, ids.Right and the document's: which of two is ahead, whether one is right; the comparison that ids.Set sorts by; the model's '==' of two ids. -/
namespace Go.Proofs.Ytlcggldcofncgaa
open Go.RowKit Mem Ids Go.Sort

/-- What lies in w stays; new blocks may lie behind it, and draws. -/
def Grew (w w' : World) : Prop := ∃ q os, w' = grow (w.drewN q) os
theorem Grew.bel {w w' : World} (h : Grew w w') : Below w.heap.size w w' := by
  obtain ⟨q, os, rfl⟩ := h
  refine ⟨rfl, rfl, rfl, ?_, fun k hk => ?_⟩
  · show w.heap.size ≤ (w.heap ++ os).size
    simp
  · show (w.heap ++ os)[k]? = w.heap[k]?
    exact Array.getElem?_append_left hk

theorem wrap64 {x : Int} (h : -9223372036854775808 ≤ x) (h' : x ≤ 9223372036854775807) : IntKind.i64.wrap x = x := by
  simp [IntKind.wrap, IntKind.bits, IntKind.signed]
  omega

theorem eql_id (a b : Int × Int) (w : World) : Sem.run Try.prog (binOp .eql 26 (.agg #[.int .i64 a.1, .int .i64 a.2]) (.agg #[.int .i64 b.1, .int .i64 b.2])) w = .ok (.bool (decide (a = b))) w := by
  have u3 := Try.underlying3
  have a3 := Try.isAgg3
  have z3 := Try.sizeOf3
  have hS : Try.prog.underlying 26 = some (.struct (Try.prog.fieldsOf 26)) := by kernel_rfl
  have hp : Try.prog.stoodInHeld 26 = false := by kernel_rfl
  rw [run_eql_struct, show (10000 : Nat) = 9999 + 1 from rfl, run_equalIn_agg w 9999 26 _ _ hS hp]
  simp only [Program.fieldsOf, Try.underlying26]
  go_simp
  obtain ⟨a1, a2⟩ := a
  obtain ⟨b1, b2⟩ := b
  by_cases h1 : a1 = b1 <;> by_cases h2 : a2 = b2 <;> simp [h1, h2]
theorem neq_id (a b : Int × Int) (w : World) : Sem.run Try.prog (binOp .neq 26 (.agg #[.int .i64 a.1, .int .i64 a.2]) (.agg #[.int .i64 b.1, .int .i64 b.2])) w = .ok (.bool (!decide (a = b))) w := by
  have u3 := Try.underlying3
  have a3 := Try.isAgg3
  have z3 := Try.sizeOf3
  have hS : Try.prog.underlying 26 = some (.struct (Try.prog.fieldsOf 26)) := by kernel_rfl
  have hp : Try.prog.stoodInHeld 26 = false := by kernel_rfl
  rw [run_neq_struct, show (10000 : Nat) = 9999 + 1 from rfl, run_equalIn_agg w 9999 26 _ _ hS hp]
  simp only [Program.fieldsOf, Try.underlying26]
  go_simp
  obtain ⟨a1, a2⟩ := a
  obtain ⟨b1, b2⟩ := b
  by_cases h1 : a1 = b1 <;> by_cases h2 : a2 = b2 <;> simp [h1, h2]

set_option maxHeartbeats 1000000 in
theorem less_grew (a b : Int × Int) (w : World) :
    Calls Try.prog 35 #[.agg #[.int .i64 a.1, .int .i64 a.2], .agg #[.int .i64 b.1, .int .i64 b.2]] w fun e w' => e = .returned (.bool (lt a b)) ∧ Grew w w' := by
  obtain ⟨t, ht⟩ : ∃ t, lt a b = t := ⟨_, rfl⟩
  rw [ht]
  have HT := Lib.hid ht
  clear ht
  obtain ⟨a1, a2⟩ := a
  obtain ⟨b1, b2⟩ := b
  have hgr : ∀ o1 o2 : Obj, Grew w ((w.alloc o1).alloc o2) := fun o1 o2 => ⟨0, #[o1, o2], by rw [alloc_eq_grow, alloc_eq_grow, grow_grow]; rfl⟩
  have HG := Lib.hid hgr
  clear hgr
  go_enter Try.func35, Try.ntmps35
  by_cases h1 : a2 < b2
  · go_wp2
    go_ret
    refine ⟨?_, HG.out _ _⟩
    rw [← HT.out]
    simp [lt, h1]
  · by_cases h2 : a2 = b2
    · subst h2
      by_cases h3 : a1 < b1
      · go_wp2
        go_ret
        refine ⟨?_, HG.out _ _⟩
        rw [← HT.out]
        simp [lt, h3]
      · go_wp2
        go_ret
        refine ⟨?_, HG.out _ _⟩
        rw [← HT.out]
        simp [lt, h3]
    · go_wp2
      go_ret
      refine ⟨?_, HG.out _ _⟩
      rw [← HT.out]
      simp [lt, h1, h2]
theorem less_any (a b : Int × Int) (w : World) :
    Calls Try.prog 35 #[.agg #[.int .i64 a.1, .int .i64 a.2], .agg #[.int .i64 b.1, .int .i64 b.2]] w (Tells (lt a b) w) :=
  (less_grew a b w).mono fun _ _ h => ⟨h.1, h.2.bel⟩
set_option maxHeartbeats 1000000 in
theorem refless_grew (a b : Int × Int) (w : World) :
    Calls Try.prog 49 #[.agg #[.int .i64 a.1, .int .i64 a.2], .agg #[.int .i64 b.1, .int .i64 b.2]] w fun e w' => e = .returned (.bool (lt a b)) ∧ Grew w w' := by
  obtain ⟨t, ht⟩ : ∃ t, lt a b = t := ⟨_, rfl⟩
  rw [ht]
  have HT := Lib.hid ht
  clear ht
  obtain ⟨a1, a2⟩ := a
  obtain ⟨b1, b2⟩ := b
  have hgr : ∀ o1 o2 : Obj, Grew w ((w.alloc o1).alloc o2) := fun o1 o2 => ⟨0, #[o1, o2], by rw [alloc_eq_grow, alloc_eq_grow, grow_grow]; rfl⟩
  have HG := Lib.hid hgr
  clear hgr
  go_enter Try.func49, Try.ntmps49
  by_cases h1 : a2 < b2
  · go_wp2
    go_ret
    refine ⟨?_, HG.out _ _⟩
    rw [← HT.out]
    simp [lt, h1]
  · by_cases h2 : a2 = b2
    · subst h2
      by_cases h3 : a1 < b1
      · go_wp2
        go_ret
        refine ⟨?_, HG.out _ _⟩
        rw [← HT.out]
        simp [lt, h3]
      · go_wp2
        go_ret
        refine ⟨?_, HG.out _ _⟩
        rw [← HT.out]
        simp [lt, h3]
    · go_wp2
      go_ret
      refine ⟨?_, HG.out _ _⟩
      rw [← HT.out]
      simp [lt, h1, h2]
theorem refless_any (a b : Int × Int) (w : World) :
    Calls Try.prog 49 #[.agg #[.int .i64 a.1, .int .i64 a.2], .agg #[.int .i64 b.1, .int .i64 b.2]] w (Tells (lt a b) w) :=
  (refless_grew a b w).mono fun _ _ h => ⟨h.1, h.2.bel⟩
end Go.Proofs.Ytlcggldcofncgaa
/- The document's Equal, Has, Without of lists of ids. -/
namespace Go.Proofs.Ytlcggldcofncgaa
open Go.RowKit Mem Ids

theorem infoId : (Try.prog.info? 26).map (fun i => (i.zero, i.size, i.bytes)) = some (some (.agg #[.int .i64 0, .int .i64 0]), 2, 16) := by kernel_rfl

theorem take_eq_drop {α : Type} {a b : List α} {k : Nat} {x : α} (ha : a[k]? = some x) (hb : b[k]? = some x) (h : a.drop (k + 1) = b.drop (k + 1)) : a.drop k = b.drop k := by
  obtain ⟨h1, rfl⟩ := List.getElem?_eq_some_iff.1 ha
  obtain ⟨h2, e⟩ := List.getElem?_eq_some_iff.1 hb
  rw [List.drop_eq_getElem_cons h1, List.drop_eq_getElem_cons h2, h, e]

def EqRel (a b : List (Int × Int)) (w : World) (v : Value) (wr : World) : Prop :=
  ∃ k : Nat, v = .int .i64 k ∧ k ≤ a.length ∧ (a = b ↔ a.drop k = b.drop k) ∧ Below w.heap.size w wr

set_option maxHeartbeats 2000000 in
theorem refequal_any (a b : List (Int × Int)) (A B : Option Addr) (n c m d : Nat) (w : World) (ha : Rs w A n c a) (hb : Rs w B m d b) :
    Calls Try.prog 14 #[.slice A n c, .slice B m d] w (Tells (decide (a = b)) w) := by
  obtain ⟨t, ht⟩ : ∃ t, decide (a = b) = t := ⟨_, rfl⟩
  rw [ht]
  have hla := ha.len
  have hlb := hb.len
  have HA := Lib.hid ha
  have HB := Lib.hid hb
  have hca := And.intro ha.le ha.cap
  have hcb := And.intro hb.le hb.cap
  unfold maxLen at hca hcb
  have HT := Lib.hid ht
  clear ht ha hb
  go_enter Try.func14, Try.ntmps14
  by_cases hnm : n = m
  · subst hnm
    go_wp2_with fail
    go_loopw [5] (EqRel a b w) (fun v _ => n - (intOf v).toNat)
    case atStart => exact ⟨0, rfl, Nat.zero_le _, by simp, Below.refl _ _⟩
    case round =>
      obtain ⟨k, rfl, hk, hiff, hbw⟩ := hrel
      by_cases hlt : k < n
      · obtain ⟨g, o, x, rfl, hg, hx, c1, c2⟩ := (HA.out.below hbw).at_ hlt
        obtain ⟨g', o', y, rfl, hg', hy, d1, d2⟩ := (HB.out.below hbw).at_ hlt
        have hneq := neq_id x y
        have HX := Lib.hid (And.intro hx hy)
        have HBW := Lib.hid hbw
        have HI := Lib.hid hiff
        clear hx hy hbw hiff
        by_cases hxy : x = y
        · rw [decide_eq_true hxy] at hneq
          have HE := Lib.hid hxy
          clear hxy
          obtain ⟨x1, x2⟩ := x
          obtain ⟨y1, y2⟩ := y
          simp only at hneq c1 c2 d1 d2
          go_wp2_with fail
          go_quiet (fail)
          go_wp2_with fail
          go_roundw
          case rel =>
            refine ⟨k + 1, by simp, by omega, HI.out.trans ?_, below_drewN HBW.out _⟩
            have e := HE.out
            have h1 := HX.out.1
            have h2 := HX.out.2
            rw [← e] at h2
            refine ⟨fun h => ?_, take_eq_drop h1 h2⟩
            have := congrArg (List.drop 1) h
            simpa [List.drop_drop, Nat.add_comm] using this
          case measure =>
            simp [intOf]
            omega
        · rw [decide_eq_false hxy] at hneq
          have HE := Lib.hid hxy
          clear hxy
          obtain ⟨x1, x2⟩ := x
          obtain ⟨y1, y2⟩ := y
          simp only at hneq c1 c2 d1 d2
          go_wp2_with fail
          go_quiet (fail)
          go_wp2_with fail
          go_ret
          have htf : t = false := by
            rw [← HT.out]
            refine decide_eq_false fun e => ?_
            have h1 := HX.out.1
            have h2 := HX.out.2
            rw [e, h2] at h1
            injection h1 with h1
            exact HE.out h1.symm
          exact ⟨by rw [htf]; rfl, below_drewN HBW.out _⟩
      · have HBW := Lib.hid hbw
        have HI := Lib.hid hiff
        clear hbw hiff
        go_wp2_with fail
        go_ret
        have htt : t = true := by
          rw [← HT.out]
          refine decide_eq_true (HI.out.2 ?_)
          rw [List.drop_eq_nil_of_le (by omega), List.drop_eq_nil_of_le (by omega)]
        exact ⟨by rw [htt]; rfl, HBW.out⟩
  · go_wp2_with fail
    go_ret
    have htf : t = false := by
      rw [← HT.out]
      refine decide_eq_false fun e => ?_
      rw [e] at hla
      omega
    exact ⟨by rw [htf]; rfl, Below.refl _ _⟩

def HasRel (l : List (Int × Int)) (x : Int × Int) (w : World) (v : Value) (wr : World) : Prop :=
  ∃ k : Nat, v = .int .i64 k ∧ k ≤ l.length ∧ (∀ y ∈ l.take k, y ≠ x) ∧ Below w.heap.size w wr
theorem not_snoc {l : List (Int × Int)} {k : Nat} {x y : Int × Int} (hy : l[k]? = some y) (h : ∀ z ∈ l.take k, z ≠ x) (hne : y ≠ x) : ∀ z ∈ l.take (k + 1), z ≠ x := by
  intro z hz
  rw [List.take_add_one, hy] at hz
  rcases List.mem_append.1 hz with hz | hz
  · exact h z hz
  · simp at hz
    rw [hz]
    exact hne

set_option maxHeartbeats 2000000 in
theorem refhas_any (l : List (Int × Int)) (x : Int × Int) (A : Option Addr) (n c : Nat) (w : World) (ha : Rs w A n c l) :
    Calls Try.prog 38 #[.slice A n c, .agg #[.int .i64 x.1, .int .i64 x.2]] w (Tells (decide (x ∈ l)) w) := by
  obtain ⟨t, ht⟩ : ∃ t, decide (x ∈ l) = t := ⟨_, rfl⟩
  rw [ht]
  have hla := ha.len
  have HA := Lib.hid ha
  have hca := And.intro ha.le ha.cap
  unfold maxLen at hca
  have HT := Lib.hid ht
  clear ht ha
  go_enter Try.func38, Try.ntmps38
  go_wp2_with fail
  have HW := Lib.hid (bel_alloc (Below.refl w.heap.size w) (.cells #[.int .i64 x.1, .int .i64 x.2] 26))
  have HB0 := Lib.hid (Blk.new w 26 #[.int .i64 x.1, .int .i64 x.2])
  have HS0 := Lib.hid (size_alloc w (.cells #[.int .i64 x.1, .int .i64 x.2] 26))
  have HA1 := Lib.hid (HA.out.alloc (.cells #[.int .i64 x.1, .int .i64 x.2] 26))
  generalize w.alloc (.cells #[.int .i64 x.1, .int .i64 x.2] 26) = w1 at HW HB0 HS0 HA1 ⊢
  go_loopw [5] (HasRel l x w1) (fun v _ => n - (intOf v).toNat)
  case atStart => exact ⟨0, rfl, Nat.zero_le _, by simp, Below.refl _ _⟩
  case round =>
    obtain ⟨k, rfl, hk, hno, hbw⟩ := hrel
    by_cases hlt : k < n
    · obtain ⟨g, o, y, rfl, hg, hy, c1, c2⟩ := (HA1.out.below hbw).at_ hlt
      have d0 := (HB0.out.bel hbw).cell 0
      have d1 := (HB0.out.bel hbw).cell 1
      have heq := eql_id y x
      have HX := Lib.hid hy
      have HBW := Lib.hid hbw
      have HI := Lib.hid hno
      clear hy hbw hno
      simp at d0 d1
      by_cases hxy : y = x
      · rw [decide_eq_true hxy] at heq
        have HE := Lib.hid hxy
        clear hxy
        obtain ⟨x1, x2⟩ := x
        obtain ⟨y1, y2⟩ := y
        simp only at heq c1 c2 d0 d1
        go_wp2_with fail
        go_quiet (fail)
        go_wp2_with fail
        go_ret
        have htt : t = true := by
          rw [← HT.out]
          refine decide_eq_true ?_
          rw [← HE.out]
          exact List.mem_of_getElem? HX.out
        exact ⟨by rw [htt]; rfl, bel_trans HW.out (below_drewN HBW.out _)⟩
      · rw [decide_eq_false hxy] at heq
        have HE := Lib.hid hxy
        clear hxy
        obtain ⟨x1, x2⟩ := x
        obtain ⟨y1, y2⟩ := y
        simp only at heq c1 c2 d0 d1
        go_wp2_with fail
        go_quiet (fail)
        go_wp2_with fail
        go_roundw
        case rel => exact ⟨k + 1, by simp, by omega, not_snoc HX.out HI.out HE.out, below_drewN HBW.out _⟩
        case measure =>
          simp [intOf]
          omega
    · have HBW := Lib.hid hbw
      have HI := Lib.hid hno
      clear hbw hno
      go_wp2_with fail
      go_ret
      have htf : t = false := by
        rw [← HT.out]
        refine decide_eq_false fun hm => ?_
        have := HI.out
        rw [List.take_of_length_le (by omega)] at this
        exact this x hm rfl
      exact ⟨by rw [htf]; rfl, bel_trans HW.out HBW.out⟩

/-- The ending: a slice of ids of the call's own; what was there stays. -/
def Makes (w : World) (l : List (Int × Int)) (e : Ending) (w' : World) : Prop :=
  ∃ A c, e = .returned (.slice A l.length c) ∧ w'.ownsRow w.heap.size 26 2 (.slice A l.length c) l.length (cells l) ∧ Below w.heap.size w w'

theorem own_base {w : World} {base base' : Nat} {e : TypeId} {size : Nat} {v : Value} {n : Nat} {xs : List Value} (h : w.ownsRow base e size v n xs) (hb : base' ≤ base) : w.ownsRow base' e size v n xs := by
  refine ⟨h.1, ?_⟩
  rcases h.2 with h | ⟨g, cap, cur, hv, hg, r⟩
  · exact .inl h
  · exact .inr ⟨g, cap, cur, hv, by omega, r⟩

theorem filter_yes {l : List (Int × Int)} {k : Nat} {y : Int × Int} {p : Int × Int → Bool} (hy : l[k]? = some y) (h : p y = true) : (l.take (k + 1)).filter p = (l.take k).filter p ++ [y] := by
  rw [List.take_add_one, hy, List.filter_append]
  simp [h]
theorem filter_no {l : List (Int × Int)} {k : Nat} {y : Int × Int} {p : Int × Int → Bool} (hy : l[k]? = some y) (h : p y = false) : (l.take (k + 1)).filter p = (l.take k).filter p := by
  rw [List.take_add_one, hy, List.filter_append]
  simp [h]
theorem len_filter_take (l : List (Int × Int)) (k : Nat) (p : Int × Int → Bool) : ((l.take k).filter p).length ≤ l.length :=
  Nat.le_trans (List.length_filter_le _ _) (by simp; omega)

/-- The ending: a slice that holds l; what was there stays. -/
def Gets (w : World) (l : List (Int × Int)) (e : Ending) (w' : World) : Prop :=
  ∃ A c, e = .returned (.slice A l.length c) ∧ Rs w' A l.length c l ∧ Below w.heap.size w w'
theorem Makes.gets {w : World} {l : List (Int × Int)} {e : Ending} {w' : World} (h : Makes w l e w') : Gets w l e w' := by
  obtain ⟨A, c, he, ho, hb⟩ := h
  exact ⟨A, c, he, Rs.own ho, hb⟩

end Go.Proofs.Ytlcggldcofncgaa
/- The document's Without. -/
namespace Go.Proofs.Ytlcggldcofncgaa
open Go.RowKit Mem Ids

def WoRel (l : List (Int × Int)) (x : Int × Int) (B : Nat) (w : World) (v5 v6 : Value) (wr : World) : Prop :=
  ∃ (k : Nat) (V : Option Addr) (m c : Nat), v5 = .slice V m c ∧ v6 = .int .i64 k ∧ k ≤ l.length ∧ ((l.take k).filter fun y => !decide (y = x)).length = m ∧ wr.ownsRow B 26 2 (.slice V m c) m (cells ((l.take k).filter fun y => !decide (y = x))) ∧ Below w.heap.size w wr
set_option maxHeartbeats 2000000 in
theorem refwithout_any (l : List (Int × Int)) (x : Int × Int) (A : Option Addr) (n c : Nat) (w : World) (ha : Rs w A n c l) (hn : n ≤ 1073741824) :
    Calls Try.prog 21 #[.slice A n c, .agg #[.int .i64 x.1, .int .i64 x.2]] w (Makes w (l.filter fun y => !decide (y = x))) := by
  obtain ⟨i0, hi, hz0, hz1, hz2⟩ := info_parts infoId
  have hla := ha.len
  have HA := Lib.hid ha
  have hca := And.intro ha.le ha.cap
  unfold maxLen at hca
  clear ha
  go_enter Try.func21, Try.ntmps21
  go_wp2_with fail
  have HW := Lib.hid (bel_alloc (Below.refl w.heap.size w) (.cells #[.int .i64 x.1, .int .i64 x.2] 26))
  have HB0 := Lib.hid (Blk.new w 26 #[.int .i64 x.1, .int .i64 x.2])
  have hs0 := size_alloc w (.cells #[.int .i64 x.1, .int .i64 x.2] 26)
  have HA1 := Lib.hid (HA.out.alloc (.cells #[.int .i64 x.1, .int .i64 x.2] 26))
  generalize w.alloc (.cells #[.int .i64 x.1, .int .i64 x.2] 26) = w1 at HW HB0 hs0 HA1 ⊢
  go_loopw [5, 6] (WoRel l x w1.heap.size w1) (fun _ v _ => n - (intOf v).toNat)
  case atStart => exact ⟨0, none, 0, 0, rfl, rfl, Nat.zero_le _, by simp, ⟨rfl, .inl ⟨rfl, rfl⟩⟩, Below.refl _ _⟩
  case round =>
    obtain ⟨k, V, m, cv, rfl, rfl, hk, hm, hown, hbw⟩ := hrel
    have hml : m ≤ n := by rw [← hm, ← hla]; exact len_filter_take _ _ _
    have hsz := hbw.size
    by_cases hlt : k < n
    · obtain ⟨g, o, y, rfl, hg, hy, c1, c2⟩ := (HA1.out.below hbw).at_ hlt
      have d0 := (HB0.out.bel hbw).cell 0
      have d1 := (HB0.out.bel hbw).cell 1
      have hneq := neq_id y x
      have HY := Lib.hid hy
      have HBW := Lib.hid hbw
      have HO := Lib.hid hown
      have HM := Lib.hid hm
      clear hy hbw hown hm
      simp at d0 d1
      by_cases hxy : y = x
      · rw [decide_eq_true hxy] at hneq
        simp only [Bool.not_true] at hneq
        have HF := Lib.hid (filter_no (p := fun y => !decide (y = x)) HY.out (by simp [hxy]))
        clear hxy
        obtain ⟨x1, x2⟩ := x
        obtain ⟨y1, y2⟩ := y
        simp only at hneq c1 c2 d0 d1
        go_wp2_with fail
        go_quiet (fail)
        go_wp2_with fail
        go_roundw
        case rel =>
          refine ⟨k + 1, V, m, cv, rfl, by simp, by omega, ?_, ?_, below_drewN HBW.out _⟩
          · rw [HF.out]; exact HM.out
          · rw [HF.out]; exact HO.out
        case measure =>
          simp [intOf]
          omega
      · rw [decide_eq_false hxy] at hneq
        simp only [Bool.not_false] at hneq
        have HF := Lib.hid (filter_yes (p := fun y => !decide (y = x)) HY.out (by simp [hxy]))
        clear hxy
        obtain ⟨x1, x2⟩ := x
        obtain ⟨y1, y2⟩ := y
        simp only at hneq c1 c2 d0 d1
        go_wp2_with fail
        go_quiet (fail)
        go_wp2_with (at_builtin; refine wpList_append_rs rfl _ _ 42 rfl w1.heap.size 26 i0 _ Try.underlying42 hi hz0 hz1 hz2 rfl V m cv _ rfl (World.ownsRow.alloc HO.out _) _ 1 1 [(y1, y2)] rfl (Rs.lit _ [(y1, y2)] _ _ 1 rfl rfl (by simp [maxLen])) (by omega) (by simp; omega) ?_; intro V3 c3 w3 hown3 _ hb3)
        have HO3 := Lib.hid hown3
        have HB3 := Lib.hid hb3
        clear hown3 hb3
        go_roundw
        case rel =>
          refine ⟨k + 1, V3, m + 1, c3, rfl, by simp, by omega, ?_, ?_, ?_⟩
          · rw [HF.out, List.length_append, HM.out]; rfl
          · rw [HF.out]; exact HO3.out
          · exact ((below_drewN HBW.out _).alloc hsz _).trans HB3.out
        case measure =>
          simp [intOf]
          omega
    · have hkl : k = l.length := by omega
      rw [hkl, List.take_length] at hm hown
      have HBW := Lib.hid hbw
      have HO := Lib.hid hown
      have HM := Lib.hid hm
      clear hbw hown hm
      go_wp2_with fail
      go_ret
      refine ⟨V, cv, ?_, ?_, bel_trans HW.out HBW.out⟩
      · rw [HM.out]; rfl
      · rw [HM.out]; exact own_base HO.out (by omega)
end Go.Proofs.Ytlcggldcofncgaa
/- ids.Equal, ids.Has: whether two lists are the same; whether an id is in a set. -/
namespace Go.Proofs.Ytlcggldcofncgaa
open Go.RowKit Mem Ids Go.Sort Go.Shelf

/-- The question that sort.Search asks: is the id at this place not ahead? -/
theorem asks_grew (l : List (Int × Int)) (i : Int × Int) (A : Option Addr) (n c b : Nat) (k : Nat) (hk : k < n) (w : World) (hA : w.cell? ⟨b, 0, none⟩ = some (.slice A n c)) (hi0 : w.cell? ⟨b + 1, 0, none⟩ = some (.int .i64 i.1)) (hi1 : w.cell? ⟨b + 1, 1, none⟩ = some (.int .i64 i.2)) (hb : b + 1 < w.heap.size) (hr : Rs w A n c l) (x : Int × Int) (hx : l[k]? = some x) :
    Calls Try.prog 34 #[.int .i64 (k : Int), .pointer (some ⟨b, 0, none⟩), .pointer (some ⟨b + 1, 0, none⟩)] w fun e w' => e = .returned (.bool (!lt x i)) ∧ Grew w w' := by
  obtain ⟨g, o, x', rfl, hg, hx', c1, c2⟩ := hr.at_ hk
  rw [hx] at hx'
  injection hx' with hx'
  subst hx'
  have hca := And.intro hr.le hr.cap
  unfold maxLen at hca
  have a0 := fun q os => cell_grown (w := w) (a := ⟨b, 0, none⟩) (show b < w.heap.size by omega) hA q os
  have a1 := fun q os => cell_grown (w := w) (a := ⟨b + 1, 0, none⟩) hb hi0 q os
  have a2 := fun q os => cell_grown (w := w) (a := ⟨b + 1, 1, none⟩) hb hi1 q os
  have a3 := fun q os => cell_grown (w := w) (a := ⟨g, o + k * 2, none⟩) hg c1 q os
  have a4 := fun q os => cell_grown (w := w) (a := ⟨g, o + k * 2 + 1, none⟩) hg c2 q os
  have HL := Lib.hid (fun W => less_grew x i W)
  generalize lt x i = t at HL ⊢
  obtain ⟨x1, x2⟩ := x
  obtain ⟨i1, i2⟩ := i
  simp only at a1 a2 a3 a4
  clear hr hx hA hi0 hi1 c1 c2
  go_enter Try.func34, Try.ntmps34
  go_wp2_with fail
  refine wp_region_quiet_grown (by kernel_rfl) (by kernel_rfl) ?_
  repeat (first | ((with_reducible refine wpQuiet_skip ?_ ?_); (focus rfl); simp only [Act.put, List.setIfInBounds_toArray, List.set_cons_zero, List.set_cons_succ]) | ((with_reducible refine wpQuiet_step (fun K hK => ?_)); go_simp; first | ((with_reducible refine hK _ ?_); clear hK K) | (apply Exists.intro; refine ⟨fun _ => ?_, hK _ ?_⟩; exact Calls.grown_of (HL.out _); clear hK K)))
  with_reducible refine wpQuiet_nil ?_
  intro _ hw'
  obtain ⟨⟨nq, osq⟩, hw''⟩ := hw'
  subst hw''
  go_wp2_with fail
  go_ret
  exact ⟨rfl, nq, osq, rfl⟩

/-- What is answered at each place. -/
def ask (l : List (Int × Int)) (i : Int × Int) (k : Nat) : Bool := match l[k]? with
  | some x => !lt x i
  | none => true
theorem ask_at {l : List (Int × Int)} {i : Int × Int} {k : Nat} {x : Int × Int} (h : l[k]? = some x) : ask l i k = !lt x i := by
  unfold ask
  rw [h]
theorem count_ask (i : Int × Int) : ∀ l : List (Int × Int), (List.range l.length).countP (fun k => !ask l i k) = l.countP (fun x => lt x i)
  | [] => rfl
  | a :: l => by
    have ih := count_ask i l
    rw [List.length_cons, List.range_succ_eq_map, List.countP_cons, List.countP_map, List.countP_cons, ← ih]
    congr 1
    rw [ask_at (show (a :: l)[0]? = some a from rfl), Bool.not_not]
theorem ask_mono {l : List (Int × Int)} (h : Up l) (i : Int × Int) (a b : Nat) (hab : a ≤ b) (hb : b < l.length) (hp : ask l i a = true) : ask l i b = true := by
  have ha' : l[a]? = some l[a] := List.getElem?_eq_getElem (by omega)
  have hb' : l[b]? = some l[b] := List.getElem?_eq_getElem hb
  rw [ask_at ha'] at hp
  rw [ask_at hb', count_mono h i a b hab _ _ ha' hb' (by simpa using hp)]
  rfl

set_option maxHeartbeats 2000000 in
theorem has_any (l : List (Int × Int)) (i : Int × Int) (A : Option Addr) (n c : Nat) (w : World) (ha : Rs w A n c l) (hup : Up l) (hn : n ≤ 1073741824) :
    Calls Try.prog 19 #[.slice A n c, .agg #[.int .i64 i.1, .int .i64 i.2]] w (Tells (decide (i ∈ l)) w) := by
  obtain ⟨t, ht⟩ : ∃ t, decide (i ∈ l) = t := ⟨_, rfl⟩
  rw [ht]
  have hla := ha.len
  have hca := And.intro ha.le ha.cap
  unfold maxLen at hca
  obtain ⟨W0, hW0⟩ : ∃ W0, W0 = (w.alloc (.cells #[.slice A n c] 42)).alloc (.cells #[.int .i64 i.1, .int .i64 i.2] 26) := ⟨_, rfl⟩
  have hsize : W0.heap.size = w.heap.size + 1 + 1 := by rw [hW0]; simp
  have hbl : Below w.heap.size w W0 := by rw [hW0]; exact bel_alloc (bel_alloc (Below.refl _ _) _) _
  have k1 : Blk W0 w.heap.size 42 #[.slice A n c] := by rw [hW0]; exact (Blk.new w _ _).alloc _
  have k2 : Blk W0 (w.heap.size + 1) 26 #[.int .i64 i.1, .int .i64 i.2] := by
    have := Blk.new (w.alloc (.cells #[.slice A n c] 42)) 26 #[.int .i64 i.1, .int .i64 i.2]
    rw [size_alloc] at this
    rw [hW0]
    exact this
  have hrs := ha.below hbl
  have hsr := Any.sort_Search Try.searchAny 34 #[.pointer (some ⟨w.heap.size, 0, none⟩), .pointer (some ⟨w.heap.size + 1, 0, none⟩)] n (ask l i) W0 (enters_of Try.func34 (by kernel_rfl) rfl) (by omega)
    (fun m os k hk => by
      have hgw : Grew W0 (grow (W0.drewN m) os) := ⟨m, os, rfl⟩
      obtain ⟨x, hx⟩ : ∃ x, l[k]? = some x := ⟨_, List.getElem?_eq_getElem (by omega)⟩
      rw [ask_at hx]
      exact asks_grew l i A n c w.heap.size k hk _ ((k1.bel hgw.bel).cell 0) ((k2.bel hgw.bel).cell 0) ((k2.bel hgw.bel).cell 1) (by have := hgw.bel.size; omega) (hrs.below hgw.bel) x hx)
    (fun a b hab hb hp => ask_mono hup i a b hab (by omega) hp)
  change Calls Try.prog 33 _ _ _ at hsr
  rw [← hla, count_ask i l, hla] at hsr
  obtain ⟨K, hK⟩ : ∃ K, l.countP (fun x => lt x i) = K := ⟨_, rfl⟩
  rw [hK] at hsr
  have hat := count_at hup i K hK
  have hKn : K ≤ n := by rw [← hK, ← hla]; exact List.countP_le_length
  have HS := Lib.hid hsr
  have HAT := Lib.hid hat
  have HT := Lib.hid ht
  have HK1 := Lib.hid k1
  have HK2 := Lib.hid k2
  have HR := Lib.hid hrs
  have HBL := Lib.hid hbl
  clear ha hup hsr hat ht k1 k2 hrs hK hbl
  go_enter Try.func19, Try.ntmps19
  go_wp2_with fail
  rw [← hW0]
  refine HS.out.mono ?_
  rintro e w2 ⟨rfl, q2, os2, hw2⟩
  have hgw : Grew W0 w2 := ⟨q2, os2, hw2⟩
  clear hw2 hW0
  have b0 := (HK1.out.bel hgw.bel).cell 0
  have b1 := (HK2.out.bel hgw.bel).cell 0
  have b2 := (HK2.out.bel hgw.bel).cell 1
  have hr2 := HR.out.below hgw.bel
  have HB2 := Lib.hid (HBL.out.trans (hgw.bel.mono (by omega)))
  clear hgw
  simp at b0 b1 b2
  by_cases hlt : K < n
  · obtain ⟨g, o, x, rfl, hg, hx, c1, c2⟩ := hr2.at_ hlt
    have heq := eql_id x i
    have HX := Lib.hid hx
    clear hx hr2
    by_cases hxi : x = i
    · rw [decide_eq_true hxi] at heq
      have HE := Lib.hid hxi
      clear hxi
      obtain ⟨x1, x2⟩ := x
      obtain ⟨i1, i2⟩ := i
      simp only at heq c1 c2 b1 b2
      go_wp2_with fail
      go_quiet (fail)
      go_wp2_with fail
      go_ret
      have htt : t = true := by
        rw [← HT.out]
        exact decide_eq_true (HAT.out.2 (by rw [HX.out, HE.out]))
      exact ⟨by rw [htt]; rfl, below_drewN HB2.out _⟩
    · rw [decide_eq_false hxi] at heq
      have HE := Lib.hid hxi
      clear hxi
      obtain ⟨x1, x2⟩ := x
      obtain ⟨i1, i2⟩ := i
      simp only at heq c1 c2 b1 b2
      go_wp2_with fail
      go_quiet (fail)
      go_wp2_with fail
      go_ret
      have htf : t = false := by
        rw [← HT.out]
        refine decide_eq_false fun h => HE.out ?_
        have := HAT.out.1 h
        rw [HX.out] at this
        injection this
      exact ⟨by rw [htf]; rfl, below_drewN HB2.out _⟩
  · clear hr2
    go_wp2_with fail
    go_quiet (fail)
    go_wp2_with fail
    go_ret
    have htf : t = false := by
      rw [← HT.out]
      refine decide_eq_false fun h => ?_
      have := HAT.out.1 h
      rw [List.getElem?_eq_none (by omega)] at this
      cases this
    exact ⟨by rw [htf]; rfl, below_drewN HB2.out _⟩
end Go.Proofs.Ytlcggldcofncgaa
