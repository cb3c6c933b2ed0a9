/-
  ids.Less, ids.Right and the document's: which of two is ahead, whether one is right; the comparison that ids.Set sorts by; the model's '==' of two ids.
-/
import Derived.Test.YtccbkpdkmdnmfaaIdsMem
import Derived.Test.YtccbkpdkmdnmfaaChecked
import Derived.Laws.StructEq
import Derived.Sort.Grow
import Derived.Test.YtccbkpdkmdnmfaaQuiet
import Derived.WideLaws
namespace Go.Proofs.Ytccbkpdkmdnmfaa
open Go.RowKit Mem Ids Go.Sort

/-- What lies in w stays; new blocks may lie behind it, and draws. -/
def Grew (w w' : World) : Prop := ∃ q os, w' = grow (w.drewN q) os
theorem Grew.bel {w w' : World} (h : Grew w w') : Below w.heap.size w w' := by
  obtain ⟨q, os, rfl⟩ := h
  refine ⟨rfl, rfl, rfl, ?_, fun k hk => ?_⟩
  · show w.heap.size ≤ (w.heap ++ os).size
    simp
  · show (w.heap ++ os)[k]? = w.heap[k]?
    exact Array.getElem?_append_left hk

theorem wrap64 {x : Int} (h : -9223372036854775808 ≤ x) (h' : x ≤ 9223372036854775807) : IntKind.i64.wrap x = x := by
  simp [IntKind.wrap, IntKind.bits, IntKind.signed]
  omega

theorem eql_id (a b : Int × Int) (w : World) : Sem.run Try.prog (binOp .eql 48 (.agg #[.int .i64 a.1, .int .i64 a.2]) (.agg #[.int .i64 b.1, .int .i64 b.2])) w = .ok (.bool (decide (a = b))) w := by
  have u3 := Try.underlying3
  have a3 := Try.isAgg3
  have z3 := Try.sizeOf3
  have hS : Try.prog.underlying 48 = some (.struct (Try.prog.fieldsOf 48)) := by kernel_rfl
  have hp : Try.prog.stoodInHeld 48 = false := by kernel_rfl
  rw [run_eql_struct, show (10000 : Nat) = 9999 + 1 from rfl, run_equalIn_agg w 9999 48 _ _ hS hp]
  simp only [Program.fieldsOf, Try.underlying48]
  go_simp
  obtain ⟨a1, a2⟩ := a
  obtain ⟨b1, b2⟩ := b
  by_cases h1 : a1 = b1 <;> by_cases h2 : a2 = b2 <;> simp [h1, h2]
theorem neq_id (a b : Int × Int) (w : World) : Sem.run Try.prog (binOp .neq 48 (.agg #[.int .i64 a.1, .int .i64 a.2]) (.agg #[.int .i64 b.1, .int .i64 b.2])) w = .ok (.bool (!decide (a = b))) w := by
  have u3 := Try.underlying3
  have a3 := Try.isAgg3
  have z3 := Try.sizeOf3
  have hS : Try.prog.underlying 48 = some (.struct (Try.prog.fieldsOf 48)) := by kernel_rfl
  have hp : Try.prog.stoodInHeld 48 = false := by kernel_rfl
  rw [run_neq_struct, show (10000 : Nat) = 9999 + 1 from rfl, run_equalIn_agg w 9999 48 _ _ hS hp]
  simp only [Program.fieldsOf, Try.underlying48]
  go_simp
  obtain ⟨a1, a2⟩ := a
  obtain ⟨b1, b2⟩ := b
  by_cases h1 : a1 = b1 <;> by_cases h2 : a2 = b2 <;> simp [h1, h2]

set_option maxHeartbeats 1000000 in
theorem less_grew (a b : Int × Int) (w : World) :
    Calls Try.prog 47 #[.agg #[.int .i64 a.1, .int .i64 a.2], .agg #[.int .i64 b.1, .int .i64 b.2]] w fun e w' => e = .returned (.bool (lt a b)) ∧ Grew w w' := by
  obtain ⟨t, ht⟩ : ∃ t, lt a b = t := ⟨_, rfl⟩
  rw [ht]
  have HT := Lib.hid ht
  clear ht
  obtain ⟨a1, a2⟩ := a
  obtain ⟨b1, b2⟩ := b
  have hgr : ∀ o1 o2 : Obj, Grew w ((w.alloc o1).alloc o2) := fun o1 o2 => ⟨0, #[o1, o2], by rw [alloc_eq_grow, alloc_eq_grow, grow_grow]; rfl⟩
  have HG := Lib.hid hgr
  clear hgr
  go_enter Try.func47, Try.ntmps47
  by_cases h1 : a2 < b2
  · go_wp2
    go_ret
    refine ⟨?_, HG.out _ _⟩
    rw [← HT.out]
    simp [lt, h1]
  · by_cases h2 : a2 = b2
    · subst h2
      by_cases h3 : a1 < b1
      · go_wp2
        go_ret
        refine ⟨?_, HG.out _ _⟩
        rw [← HT.out]
        simp [lt, h3]
      · go_wp2
        go_ret
        refine ⟨?_, HG.out _ _⟩
        rw [← HT.out]
        simp [lt, h3]
    · go_wp2
      go_ret
      refine ⟨?_, HG.out _ _⟩
      rw [← HT.out]
      simp [lt, h1, h2]
theorem less_any (a b : Int × Int) (w : World) :
    Calls Try.prog 47 #[.agg #[.int .i64 a.1, .int .i64 a.2], .agg #[.int .i64 b.1, .int .i64 b.2]] w (Tells (lt a b) w) :=
  (less_grew a b w).mono fun _ _ h => ⟨h.1, h.2.bel⟩
set_option maxHeartbeats 1000000 in
theorem refless_grew (a b : Int × Int) (w : World) :
    Calls Try.prog 52 #[.agg #[.int .i64 a.1, .int .i64 a.2], .agg #[.int .i64 b.1, .int .i64 b.2]] w fun e w' => e = .returned (.bool (lt a b)) ∧ Grew w w' := by
  obtain ⟨t, ht⟩ : ∃ t, lt a b = t := ⟨_, rfl⟩
  rw [ht]
  have HT := Lib.hid ht
  clear ht
  obtain ⟨a1, a2⟩ := a
  obtain ⟨b1, b2⟩ := b
  have hgr : ∀ o1 o2 : Obj, Grew w ((w.alloc o1).alloc o2) := fun o1 o2 => ⟨0, #[o1, o2], by rw [alloc_eq_grow, alloc_eq_grow, grow_grow]; rfl⟩
  have HG := Lib.hid hgr
  clear hgr
  go_enter Try.func52, Try.ntmps52
  by_cases h1 : a2 < b2
  · go_wp2
    go_ret
    refine ⟨?_, HG.out _ _⟩
    rw [← HT.out]
    simp [lt, h1]
  · by_cases h2 : a2 = b2
    · subst h2
      by_cases h3 : a1 < b1
      · go_wp2
        go_ret
        refine ⟨?_, HG.out _ _⟩
        rw [← HT.out]
        simp [lt, h3]
      · go_wp2
        go_ret
        refine ⟨?_, HG.out _ _⟩
        rw [← HT.out]
        simp [lt, h3]
    · go_wp2
      go_ret
      refine ⟨?_, HG.out _ _⟩
      rw [← HT.out]
      simp [lt, h1, h2]
theorem refless_any (a b : Int × Int) (w : World) :
    Calls Try.prog 52 #[.agg #[.int .i64 a.1, .int .i64 a.2], .agg #[.int .i64 b.1, .int .i64 b.2]] w (Tells (lt a b) w) :=
  (refless_grew a b w).mono fun _ _ h => ⟨h.1, h.2.bel⟩
set_option maxHeartbeats 1000000 in
theorem right_grew (a : Int × Int) (w : World) :
    Calls Try.prog 50 #[.agg #[.int .i64 a.1, .int .i64 a.2]] w fun e w' => e = .returned (.bool (right a)) ∧ Grew w w' := by
  obtain ⟨t, ht⟩ : ∃ t, right a = t := ⟨_, rfl⟩
  rw [ht]
  have HT := Lib.hid ht
  clear ht
  obtain ⟨a1, a2⟩ := a
  have hgr : ∀ o : Obj, Grew w (w.alloc o) := fun o => ⟨0, #[o], by rw [alloc_eq_grow]; rfl⟩
  have HG := Lib.hid hgr
  clear hgr
  go_enter Try.func50, Try.ntmps50
  by_cases h1 : 0 ≤ a1
  · by_cases h2 : a1 < 7
    · by_cases h3 : 0 ≤ a2
      · by_cases h4 : a2 ≤ 1099511627776
        · go_wp2
          go_ret
          refine ⟨?_, HG.out _⟩
          rw [← HT.out]
          simp [right]
          omega
        · go_wp2
          go_ret
          refine ⟨?_, HG.out _⟩
          rw [← HT.out]
          simp [right]
          omega
      · go_wp2
        go_ret
        refine ⟨?_, HG.out _⟩
        rw [← HT.out]
        simp [right]
        omega
    · go_wp2
      go_ret
      refine ⟨?_, HG.out _⟩
      rw [← HT.out]
      simp [right]
      omega
  · go_wp2
    go_ret
    refine ⟨?_, HG.out _⟩
    rw [← HT.out]
    simp [right]
    omega
set_option maxHeartbeats 1000000 in
theorem refright_grew (a : Int × Int) (w : World) :
    Calls Try.prog 51 #[.agg #[.int .i64 a.1, .int .i64 a.2]] w fun e w' => e = .returned (.bool (right a)) ∧ Grew w w' := by
  obtain ⟨t, ht⟩ : ∃ t, right a = t := ⟨_, rfl⟩
  rw [ht]
  have HT := Lib.hid ht
  clear ht
  obtain ⟨a1, a2⟩ := a
  have hgr : ∀ o : Obj, Grew w (w.alloc o) := fun o => ⟨0, #[o], by rw [alloc_eq_grow]; rfl⟩
  have HG := Lib.hid hgr
  clear hgr
  go_enter Try.func51, Try.ntmps51
  by_cases h1 : 0 ≤ a1
  · by_cases h2 : a1 ≤ 6
    · by_cases h3 : 0 ≤ a2
      · by_cases h4 : a2 ≤ 1099511627776
        · go_wp2
          go_ret
          refine ⟨?_, HG.out _⟩
          rw [← HT.out]
          simp [right]
          omega
        · go_wp2
          go_ret
          refine ⟨?_, HG.out _⟩
          rw [← HT.out]
          simp [right]
          omega
      · go_wp2
        go_ret
        refine ⟨?_, HG.out _⟩
        rw [← HT.out]
        simp [right]
        omega
    · go_wp2
      go_ret
      refine ⟨?_, HG.out _⟩
      rw [← HT.out]
      simp [right]
      omega
  · go_wp2
    go_ret
    refine ⟨?_, HG.out _⟩
    rw [← HT.out]
    simp [right]
    omega
theorem right_any (a : Int × Int) (w : World) : Calls Try.prog 50 #[.agg #[.int .i64 a.1, .int .i64 a.2]] w (Tells (right a) w) :=
  (right_grew a w).mono fun _ _ h => ⟨h.1, h.2.bel⟩
theorem refright_any (a : Int × Int) (w : World) : Calls Try.prog 51 #[.agg #[.int .i64 a.1, .int .i64 a.2]] w (Tells (right a) w) :=
  (refright_grew a w).mono fun _ _ h => ⟨h.1, h.2.bel⟩
end Go.Proofs.Ytccbkpdkmdnmfaa
