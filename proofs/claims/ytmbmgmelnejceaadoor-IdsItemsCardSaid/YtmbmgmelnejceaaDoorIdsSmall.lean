/-
  ids.Less, ids.Right and the document's: which of two is ahead, whether one is right; the comparison that ids.Set sorts by; the model's '==' of two ids.
-/
import Derived.Test.YtmbmgmelnejceaaDoorIdsMem
import Derived.Test.YtmbmgmelnejceaaDoorChecked
import Derived.Laws.StructEq
import Derived.Sort.Grow
import Derived.Test.YtmbmgmelnejceaaDoorQuiet
import Derived.WideLaws
namespace Go.Proofs.YtmbmgmelnejceaaDoor
open Go.RowKit Mem Ids Go.Sort

/-- What lies in w stays; new blocks may lie behind it, and draws. -/
def Grew (w w' : World) : Prop := ∃ q os, w' = grow (w.drewN q) os
theorem Grew.bel {w w' : World} (h : Grew w w') : Below w.heap.size w w' := by
  obtain ⟨q, os, rfl⟩ := h
  refine ⟨rfl, rfl, rfl, ?_, fun k hk => ?_⟩
  · show w.heap.size ≤ (w.heap ++ os).size
    simp
  · show (w.heap ++ os)[k]? = w.heap[k]?
    exact Array.getElem?_append_left hk

theorem wrap64 {x : Int} (h : -9223372036854775808 ≤ x) (h' : x ≤ 9223372036854775807) : IntKind.i64.wrap x = x := by
  simp [IntKind.wrap, IntKind.bits, IntKind.signed]
  omega

theorem eql_id (a b : Int × Int) (w : World) : Sem.run Tryd.prog (binOp .eql 24 (.agg #[.int .i64 a.1, .int .i64 a.2]) (.agg #[.int .i64 b.1, .int .i64 b.2])) w = .ok (.bool (decide (a = b))) w := by
  have u3 := Tryd.underlying3
  have a3 := Tryd.isAgg3
  have z3 := Tryd.sizeOf3
  have hS : Tryd.prog.underlying 24 = some (.struct (Tryd.prog.fieldsOf 24)) := by kernel_rfl
  have hp : Tryd.prog.stoodInHeld 24 = false := by kernel_rfl
  rw [run_eql_struct, show (10000 : Nat) = 9999 + 1 from rfl, run_equalIn_agg w 9999 24 _ _ hS hp]
  simp only [Program.fieldsOf, Tryd.underlying24]
  go_simp
  obtain ⟨a1, a2⟩ := a
  obtain ⟨b1, b2⟩ := b
  by_cases h1 : a1 = b1 <;> by_cases h2 : a2 = b2 <;> simp [h1, h2]
theorem neq_id (a b : Int × Int) (w : World) : Sem.run Tryd.prog (binOp .neq 24 (.agg #[.int .i64 a.1, .int .i64 a.2]) (.agg #[.int .i64 b.1, .int .i64 b.2])) w = .ok (.bool (!decide (a = b))) w := by
  have u3 := Tryd.underlying3
  have a3 := Tryd.isAgg3
  have z3 := Tryd.sizeOf3
  have hS : Tryd.prog.underlying 24 = some (.struct (Tryd.prog.fieldsOf 24)) := by kernel_rfl
  have hp : Tryd.prog.stoodInHeld 24 = false := by kernel_rfl
  rw [run_neq_struct, show (10000 : Nat) = 9999 + 1 from rfl, run_equalIn_agg w 9999 24 _ _ hS hp]
  simp only [Program.fieldsOf, Tryd.underlying24]
  go_simp
  obtain ⟨a1, a2⟩ := a
  obtain ⟨b1, b2⟩ := b
  by_cases h1 : a1 = b1 <;> by_cases h2 : a2 = b2 <;> simp [h1, h2]

set_option maxHeartbeats 1000000 in
theorem less_grew (a b : Int × Int) (w : World) :
    Calls Tryd.prog 15 #[.agg #[.int .i64 a.1, .int .i64 a.2], .agg #[.int .i64 b.1, .int .i64 b.2]] w fun e w' => e = .returned (.bool (lt a b)) ∧ Grew w w' := by
  obtain ⟨t, ht⟩ : ∃ t, lt a b = t := ⟨_, rfl⟩
  rw [ht]
  have HT := Lib.hid ht
  clear ht
  obtain ⟨a1, a2⟩ := a
  obtain ⟨b1, b2⟩ := b
  have hgr : ∀ o1 o2 : Obj, Grew w ((w.alloc o1).alloc o2) := fun o1 o2 => ⟨0, #[o1, o2], by rw [alloc_eq_grow, alloc_eq_grow, grow_grow]; rfl⟩
  have HG := Lib.hid hgr
  clear hgr
  go_enter Tryd.func15, Tryd.ntmps15
  by_cases h1 : a2 < b2
  · go_wp2
    go_ret
    refine ⟨?_, HG.out _ _⟩
    rw [← HT.out]
    simp [lt, h1]
  · by_cases h2 : a2 = b2
    · subst h2
      by_cases h3 : a1 < b1
      · go_wp2
        go_ret
        refine ⟨?_, HG.out _ _⟩
        rw [← HT.out]
        simp [lt, h3]
      · go_wp2
        go_ret
        refine ⟨?_, HG.out _ _⟩
        rw [← HT.out]
        simp [lt, h3]
    · go_wp2
      go_ret
      refine ⟨?_, HG.out _ _⟩
      rw [← HT.out]
      simp [lt, h1, h2]
theorem less_any (a b : Int × Int) (w : World) :
    Calls Tryd.prog 15 #[.agg #[.int .i64 a.1, .int .i64 a.2], .agg #[.int .i64 b.1, .int .i64 b.2]] w (Tells (lt a b) w) :=
  (less_grew a b w).mono fun _ _ h => ⟨h.1, h.2.bel⟩
set_option maxHeartbeats 1000000 in
theorem refless_grew (a b : Int × Int) (w : World) :
    Calls Tryd.prog 16 #[.agg #[.int .i64 a.1, .int .i64 a.2], .agg #[.int .i64 b.1, .int .i64 b.2]] w fun e w' => e = .returned (.bool (lt a b)) ∧ Grew w w' := by
  obtain ⟨t, ht⟩ : ∃ t, lt a b = t := ⟨_, rfl⟩
  rw [ht]
  have HT := Lib.hid ht
  clear ht
  obtain ⟨a1, a2⟩ := a
  obtain ⟨b1, b2⟩ := b
  have hgr : ∀ o1 o2 : Obj, Grew w ((w.alloc o1).alloc o2) := fun o1 o2 => ⟨0, #[o1, o2], by rw [alloc_eq_grow, alloc_eq_grow, grow_grow]; rfl⟩
  have HG := Lib.hid hgr
  clear hgr
  go_enter Tryd.func16, Tryd.ntmps16
  by_cases h1 : a2 < b2
  · go_wp2
    go_ret
    refine ⟨?_, HG.out _ _⟩
    rw [← HT.out]
    simp [lt, h1]
  · by_cases h2 : a2 = b2
    · subst h2
      by_cases h3 : a1 < b1
      · go_wp2
        go_ret
        refine ⟨?_, HG.out _ _⟩
        rw [← HT.out]
        simp [lt, h3]
      · go_wp2
        go_ret
        refine ⟨?_, HG.out _ _⟩
        rw [← HT.out]
        simp [lt, h3]
    · go_wp2
      go_ret
      refine ⟨?_, HG.out _ _⟩
      rw [← HT.out]
      simp [lt, h1, h2]
theorem refless_any (a b : Int × Int) (w : World) :
    Calls Tryd.prog 16 #[.agg #[.int .i64 a.1, .int .i64 a.2], .agg #[.int .i64 b.1, .int .i64 b.2]] w (Tells (lt a b) w) :=
  (refless_grew a b w).mono fun _ _ h => ⟨h.1, h.2.bel⟩
set_option maxHeartbeats 1000000 in
theorem right_grew (a : Int × Int) (w : World) :
    Calls Tryd.prog 13 #[.agg #[.int .i64 a.1, .int .i64 a.2]] w fun e w' => e = .returned (.bool (right a)) ∧ Grew w w' := by
  obtain ⟨t, ht⟩ : ∃ t, right a = t := ⟨_, rfl⟩
  rw [ht]
  have HT := Lib.hid ht
  clear ht
  obtain ⟨a1, a2⟩ := a
  have hgr : ∀ o : Obj, Grew w (w.alloc o) := fun o => ⟨0, #[o], by rw [alloc_eq_grow]; rfl⟩
  have HG := Lib.hid hgr
  clear hgr
  go_enter Tryd.func13, Tryd.ntmps13
  by_cases h1 : 0 ≤ a1
  · by_cases h2 : a1 < 7
    · by_cases h3 : 0 ≤ a2
      · by_cases h4 : a2 ≤ 1099511627776
        · go_wp2
          go_ret
          refine ⟨?_, HG.out _⟩
          rw [← HT.out]
          simp [right]
          omega
        · go_wp2
          go_ret
          refine ⟨?_, HG.out _⟩
          rw [← HT.out]
          simp [right]
          omega
      · go_wp2
        go_ret
        refine ⟨?_, HG.out _⟩
        rw [← HT.out]
        simp [right]
        omega
    · go_wp2
      go_ret
      refine ⟨?_, HG.out _⟩
      rw [← HT.out]
      simp [right]
      omega
  · go_wp2
    go_ret
    refine ⟨?_, HG.out _⟩
    rw [← HT.out]
    simp [right]
    omega
set_option maxHeartbeats 1000000 in
theorem refright_grew (a : Int × Int) (w : World) :
    Calls Tryd.prog 14 #[.agg #[.int .i64 a.1, .int .i64 a.2]] w fun e w' => e = .returned (.bool (right a)) ∧ Grew w w' := by
  obtain ⟨t, ht⟩ : ∃ t, right a = t := ⟨_, rfl⟩
  rw [ht]
  have HT := Lib.hid ht
  clear ht
  obtain ⟨a1, a2⟩ := a
  have hgr : ∀ o : Obj, Grew w (w.alloc o) := fun o => ⟨0, #[o], by rw [alloc_eq_grow]; rfl⟩
  have HG := Lib.hid hgr
  clear hgr
  go_enter Tryd.func14, Tryd.ntmps14
  by_cases h1 : 0 ≤ a1
  · by_cases h2 : a1 ≤ 6
    · by_cases h3 : 0 ≤ a2
      · by_cases h4 : a2 ≤ 1099511627776
        · go_wp2
          go_ret
          refine ⟨?_, HG.out _⟩
          rw [← HT.out]
          simp [right]
          omega
        · go_wp2
          go_ret
          refine ⟨?_, HG.out _⟩
          rw [← HT.out]
          simp [right]
          omega
      · go_wp2
        go_ret
        refine ⟨?_, HG.out _⟩
        rw [← HT.out]
        simp [right]
        omega
    · go_wp2
      go_ret
      refine ⟨?_, HG.out _⟩
      rw [← HT.out]
      simp [right]
      omega
  · go_wp2
    go_ret
    refine ⟨?_, HG.out _⟩
    rw [← HT.out]
    simp [right]
    omega
theorem right_any (a : Int × Int) (w : World) : Calls Tryd.prog 13 #[.agg #[.int .i64 a.1, .int .i64 a.2]] w (Tells (right a) w) :=
  (right_grew a w).mono fun _ _ h => ⟨h.1, h.2.bel⟩
theorem refright_any (a : Int × Int) (w : World) : Calls Tryd.prog 14 #[.agg #[.int .i64 a.1, .int .i64 a.2]] w (Tells (right a) w) :=
  (refright_grew a w).mono fun _ _ h => ⟨h.1, h.2.bel⟩

/-- What ids.Set sorts by. -/
def cmpf (a b : Int × Int) : Int := if a = b then 0 else if lt a b = true then -1 else 1
set_option maxHeartbeats 1000000 in
theorem cmp_grew (a b : Int × Int) (w : World) :
    Calls Tryd.prog 34 #[.agg #[.int .i64 a.1, .int .i64 a.2], .agg #[.int .i64 b.1, .int .i64 b.2]] w fun e w' => e = .returned (.int .i64 (cmpf a b)) ∧ Grew w w' := by
  have heq := eql_id a b
  have hl := less_grew a b
  obtain ⟨r, hr⟩ : ∃ r, cmpf a b = r := ⟨_, rfl⟩
  rw [hr]
  have HT := Lib.hid hr
  unfold cmpf at hr
  by_cases h1 : a = b
  · rw [decide_eq_true h1] at heq
    rw [if_pos h1] at hr
    subst hr
    clear HT hl h1
    obtain ⟨a1, a2⟩ := a
    obtain ⟨b1, b2⟩ := b
    simp only at heq
    go_enter Tryd.func34, Tryd.ntmps34
    go_wp2
    go_ret
    exact ⟨rfl, 0, #[_, _], by rw [alloc_eq_grow, alloc_eq_grow, grow_grow]; rfl⟩
  · rw [decide_eq_false h1] at heq
    rw [if_neg h1] at hr
    clear HT h1
    have HL := Lib.hid hl
    clear hl
    obtain ⟨a1, a2⟩ := a
    obtain ⟨b1, b2⟩ := b
    simp only at heq
    have hgw : ∀ (o1 o2 : Obj) w', Grew ((w.alloc o1).alloc o2) w' → Grew w w' := fun o1 o2 w' ⟨q, os, e⟩ => ⟨q, #[o1, o2] ++ os, by rw [e, alloc_eq_grow, alloc_eq_grow, grow_grow]; show grow (grow (w.drewN q) _) os = _; rw [grow_grow]; rfl⟩
    have HGW := Lib.hid hgw
    clear hgw
    go_enter Tryd.func34, Tryd.ntmps34
    go_wp2_with fail
    refine (HL.out _).mono ?_
    rintro e w' ⟨rfl, hg⟩
    have HG := Lib.hid (HGW.out _ _ _ hg)
    clear hg
    cases hlt : lt (a1, a2) (b1, b2) with
    | true =>
      rw [if_pos hlt] at hr
      subst hr
      clear hlt
      go_wp2_with fail
      go_ret
      exact ⟨rfl, HG.out⟩
    | false =>
      rw [if_neg (by simp [hlt])] at hr
      subst hr
      clear hlt
      go_wp2_with fail
      go_ret
      exact ⟨rfl, HG.out⟩
end Go.Proofs.YtmbmgmelnejceaaDoor
