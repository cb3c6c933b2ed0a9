/-
  Texts of earlier layers, as one.
-/
import Derived.ProofKit
import Derived.Test.YthlhchaoedcdbaaDoorRBase
import Derived.Test.YthlhchaoedcdbaaDoorChecked
import Derived.Laws.StructEq
import Derived.WideLaws
/- Ballots as pairs (the round, whose it is): when one is right, which is ahead, which is next; plain mathematics, of no program. -/
namespace Go.Proofs.YthlhchaoedcdbaaDoor.Bal
def right (b : Int × Int) : Bool := decide (0 ≤ b.1 ∧ b.1 ≤ 1099511627776 ∧ 0 ≤ b.2 ∧ b.2 < 7)
def less (a b : Int × Int) : Bool := decide (a.1 < b.1 ∨ a.1 = b.1 ∧ a.2 < b.2)
/-- The next one of y, and whether there is one. -/
def next (a : Int × Int) (y : Int) : (Int × Int) × Bool := if right (a.1 + 1, y) = true then ((a.1 + 1, y), true) else ((0, 0), false)
theorem less_asymm {a b : Int × Int} (h : less a b = true) : less b a = false := by
  simp [less] at *
  omega
theorem less_trans {a b c : Int × Int} (h : less a b = true) (h' : less b c = true) : less a c = true := by
  simp [less] at *
  omega
theorem less_tri {a b : Int × Int} (h : less a b = false) (h' : less b a = false) : a = b := by
  simp [less] at *
  exact Prod.ext (by omega) (by omega)
theorem less_next (a : Int × Int) (y : Int) : less a (a.1 + 1, y) = true := by
  simp [less]
  omega
end Go.Proofs.YthlhchaoedcdbaaDoor.Bal
/- ballot.Right, Less, First and Next; the model's '==' of two ballots. -/
namespace Go.Proofs.YthlhchaoedcdbaaDoor.Bal
open Go.RowKit Mem

theorem eql_bal (a b : Int × Int) (w : World) : Sem.run Tryd.prog (binOp .eql 25 (.agg #[.int .i64 a.1, .int .i64 a.2]) (.agg #[.int .i64 b.1, .int .i64 b.2])) w = .ok (.bool (decide (a = b))) w := by
  have u3 := Tryd.underlying3
  have a3 := Tryd.isAgg3
  have z3 := Tryd.sizeOf3
  have hS : Tryd.prog.underlying 25 = some (.struct (Tryd.prog.fieldsOf 25)) := by kernel_rfl
  have hp : Tryd.prog.stoodInHeld 25 = false := by kernel_rfl
  rw [run_eql_struct, show (10000 : Nat) = 9999 + 1 from rfl, run_equalIn_agg w 9999 25 _ _ hS hp]
  simp only [Program.fieldsOf, Tryd.underlying25]
  go_simp
  obtain ⟨a1, a2⟩ := a
  obtain ⟨b1, b2⟩ := b
  by_cases h1 : a1 = b1 <;> by_cases h2 : a2 = b2 <;> simp [h1, h2]
theorem neq_bal (a b : Int × Int) (w : World) : Sem.run Tryd.prog (binOp .neq 25 (.agg #[.int .i64 a.1, .int .i64 a.2]) (.agg #[.int .i64 b.1, .int .i64 b.2])) w = .ok (.bool (!decide (a = b))) w := by
  have u3 := Tryd.underlying3
  have a3 := Tryd.isAgg3
  have z3 := Tryd.sizeOf3
  have hS : Tryd.prog.underlying 25 = some (.struct (Tryd.prog.fieldsOf 25)) := by kernel_rfl
  have hp : Tryd.prog.stoodInHeld 25 = false := by kernel_rfl
  rw [run_neq_struct, show (10000 : Nat) = 9999 + 1 from rfl, run_equalIn_agg w 9999 25 _ _ hS hp]
  simp only [Program.fieldsOf, Tryd.underlying25]
  go_simp
  obtain ⟨a1, a2⟩ := a
  obtain ⟨b1, b2⟩ := b
  by_cases h1 : a1 = b1 <;> by_cases h2 : a2 = b2 <;> simp [h1, h2]

set_option maxHeartbeats 1000000 in
theorem less_any (a b : Int × Int) (w : World) :
    Calls Tryd.prog 93 #[.agg #[.int .i64 a.1, .int .i64 a.2], .agg #[.int .i64 b.1, .int .i64 b.2]] w (Tells (less a b) w) := by
  obtain ⟨t, ht⟩ : ∃ t, less a b = t := ⟨_, rfl⟩
  rw [ht]
  have HT := Lib.hid ht
  clear ht
  have heq := eql_bal a b
  have HG := Lib.hid (fun o1 o2 : Obj => (bel_alloc (bel_alloc (Below.refl _ w) o1) o2))
  obtain ⟨a1, a2⟩ := a
  obtain ⟨b1, b2⟩ := b
  simp only at heq
  by_cases h0 : a1 = b1
  · subst h0
    by_cases h2 : a2 = b2
    · subst h2
      rw [decide_eq_true rfl] at heq
      go_enter Tryd.func93, Tryd.ntmps93
      go_wp2
      go_ret
      refine ⟨?_, HG.out _ _⟩
      rw [← HT.out]
      simp [less]
    · rw [decide_eq_false (by simp [h2])] at heq
      go_enter Tryd.func93, Tryd.ntmps93
      go_wp2
      go_ret
      refine ⟨?_, HG.out _ _⟩
      rw [← HT.out]
      simp [less]
  · rw [decide_eq_false (by simp [h0])] at heq
    go_enter Tryd.func93, Tryd.ntmps93
    go_wp2
    go_ret
    refine ⟨?_, HG.out _ _⟩
    rw [← HT.out]
    simp [less, h0]
set_option maxHeartbeats 1000000 in
theorem right_any (a : Int × Int) (w : World) :
    Calls Tryd.prog 49 #[.agg #[.int .i64 a.1, .int .i64 a.2]] w (Tells (right a) w) := by
  obtain ⟨t, ht⟩ : ∃ t, right a = t := ⟨_, rfl⟩
  rw [ht]
  have HT := Lib.hid ht
  clear ht
  obtain ⟨a1, a2⟩ := a
  have HG := Lib.hid (fun o1 : Obj => (bel_alloc (Below.refl _ w) o1))
  go_enter Tryd.func49, Tryd.ntmps49
  by_cases h1 : 0 ≤ a1
  · by_cases h2 : a1 ≤ 1099511627776
    · by_cases h3 : 0 ≤ a2
      · by_cases h4 : a2 < 7
        · go_wp2
          go_ret
          refine ⟨?_, HG.out _⟩
          rw [← HT.out]
          simp [right]
          omega
        · go_wp2
          go_ret
          refine ⟨?_, HG.out _⟩
          rw [← HT.out]
          simp [right]
          omega
      · go_wp2
        go_ret
        refine ⟨?_, HG.out _⟩
        rw [← HT.out]
        simp [right]
        omega
    · go_wp2
      go_ret
      refine ⟨?_, HG.out _⟩
      rw [← HT.out]
      simp [right]
      omega
  · go_wp2
    go_ret
    refine ⟨?_, HG.out _⟩
    rw [← HT.out]
    simp [right]
    omega
/-- Three boxes just made. -/
theorem three_boxes (w : World) (t : TypeId) (a b c : Array Value) : Blk (((w.alloc (.cells a t)).alloc (.cells b t)).alloc (.cells c t)) w.heap.size t a ∧ Blk (((w.alloc (.cells a t)).alloc (.cells b t)).alloc (.cells c t)) (w.heap.size + 1) t b ∧ Blk (((w.alloc (.cells a t)).alloc (.cells b t)).alloc (.cells c t)) (w.heap.size + 1 + 1) t c ∧ Below w.heap.size w (((w.alloc (.cells a t)).alloc (.cells b t)).alloc (.cells c t)) := by
  have hs1 := size_alloc w (.cells a t)
  have hs2 := size_alloc (w.alloc (.cells a t)) (.cells b t)
  have h2 := Blk.new (w.alloc (.cells a t)) t b
  rw [hs1] at h2
  have h3 := Blk.new ((w.alloc (.cells a t)).alloc (.cells b t)) t c
  rw [hs2, hs1] at h3
  exact ⟨((Blk.new w t a).alloc _).alloc _, h2.alloc _, h3, bel_alloc (bel_alloc (bel_alloc (Below.refl _ w) _) _) _⟩
/-- What stands in a box of two that is written over; what was there ahead of it stays. -/
theorem box_set {w0 w : World} {B g : Nat} {t : TypeId} {a b : Value} (h : Blk w g t #[a, b]) (hb : Below B w0 w) (hg : B ≤ g) (u v : Value) :
    Blk ((w.setCell ⟨g, 0, none⟩ u).setCell ⟨g, 1, none⟩ v) g t #[u, v] ∧ Below B w0 ((w.setCell ⟨g, 0, none⟩ u).setCell ⟨g, 1, none⟩ v) :=
  ⟨(h.put 0 u).put 1 v, (hb.setCell hg u).setCell hg v⟩
/-- The ending of Next. -/
def Nexts (r : (Int × Int) × Bool) (w : World) (e : Ending) (w' : World) : Prop :=
  e = .returned (.tuple #[.agg #[.int .i64 r.1.1, .int .i64 r.1.2], .bool r.2]) ∧ Below w.heap.size w w'
end Go.Proofs.YthlhchaoedcdbaaDoor.Bal
/- The document's Right and Less of ballots. -/
namespace Go.Proofs.YthlhchaoedcdbaaDoor.Bal
open Go.RowKit Mem

end Go.Proofs.YthlhchaoedcdbaaDoor.Bal
