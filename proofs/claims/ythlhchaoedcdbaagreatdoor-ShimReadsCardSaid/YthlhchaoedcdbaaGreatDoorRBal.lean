/-
  Texts of earlier layers, as one.
-/
import Derived.ProofKit
import Derived.Test.YthlhchaoedcdbaaGreatDoorRBase
import Derived.Test.YthlhchaoedcdbaaGreatDoorChecked
import Derived.Laws.StructEq
import Derived.WideLaws
/- Ballots as pairs (the round, whose it is): when one is right, which is ahead, which is next; plain mathematics, of no program. -/
namespace Go.Proofs.YthlhchaoedcdbaaGreatDoor.Bal
open Lib (hid)
def right (b : Int × Int) : Bool := decide (0 ≤ b.1 ∧ b.1 ≤ 1099511627776 ∧ 0 ≤ b.2 ∧ b.2 < 7)
def less (a b : Int × Int) : Bool := decide (a.1 < b.1 ∨ a.1 = b.1 ∧ a.2 < b.2)
def next (a : Int × Int) (y : Int) : (Int × Int) × Bool := if right (a.1 + 1, y) = true then ((a.1 + 1, y), true) else ((0, 0), false)
end Go.Proofs.YthlhchaoedcdbaaGreatDoor.Bal
/- ballot.Right, Less, First and Next; the model's '==' of two ballots. -/
namespace Go.Proofs.YthlhchaoedcdbaaGreatDoor.Bal
open Lib (hid)
open Go.RowKit Mem
theorem eql_bal (a b : Int × Int) (w : World) : Sem.run Tryz.prog (binOp .eql 25 (.agg #[.int .i64 a.1, .int .i64 a.2]) (.agg #[.int .i64 b.1, .int .i64 b.2])) w = .ok (.bool (decide (a = b))) w := by
 have u3 := Tryz.underlying3;have a3 := Tryz.isAgg3;have z3 := Tryz.sizeOf3;have hS : Tryz.prog.underlying 25 = some (.struct (Tryz.prog.fieldsOf 25)) := by kernel_rfl
 have hp : Tryz.prog.stoodInHeld 25 = false := by kernel_rfl
 rw [run_eql_struct, show (10000 : Nat) = 9999 + 1 from rfl, run_equalIn_agg w 9999 25 _ _ hS hp];simp only [Program.fieldsOf, Tryz.underlying25];go_simp;obtain ⟨a1, a2⟩ := a;obtain ⟨b1, b2⟩ := b;by_cases h1 : a1 = b1 <;> by_cases h2 : a2 = b2 <;> simp [h1, h2]
theorem neq_bal (a b : Int × Int) (w : World) : Sem.run Tryz.prog (binOp .neq 25 (.agg #[.int .i64 a.1, .int .i64 a.2]) (.agg #[.int .i64 b.1, .int .i64 b.2])) w = .ok (.bool (!decide (a = b))) w := by
 have u3 := Tryz.underlying3;have a3 := Tryz.isAgg3;have z3 := Tryz.sizeOf3;have hS : Tryz.prog.underlying 25 = some (.struct (Tryz.prog.fieldsOf 25)) := by kernel_rfl
 have hp : Tryz.prog.stoodInHeld 25 = false := by kernel_rfl
 rw [run_neq_struct, show (10000 : Nat) = 9999 + 1 from rfl, run_equalIn_agg w 9999 25 _ _ hS hp];simp only [Program.fieldsOf, Tryz.underlying25];go_simp;obtain ⟨a1, a2⟩ := a;obtain ⟨b1, b2⟩ := b;by_cases h1 : a1 = b1 <;> by_cases h2 : a2 = b2 <;> simp [h1, h2]
set_option maxHeartbeats 1000000 in
theorem less_any (a b : Int × Int) (w : World) :
 Calls Tryz.prog 145 #[.agg #[.int .i64 a.1, .int .i64 a.2], .agg #[.int .i64 b.1, .int .i64 b.2]] w (Tells (less a b) w) := by
 obtain ⟨t, ht⟩ : ∃ t, less a b = t := ⟨_, rfl⟩
 rw [ht];have HT := hid ht;clear ht;have heq := eql_bal a b;have HG := hid (fun o1 o2 : Obj => (bel_alloc (bel_alloc (Below.refl _ w) o1) o2));obtain ⟨a1, a2⟩ := a;obtain ⟨b1, b2⟩ := b;simp only at heq;by_cases h0 : a1 = b1
 · subst h0
   by_cases h2 : a2 = b2
   · subst h2
     rw [decide_eq_true rfl] at heq;go_enter Tryz.func145, Tryz.ntmps145
     go_wp2
     go_ret;refine ⟨?_, HG.out _ _⟩;rw [← HT.out];simp [less]
   · rw [decide_eq_false (by simp [h2])] at heq
     go_enter Tryz.func145, Tryz.ntmps145
     go_wp2
     go_ret;refine ⟨?_, HG.out _ _⟩;rw [← HT.out];simp [less]
 · rw [decide_eq_false (by simp [h0])] at heq
   go_enter Tryz.func145, Tryz.ntmps145
   go_wp2
   go_ret;refine ⟨?_, HG.out _ _⟩;rw [← HT.out];simp [less, h0]
set_option maxHeartbeats 1000000 in
theorem right_any (a : Int × Int) (w : World) :
 Calls Tryz.prog 88 #[.agg #[.int .i64 a.1, .int .i64 a.2]] w (Tells (right a) w) := by
 obtain ⟨t, ht⟩ : ∃ t, right a = t := ⟨_, rfl⟩
 rw [ht];have HT := hid ht;clear ht;obtain ⟨a1, a2⟩ := a;have HG := hid (fun o1 : Obj => (bel_alloc (Below.refl _ w) o1));go_enter Tryz.func88, Tryz.ntmps88
 by_cases h1 : 0 ≤ a1
 · by_cases h2 : a1 ≤ 1099511627776
   · by_cases h3 : 0 ≤ a2
     · by_cases h4 : a2 < 7
       · go_wp2
         go_ret;refine ⟨?_, HG.out _⟩;rw [← HT.out];simp [right];omega
       · go_wp2
         go_ret;refine ⟨?_, HG.out _⟩;rw [← HT.out];simp [right];omega
     · go_wp2
       go_ret;refine ⟨?_, HG.out _⟩;rw [← HT.out];simp [right];omega
   · go_wp2
     go_ret;refine ⟨?_, HG.out _⟩;rw [← HT.out];simp [right];omega
 · go_wp2
   go_ret;refine ⟨?_, HG.out _⟩;rw [← HT.out];simp [right];omega
end Go.Proofs.YthlhchaoedcdbaaGreatDoor.Bal
/- The document's Right and Less of ballots. -/
namespace Go.Proofs.YthlhchaoedcdbaaGreatDoor.Bal
open Lib (hid)
open Go.RowKit Mem
set_option maxHeartbeats 1000000 in
theorem refless_any (a b : Int × Int) (w : World) :
 Calls Tryz.prog 105 #[.agg #[.int .i64 a.1, .int .i64 a.2], .agg #[.int .i64 b.1, .int .i64 b.2]] w (Tells (less a b) w) := by
 obtain ⟨t, ht⟩ : ∃ t, less a b = t := ⟨_, rfl⟩
 rw [ht];have HT := hid ht;clear ht;have HG := hid (fun o1 o2 : Obj => (bel_alloc (bel_alloc (Below.refl _ w) o1) o2));obtain ⟨a1, a2⟩ := a;obtain ⟨b1, b2⟩ := b;go_enter Tryz.func105, Tryz.ntmps105
 by_cases h0 : a1 < b1
 · have e0 : decide (a1 < b1) = true := decide_eq_true h0
   go_wp2
   go_ret;refine ⟨?_, HG.out _ _⟩;rw [← HT.out];simp [less, h0]
 · have e0 : decide (a1 < b1) = false := decide_eq_false h0
   by_cases h1 : a1 = b1
   · subst h1
     go_wp2
     go_ret;refine ⟨?_, HG.out _ _⟩;rw [← HT.out];simp [less]
   · have e1 : (a1 == b1) = false := beq_false_of_ne h1
     go_wp2
     go_ret;refine ⟨?_, HG.out _ _⟩;rw [← HT.out];simp [less, h0, h1]
set_option maxHeartbeats 1000000 in
theorem refright_any (a : Int × Int) (w : World) :
 Calls Tryz.prog 54 #[.agg #[.int .i64 a.1, .int .i64 a.2]] w (Tells (right a) w) := by
 obtain ⟨t, ht⟩ : ∃ t, right a = t := ⟨_, rfl⟩
 rw [ht];have HT := hid ht;clear ht;obtain ⟨a1, a2⟩ := a;have HG := hid (fun o1 : Obj => (bel_alloc (Below.refl _ w) o1));go_enter Tryz.func54, Tryz.ntmps54
 by_cases h1 : 0 ≤ a1
 · by_cases h2 : a1 ≤ 1099511627776
   · by_cases h3 : 0 ≤ a2
     · by_cases h4 : a2 ≤ 6
       · go_wp2
         go_ret;refine ⟨?_, HG.out _⟩;rw [← HT.out];simp [right];omega
       · go_wp2
         go_ret;refine ⟨?_, HG.out _⟩;rw [← HT.out];simp [right];omega
     · go_wp2
       go_ret;refine ⟨?_, HG.out _⟩;rw [← HT.out];simp [right];omega
   · go_wp2
     go_ret;refine ⟨?_, HG.out _⟩;rw [← HT.out];simp [right];omega
 · go_wp2
   go_ret;refine ⟨?_, HG.out _⟩;rw [← HT.out];simp [right];omega
end Go.Proofs.YthlhchaoedcdbaaGreatDoor.Bal
