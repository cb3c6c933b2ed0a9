/-
  Texts of earlier layers, as one.
-/
import Derived.Test.YtjfpfbagckckkaaGreatDoorRBal
/- The document's Right and Less of ballots. -/
namespace Go.Proofs.YtjfpfbagckckkaaGreatDoor.Bal
open Go.RowKit Mem
set_option maxHeartbeats 1000000 in
theorem refless_any (a b : Int × Int) (w : World) :
 Calls Tryz.prog 56 #[.agg #[.int .i64 a.1, .int .i64 a.2], .agg #[.int .i64 b.1, .int .i64 b.2]] w (Tells (less a b) w) := by
 obtain ⟨t, ht⟩ : ∃ t, less a b = t := ⟨_, rfl⟩
 rw [ht]
 have HT := Lib.hid ht
 clear ht
 have HG := Lib.hid (fun o1 o2 : Obj => (bel_alloc (bel_alloc (Below.refl _ w) o1) o2))
 obtain ⟨a1, a2⟩ := a
 obtain ⟨b1, b2⟩ := b
 go_enter Tryz.func56, Tryz.ntmps56
 by_cases h0 : a1 < b1
 · have e0 : decide (a1 < b1) = true := decide_eq_true h0
   go_wp2
   go_ret
   refine ⟨?_, HG.out _ _⟩
   rw [← HT.out]
   simp [less, h0]
 · have e0 : decide (a1 < b1) = false := decide_eq_false h0
   by_cases h1 : a1 = b1
   · subst h1
     go_wp2
     go_ret
     refine ⟨?_, HG.out _ _⟩
     rw [← HT.out]
     simp [less]
   · have e1 : (a1 == b1) = false := beq_false_of_ne h1
     go_wp2
     go_ret
     refine ⟨?_, HG.out _ _⟩
     rw [← HT.out]
     simp [less, h0, h1]
set_option maxHeartbeats 1000000 in
theorem refright_any (a : Int × Int) (w : World) :
 Calls Tryz.prog 26 #[.agg #[.int .i64 a.1, .int .i64 a.2]] w (Tells (right a) w) := by
 obtain ⟨t, ht⟩ : ∃ t, right a = t := ⟨_, rfl⟩
 rw [ht]
 have HT := Lib.hid ht
 clear ht
 obtain ⟨a1, a2⟩ := a
 have HG := Lib.hid (fun o1 : Obj => (bel_alloc (Below.refl _ w) o1))
 go_enter Tryz.func26, Tryz.ntmps26
 by_cases h1 : 0 ≤ a1
 · by_cases h2 : a1 ≤ 1099511627776
   · by_cases h3 : 0 ≤ a2
     · by_cases h4 : a2 ≤ 6
       · go_wp2
         go_ret
         refine ⟨?_, HG.out _⟩
         rw [← HT.out]
         simp [right]
         omega
       · go_wp2
         go_ret
         refine ⟨?_, HG.out _⟩
         rw [← HT.out]
         simp [right]
         omega
     · go_wp2
       go_ret
       refine ⟨?_, HG.out _⟩
       rw [← HT.out]
       simp [right]
       omega
   · go_wp2
     go_ret
     refine ⟨?_, HG.out _⟩
     rw [← HT.out]
     simp [right]
     omega
 · go_wp2
   go_ret
   refine ⟨?_, HG.out _⟩
   rw [← HT.out]
   simp [right]
   omega
end Go.Proofs.YtjfpfbagckckkaaGreatDoor.Bal
