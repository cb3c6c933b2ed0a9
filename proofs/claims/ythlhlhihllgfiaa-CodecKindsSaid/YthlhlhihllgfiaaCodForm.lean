/-
  codec.formed tells whether an item is of a kind and has nothing that this kind doesn't have.
-/
import Derived.Test.YthlhlhihllgfiaaProg
import Derived.Test.YthlhlhihllgfiaaCodMem
namespace Go.Proofs.Ythlhlhihllgfiaa
open Go.RowKit Mem Cod

theorem z_eq (m : Nat) : ((m : Int) == 0) = decide (m = 0) := by rw [Bool.eq_iff_iff]; simp
theorem s_eq (s : ByteArray) : s.toList.isEmpty = decide (s = ByteArray.empty) := by
  rw [Bool.eq_iff_iff, List.isEmpty_iff, toList_nil, size_zero, decide_eq_true_eq]

set_option maxHeartbeats 1000000 in
theorem formed_any (x : It) (A : Option Addr) (c : Nat) (w : World) :
    Calls Try.prog 36 #[.agg #[.int .i64 x.kind, .int .u64 (x.num : Int), .string x.str, .slice A x.kids.length c]] w (Tells (formed x) w) := by
  obtain ⟨k, n, s, l⟩ := x
  simp only [It.kind, It.num, It.str, It.kids]
  generalize hF : formed (.mk k n s l) = F
  have HF := Lib.hid hF
  clear hF
  generalize hm : l.length = m
  have HM := Lib.hid hm
  clear hm
  have fin : ∀ (b : Bool) (w' : World), b = formed (.mk k n s l) → Below w.heap.size w w' → Tells F w (.returned (.bool b)) w' := by
    rintro b w' rfl hb
    rw [← HF.out]
    exact ⟨rfl, hb⟩
  have FIN := Lib.hid fin
  clear fin
  have hml := HM.out
  by_cases h0 : k = 0
  · subst h0
    clear hml
    go_enter Try.func36, Try.ntmps36
    go_wp2_with fail
    all_goals
      go_ret
      refine FIN.out _ _ ?_ (bel_alloc (Below.refl _ _) _)
      have hml := HM.out
      simp_all [formed, It.kind, It.str, It.kids, toList_nil]
      try exact z_eq _
  · by_cases h1 : k = 1
    · subst h1
      clear hml h0
      go_enter Try.func36, Try.ntmps36
      go_wp2_with fail
      all_goals
        go_ret
        refine FIN.out _ _ ?_ (bel_alloc (Below.refl _ _) _)
        have hml := HM.out
        simp_all [formed, It.kind, It.num, It.kids]
        try exact z_eq _
    · by_cases h2 : k = 2
      · subst h2
        clear hml h0 h1
        go_enter Try.func36, Try.ntmps36
        go_wp2_with fail
        all_goals
          go_ret
          refine FIN.out _ _ ?_ (bel_alloc (Below.refl _ _) _)
          simp_all [formed, It.kind, It.num, It.str]
          try exact s_eq _
      · have e0 : (k == 0) = false := by simpa using h0
        have e1 : (k == 1) = false := by simpa using h1
        have e2 : (k == 2) = false := by simpa using h2
        have H0 := Lib.hid h0
        have H1 := Lib.hid h1
        have H2 := Lib.hid h2
        clear hml h0 h1 h2
        go_enter Try.func36, Try.ntmps36
        go_wp2_with fail
        go_ret
        refine FIN.out _ _ ?_ (bel_alloc (Below.refl _ _) _)
        have h0 := H0.out
        have h1 := H1.out
        have h2 := H2.out
        simp [formed, It.kind, h0, h1, h2]
end Go.Proofs.Ythlhlhihllgfiaa
