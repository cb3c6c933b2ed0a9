/-
  The walk of the law NumTakes: it answers true, whatever the bytes; what was there stays.
-/
import Derived.Test.YtagcejdcmkihpaaNumRefTake
namespace Go.Proofs.Ytagcejdcmkihpaa
open Go.RowKit Mem

set_option maxHeartbeats 1000000 in
theorem takes_far (A : Option Addr) (n c : Nat) (w : World) (hn : 300 < n) :
    Calls Try.prog 4 #[.slice A n c] w (Tells true w) := by
  go_enter Try.func4, Try.ntmps4
  go_wp2_with fail
  refine (awake_true _).mono ?_
  rintro e w4 ⟨rfl, hb4⟩
  go_wp2_with fail
  go_ret
  exact ⟨rfl, hb4⟩

set_option maxHeartbeats 1000000 in
theorem takes_near (A : Option Addr) (n c : Nat) (bs : List Nat) (w : World) (hn : n ≤ 300) (hr : Rd w A n c (cs bs)) (hlt : ∀ b ∈ bs, b < 256) :
    Calls Try.prog 4 #[.slice A n c] w (Tells true w) := by
  have h1 := take_any A n c bs w hr hlt
  have h2 := reftake_any A n c bs w hr hlt
  unfold Took at h1
  generalize ((Num.take bs).1 : Int) = x at h1 h2
  generalize ((Num.take bs).2.1 : Int) = y at h1 h2
  generalize ((Num.take bs).2.2 : Int) = z at h1 h2
  have H1 := Lib.hid h1
  have H2 := Lib.hid h2
  clear h1 h2 hlt
  have d0 : decide (300 < n) = false := by simp; omega
  go_enter Try.func4, Try.ntmps4
  go_wp2_with fail
  refine H1.out.mono ?_
  rintro e w' ⟨rfl, rfl⟩
  go_wp2_with fail
  refine H2.out.mono ?_
  rintro e w2 ⟨rfl, hb2⟩
  go_wp2_with fail
  refine (awake_true _).mono ?_
  rintro e w4 ⟨rfl, hb4⟩
  go_wp2_with fail
  go_ret
  exact ⟨rfl, bel_trans hb2 hb4⟩

theorem numTakes_walk (A : Option Addr) (n c : Nat) (bs : List Nat) (w : World) (hr : Rd w A n c (cs bs)) (hlt : ∀ b ∈ bs, b < 256) :
    Calls Try.prog 4 #[.slice A n c] w fun e w' => e = .returned (.bool true) ∧ Below w.heap.size w w' := by
  by_cases hn : n ≤ 300
  · exact takes_near A n c bs w hn hr hlt
  · exact takes_far A n c w (by omega)

end Go.Proofs.Ytagcejdcmkihpaa
