/-
  The walk of the law CrcParts, whole.
-/
import Derived.Test.YtnlgikaebhiamaaDoorCrcPartsWalk
namespace Go.Proofs.YtnlgikaebhiamaaDoor
open Go.RowKit Mem

theorem parts_far (A : Option Addr) (n c : Nat) (x y : Int) (w : World) (hn : 1000 < n) (ht : Tab w) :
    Calls Tryd.prog 6 #[.slice A n c, .int .i64 x, .int .i64 y] w (Tells true w) := by
  have HT := Lib.hid ht
  have d0 : decide ((1000 : Int) < (n : Int)) = true := by simp; omega
  clear ht
  go_enter Tryd.func6, Tryd.ntmps6
  go_wp2_with fail
  refine (awake_any _ HT.out).mono ?_
  rintro e w' ⟨rfl, hb5⟩
  go_wp2_with fail
  go_ret
  exact ⟨rfl, hb5⟩

theorem crcParts_walk (A : Option Addr) (n c : Nat) (x y : Int) (b : List Nat) (w : World) (ht : Tab w) (hb : Rd w A n c (cs b)) (lb : ∀ x ∈ b, x < 256) :
    Calls Tryd.prog 6 #[.slice A n c, .int .i64 x, .int .i64 y] w fun e w' => e = .returned (.bool true) ∧ Below w.heap.size w w' := by
  by_cases hn : 1000 < n
  · exact parts_far A n c x y w hn ht
  · have h1 := pick_lt x ((n : Int) + 1) (by omega)
    obtain ⟨i, hi⟩ := Int.eq_ofNat_of_zero_le h1.1
    have h2 := pick_lt y ((i : Int) + 1) (by omega)
    obtain ⟨k, hk⟩ := Int.eq_ofNat_of_zero_le h2.1
    exact parts_near A n c i k x y b w (by omega) hi hk (by omega) (by omega) ht hb lb
end Go.Proofs.YtnlgikaebhiamaaDoor
