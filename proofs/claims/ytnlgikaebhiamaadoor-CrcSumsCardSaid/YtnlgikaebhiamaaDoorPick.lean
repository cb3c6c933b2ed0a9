/-
  Pick, of the document's answer: a place below n, by any number.
-/
import Derived.Test.YtnlgikaebhiamaaDoorProg
import Derived.Test.YtnlgikaebhiamaaDoorMem
namespace Go.Proofs.YtnlgikaebhiamaaDoor
open Go.RowKit Mem

theorem ret_int {k : IntKind} {a b : Int} (h : a = b) : Ending.returned (.int k a) = .returned (.int k b) := by rw [h]
/-- A place below n, by any number. -/
def pick (k n : Int) : Int := if n < 1 then 0 else if k.tmod n < 0 then k.tmod n + n else k.tmod n

theorem pick_lt (k n : Int) (h : 1 ≤ n) : 0 ≤ pick k n ∧ pick k n < n := by
  unfold pick
  have h1 := Int.tmod_lt_of_pos k (show 0 < n by omega)
  have h2 := Int.lt_tmod_of_pos k (show 0 < n by omega)
  split
  · omega
  · split <;> omega

theorem pick_any (k n : Int) (w : World) (hn1 : 1 ≤ n) (hn2 : n ≤ 65536) :
    Calls Tryd.prog 10 #[.int .i64 k, .int .i64 n] w fun e w' => e = .returned (.int .i64 (pick k n)) ∧ w = w' := by
  have h1 := Int.tmod_lt_of_pos k (show 0 < n by omega)
  have h2 := Int.lt_tmod_of_pos k (show 0 < n by omega)
  have hn0 : ¬ n < 1 := by omega
  by_cases h : k.tmod n < 0
  · have hp : pick k n = k.tmod n + n := by unfold pick; rw [if_neg hn0, if_pos h]
    have HP := Lib.hid hp
    clear hp
    go_enter Tryd.func10, Tryd.ntmps10
    go_wp2
    go_ret
    exact ⟨ret_int (by rw [HP.out]), rfl⟩
  · have hp : pick k n = k.tmod n := by unfold pick; rw [if_neg hn0, if_neg h]
    have HP := Lib.hid hp
    clear hp
    go_enter Tryd.func10, Tryd.ntmps10
    go_wp2
    go_ret
    exact ⟨ret_int (by rw [HP.out]), rfl⟩

end Go.Proofs.YtnlgikaebhiamaaDoor
