/-
  num.Size of any uint64 is the size of its form ('Num.size'); the world stays as it was. Pick, of the document's answer, gives a place below n.
-/
import Derived.Test.YthlhlhihllgfiaaShelf
import Derived.Test.YthlhlhihllgfiaaNumPlain
import Derived.Test.YthlhlhihllgfiaaMem
namespace Go.Proofs.Ythlhlhihllgfiaa
open Go.RowKit

theorem ret_int {k : IntKind} {a b : Int} (h : a = b) : Ending.returned (.int k a) = .returned (.int k b) := by rw [h]

set_option maxHeartbeats 400000 in
theorem size_any (x : Int) (w : World) (h0 : 0 ≤ x) (h1 : x ≤ 18446744073709551615) :
    Calls Try.prog 38 #[.int .u64 x] w fun e w' => e = .returned (.int .i64 (Num.size x.toNat)) ∧ w = w' := by
  have hb := Lib.bitLen_le x.toNat 64 (by omega) (by omega)
  by_cases hx : x < 248
  · have hn : Num.size x.toNat = 1 := by unfold Num.size; rw [if_pos (by omega)]
    have H := Lib.hid hn
    clear hn
    go_enter Try.func38, Try.ntmps38
    go_wp2
    go_ret
    exact ⟨ret_int (by rw [H.out]; rfl), rfl⟩
  · have hn : (Num.size x.toNat : Int) = 1 + ((Lib.bitLen x.toNat : Int) + 7) / 8 := by unfold Num.size Num.nby; rw [if_neg (by omega)]; omega
    have H := Lib.hid hn
    clear hn
    go_enter Try.func38, Try.ntmps38
    go_wp2_with (go_at_call 45; refine (Try.bits_Len64 _ _ h0 h1).mono ?_; rintro e w' ⟨rfl, rfl⟩)
    go_ret
    exact ⟨ret_int (by rw [H.out]), rfl⟩

/-- A place below n, by any number. -/
def pick (k n : Int) : Int := if n < 1 then 0 else if k.tmod n < 0 then k.tmod n + n else k.tmod n

theorem pick_lt (k n : Int) (h : 1 ≤ n) : 0 ≤ pick k n ∧ pick k n < n := by
  unfold pick
  have h1 := Int.tmod_lt_of_pos k (show 0 < n by omega)
  have h2 := Int.lt_tmod_of_pos k (show 0 < n by omega)
  split
  · omega
  · split <;> omega

end Go.Proofs.Ythlhlhihllgfiaa
