/-
  What other layers ask of num and of the document's own answers of layer 1: a number put behind nothing, two slices of bytes held against each other, as contracts that tell 'what was there stays'.
-/
import Derived.Test.YthlhlhihllgfiaaNumPut
import Derived.Test.YthlhlhihllgfiaaNumTake
import Derived.Test.YthlhlhihllgfiaaNumSame
namespace Go.Proofs.Ythlhlhihllgfiaa
open Go.RowKit Mem

/-- num.Put behind any bytes, as a slice that can be read. -/
theorem put_gives (A : Option Addr) (n c m : Nat) (bs rs : List Nat) (x : Int) (w : World) (hr : Rd w A n c (cs bs)) (h0 : 0 ≤ x) (h1 : x ≤ 18446744073709551615) (hn : n ≤ 70368744177664)
    (he : bs ++ Num.put x.toNat = rs) (hm : rs.length = m) : Calls Try.prog 46 #[.slice A n c, .int .u64 x] w (Gives w m rs) := by
  refine (put_any A n c bs x w hr h0 h1 hn).mono fun e w' ⟨v, hv, hown, hb⟩ => ?_
  rw [he] at hown
  obtain ⟨A', c', rfl, hr'⟩ := Rd.of_own hown
  rw [hm] at hv hr'
  exact ⟨A', c', hv, hr', hb⟩

/-- The document's Same. -/
theorem same_tells (A B : Option Addr) (n m c d : Nat) (xs ys : List Nat) (b : Bool) (w : World) (hx : Rd w A n c (cs xs)) (hy : Rd w B m d (cs ys)) (hb : decide (xs = ys) = b) :
    Calls Try.prog 13 #[.slice A n c, .slice B m d] w (Tells b w) := by
  refine (same_any A B n m c d xs ys w hx hy).mono fun e w' ⟨he, q, hq⟩ => ?_
  subst hb
  subst hq
  exact ⟨he, below_drewN (Below.refl _ _) q⟩

end Go.Proofs.Ythlhlhihllgfiaa
