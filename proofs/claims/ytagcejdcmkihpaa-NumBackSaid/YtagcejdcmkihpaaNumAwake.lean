/-
  The document's examples hold: 'awake' answers true, whatever the world; what was there stays.
-/
import Derived.Test.YtagcejdcmkihpaaNumPut
import Derived.Test.YtagcejdcmkihpaaNumSame
namespace Go.Proofs.Ytagcejdcmkihpaa
open Go.RowKit Mem

theorem put_gives (A : Option Addr) (n c m : Nat) (bs rs : List Nat) (x : Int) (w : World) (hr : Rd w A n c (cs bs)) (h0 : 0 ≤ x) (h1 : x ≤ 18446744073709551615) (hn : n ≤ 70368744177664)
    (he : bs ++ Num.put x.toNat = rs) (hm : rs.length = m) : Calls Try.prog 10 #[.slice A n c, .int .u64 x] w (Gives w m rs) := by
  refine (put_any A n c bs x w hr h0 h1 hn).mono fun e w' ⟨v, hv, hown, hb⟩ => ?_
  rw [he] at hown
  obtain ⟨A', c', rfl, hr'⟩ := Rd.of_own hown
  subst hm
  exact ⟨A', c', hv, hr', hb⟩

theorem same_tells (A B : Option Addr) (n m c d : Nat) (xs ys : List Nat) (b : Bool) (w : World) (hx : Rd w A n c (cs xs)) (hy : Rd w B m d (cs ys)) (hb : decide (xs = ys) = b) :
    Calls Try.prog 9 #[.slice A n c, .slice B m d] w (Tells b w) := by
  refine (same_any A B n m c d xs ys w hx hy).mono fun e w' ⟨he, q, hq⟩ => ?_
  subst hb
  subst hq
  exact ⟨he, below_drewN (Below.refl _ _) q⟩

theorem p247 : [] ++ Num.put (247 : Int).toNat = [247] := by decide
theorem p248 : [] ++ Num.put (248 : Int).toNat = [248, 248] := by decide
theorem p300 : [] ++ Num.put (300 : Int).toNat = [249, 1, 44] := by decide

set_option maxHeartbeats 1000000 in
theorem awake_true (w : World) : Calls Try.prog 8 #[] w (Tells true w) := by
  go_enter Try.func8, Try.ntmps8
  go_wp2_with fail
  refine (put_gives none 0 0 1 [] [247] 247 w (Rd.nil_ _) (by omega) (by omega) (by omega) p247 rfl).mono ?_
  rintro e w1 ⟨A1, c1, rfl, hr1, hb1⟩
  go_wp2_with fail
  refine (same_tells A1 _ 1 1 c1 1 [247] [247] true _ (hr1.alloc _) (Rd.lit _ [.int .u8 247] _ 1 rfl (by simp [maxLen])) (by decide)).mono ?_
  rintro e w2 ⟨rfl, hb2⟩
  go_wp2_with fail
  refine (put_gives none 0 0 2 [] [248, 248] 248 w2 (Rd.nil_ _) (by omega) (by omega) (by omega) p248 rfl).mono ?_
  rintro e w3 ⟨A3, c3, rfl, hr3, hb3⟩
  go_wp2_with fail
  refine (same_tells A3 _ 2 2 c3 2 [248, 248] [248, 248] true _ (hr3.alloc _) (Rd.lit _ [.int .u8 248, .int .u8 248] _ 2 rfl (by simp [maxLen])) (by decide)).mono ?_
  rintro e w4 ⟨rfl, hb4⟩
  go_wp2_with fail
  refine (put_gives none 0 0 3 [] [249, 1, 44] 300 w4 (Rd.nil_ _) (by omega) (by omega) (by omega) p300 rfl).mono ?_
  rintro e w5 ⟨A5, c5, rfl, hr5, hb5⟩
  go_wp2_with fail
  refine (same_tells A5 _ 3 3 c5 3 [249, 1, 44] [249, 1, 44] true _ (hr5.alloc _) (Rd.lit _ [.int .u8 249, .int .u8 1, .int .u8 44] _ 3 rfl (by simp [maxLen])) (by decide)).mono ?_
  rintro e w6 ⟨rfl, hb6⟩
  go_wp2_with fail
  go_ret
  exact ⟨rfl, bel_trans (bel_alloc (bel_trans (bel_trans (bel_alloc (bel_trans (bel_trans (bel_alloc hb1 _) hb2) hb3) _) hb4) hb5) _) hb6⟩

end Go.Proofs.Ytagcejdcmkihpaa
