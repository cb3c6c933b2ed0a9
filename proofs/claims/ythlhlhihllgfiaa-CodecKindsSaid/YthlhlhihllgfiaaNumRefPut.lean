/-
  The document's own digits and Put, of any uint64, answer new memory that holds the number's digits, and its form ('Num.put'); what was there stays.
-/
import Derived.Test.YthlhlhihllgfiaaNumCalls
namespace Go.Proofs.Ythlhlhihllgfiaa
open Go.RowKit Mem

/-- The ending: a slice of n bytes of the call's own. -/
def OwnS (w : World) (n : Nat) (bs : List Nat) (e : Ending) (w' : World) : Prop :=
  ∃ V c, e = .returned (.slice V n c) ∧ w'.ownsRow w.heap.size 5 1 (.slice V n c) n (cs bs) ∧ Below w.heap.size w w'

theorem digits_le (v : Nat) : ∀ k, v < 256 ^ (k + 1) → (Num.digits v).length ≤ k + 1 := by
  intro k
  induction k generalizing v with
  | zero => intro h; rw [Num.digits, if_pos (by simpa using h)]; simp
  | succ k ih =>
    intro h
    rw [Num.digits]
    split
    · simp
    · have := ih (v / 256) (by rw [Nat.pow_succ] at h; omega)
      simp; omega

theorem digits_small (x : Int) (w : World) (h0 : 0 ≤ x) (h1 : x < 256) : Calls Try.prog 47 #[.int .u64 x] w (OwnS w 1 [x.toNat]) := by
  go_enter Try.func47, Try.ntmps47
  go_wp2
  go_ret
  have e : cs [x.toNat] = [.int .u8 x] := by simp [cs, Int.toNat_of_nonneg h0]
  exact ⟨_, 1, rfl, by rw [e]; exact World.ownsRow_lit _ _ 1 (Nat.le_refl _) (by simp [maxLen]) rfl, bel_alloc (Below.refl _ _) _⟩

set_option maxHeartbeats 1000000 in
theorem digits_step (x : Int) (n : Nat) (ds : List Nat) (w : World) (h0 : 256 ≤ x) (h1 : x ≤ 18446744073709551615) (hn : n ≤ 8)
    (ih : Calls Try.prog 47 #[.int .u64 (x / 256)] w (OwnS w n ds)) :
    Calls Try.prog 47 #[.int .u64 x] w (OwnS w (n + 1) (ds ++ [(x % 256).toNat])) := by
  obtain ⟨i0, hi, hz0, hz1, hz2⟩ := info_parts info5
  have IH := Lib.hid ih
  clear ih
  go_enter Try.func47, Try.ntmps47
  go_wp2_with fail
  refine IH.out.mono ?_
  rintro e w1 ⟨V1, c1, rfl, hown1, hb1⟩
  go_wp2_with (at_builtin; refine wpList_append_rd rfl (.tmp 10) (.tmp 14) 28 rfl w.heap.size 5 i0 _ 1 Try.underlying28 hi hz0 hz1 hz2 rfl V1 n c1 (cs ds) rfl (hown1.alloc _) _ 1 1 [_] rfl (Rd.one _ _ _) (by intro u hu; simp at hu; subst hu; rfl) (by unfold maxLen; omega) (by omega) (bel_alloc hb1 _).size ?_; intro V2 c2 w2 hown2 hb2)
  go_ret
  refine ⟨V2, c2, rfl, ?_, (bel_alloc hb1 _).trans hb2⟩
  have e : cs (ds ++ [(x % 256).toNat]) = cs ds ++ [.int .u8 (x % 256)] := by
    rw [cs_append]; simp [cs]; omega
  rw [e]
  exact hown2

theorem digits_cut (x : Int) (h : 256 ≤ x) : Num.digits x.toNat = Num.digits (x / 256).toNat ++ [(x % 256).toNat] := by
  rw [Num.digits, if_neg (by omega), show (x / 256).toNat = x.toNat / 256 from by omega, show (x % 256).toNat = x.toNat % 256 from by omega]

theorem pow_cut (v k : Nat) (h : v < 256 ^ (k + 1 + 1)) : v / 256 < 256 ^ (k + 1) := by
  rw [Nat.pow_succ] at h
  generalize 256 ^ (k + 1) = y at *
  omega

theorem digits_any (k : Nat) : ∀ (x : Int) (w : World), 0 ≤ x → x ≤ 18446744073709551615 → k ≤ 7 → x.toNat < 256 ^ (k + 1) →
    Calls Try.prog 47 #[.int .u64 x] w (OwnS w (Num.digits x.toNat).length (Num.digits x.toNat)) := by
  induction k with
  | zero =>
    intro x w h0 h1 _ hx
    have h : x.toNat < 256 := by simpa using hx
    have e : Num.digits x.toNat = [x.toNat] := by rw [Num.digits, if_pos h]
    rw [e]
    exact digits_small x w h0 (by omega)
  | succ k ih =>
    intro x w h0 h1 hk hx
    by_cases h : x < 256
    · have e : Num.digits x.toNat = [x.toNat] := by rw [Num.digits, if_pos (by omega)]
      rw [e]
      exact digits_small x w h0 h
    · have hx2 : (x / 256).toNat < 256 ^ (k + 1) := by
        rw [show (x / 256).toNat = x.toNat / 256 from by omega]; exact pow_cut _ _ hx
      have ih' := ih (x / 256) w (by omega) (by omega) (by omega) hx2
      have hl := digits_le (x / 256).toNat k hx2
      rw [digits_cut x (by omega), List.length_append]
      exact digits_step x _ _ w (by omega) h1 (by omega) ih'

theorem refput_small (x : Int) (w : World) (h0 : 0 ≤ x) (h1 : x < 248) : Calls Try.prog 40 #[.int .u64 x] w (Gives w 1 [x.toNat]) := by
  go_enter Try.func40, Try.ntmps40
  go_wp2
  go_ret
  have e : cs [x.toNat] = [.int .u8 x] := by simp [cs, Int.toNat_of_nonneg h0]
  exact ⟨_, 1, rfl, by rw [e]; exact Rd.one _ _ _, bel_alloc (Below.refl _ _) _⟩

set_option maxHeartbeats 1000000 in
theorem refput_big (x : Int) (n : Nat) (ds : List Nat) (w : World) (h0 : 248 ≤ x) (hn1 : 1 ≤ n) (hn : n ≤ 8)
    (hd : Calls Try.prog 47 #[.int .u64 x] w (OwnS w n ds)) : Calls Try.prog 40 #[.int .u64 x] w (Gives w (n + 1) ((247 + n) :: ds)) := by
  obtain ⟨i0, hi, hz0, hz1, hz2⟩ := info_parts info5
  have IH := Lib.hid hd
  clear hd
  go_enter Try.func40, Try.ntmps40
  go_wp2_with fail
  refine IH.out.mono ?_
  rintro e w1 ⟨V1, c1, rfl, hown1, hb1⟩
  go_wp2_with (at_builtin; refine wpList_append_rd rfl (.tmp 15) (.tmp 16) 28 rfl w.heap.size 5 i0 _ 1 Try.underlying28 hi hz0 hz1 hz2 rfl _ 1 1 _ rfl (World.ownsRow_lit _ _ 1 hb1.size (by simp [maxLen]) rfl) V1 n c1 (cs ds) rfl ((Rd.own hown1).alloc _) (cs_one _) (by unfold maxLen; omega) (by omega) (bel_alloc hb1 _).size ?_; intro V2 c2 w2 hown2 hb2)
  go_ret
  refine ⟨V2, c2, by rw [Nat.add_comm n 1]; rfl, ?_, (bel_alloc hb1 _).trans hb2⟩
  have := Rd.own hown2
  rw [Nat.add_comm 1 n] at this
  simpa [cs] using this

theorem refput_any (x : Int) (w : World) (h0 : 0 ≤ x) (h1 : x ≤ 18446744073709551615) (m : Nat) (p : List Nat) (hp : Num.put x.toNat = p) (hm : p.length = m) :
    Calls Try.prog 40 #[.int .u64 x] w (Gives w m p) := by
  subst hm
  subst hp
  by_cases h : x < 248
  · have e : Num.put x.toNat = [x.toNat] := by unfold Num.put; rw [if_pos (by omega)]
    rw [e]
    exact refput_small x w h0 h
  · have hd := digits_any 7 x w h0 h1 (by omega) (by omega)
    have h2 := Num.nby_le x.toNat (by omega)
    have h3 := Num.nby_pos x.toNat (by omega) (by omega)
    rw [Num.digits_eq _ (by omega) (by omega), Num.length_beTo] at hd
    have e : Num.put x.toNat = (247 + Num.nby x.toNat) :: Num.beTo (Num.nby x.toNat) x.toNat (Num.nby x.toNat) := by unfold Num.put; rw [if_neg (by omega)]
    rw [e, List.length_cons, Num.length_beTo]
    exact refput_big x _ _ w (by omega) h3 h2 hd

end Go.Proofs.Ythlhlhihllgfiaa
