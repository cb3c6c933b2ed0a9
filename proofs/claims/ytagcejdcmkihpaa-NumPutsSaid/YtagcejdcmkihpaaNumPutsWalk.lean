/-
  The walk of the law NumPuts: it answers true, whatever the bytes and the number; what was there stays.
-/
import Derived.Test.YtagcejdcmkihpaaNumRefPut
namespace Go.Proofs.Ytagcejdcmkihpaa
open Go.RowKit Mem

set_option maxHeartbeats 1000000 in
theorem puts_far (A : Option Addr) (n c : Nat) (v : Int) (w : World) (hn : 300 < n) :
    Calls Try.prog 3 #[.slice A n c, .int .u64 v] w (Tells true w) := by
  go_enter Try.func3, Try.ntmps3
  go_wp2_with fail
  refine (awake_true _).mono ?_
  rintro e w4 ⟨rfl, hb4⟩
  go_wp2_with fail
  go_ret
  exact ⟨rfl, hb4⟩

set_option maxHeartbeats 1000000 in
theorem puts_near (A : Option Addr) (n c : Nat) (v : Int) (bs : List Nat) (w : World) (h0 : 0 ≤ v) (h1 : v ≤ 18446744073709551615) (hn : n ≤ 300) (hr : Rd w A n c (cs bs)) :
    Calls Try.prog 3 #[.slice A n c, .int .u64 v] w (Tells true w) := by
  obtain ⟨i0, hi, hz0, hz1, hz2⟩ := info_parts info5
  have hp : ∃ p m, Num.put v.toNat = p ∧ p.length = m := ⟨_, _, rfl, rfl⟩
  obtain ⟨p, m, hp, hm⟩ := hp
  have hsm : Num.size v.toNat = m := by rw [← hm, ← hp, Num.length_put]
  have hm1 : 1 ≤ m := by rw [← hsm]; exact Num.size_pos _
  have hm9 : m ≤ 9 := by rw [← hsm]; exact Num.size_le _ (by omega)
  have hlb : bs.length = n := by have := hr.len; rwa [length_cs] at this
  have HP : Hid (∀ (B : Option Addr) (d : Nat) (W : World), Rd W B n d (cs bs) → Calls Try.prog 10 #[.slice B n d, .int .u64 v] W (Gives W (n + m) (bs ++ p))) := by
    intro B d W hB
    exact put_gives B n d (n + m) bs (bs ++ p) v W hB h0 h1 (by omega) (by rw [hp]) (by rw [List.length_append, hlb, hm])
  have HR := Lib.hid fun W : World => refput_any v W h0 h1 m p hp hm
  have HS : Hid (∀ W : World, Calls Try.prog 12 #[.int .u64 v] W fun e w' => e = .returned (.int .i64 (m : Int)) ∧ W = w') := by
    intro W
    have := size_any v W h0 h1
    rw [hsm] at this
    exact this
  clear hp hm hsm hlb
  have d0 : decide (300 < n) = false := by simp; omega
  go_enter Try.func3, Try.ntmps3
  go_wp2_with (at_builtin; refine wpList_append_rd rfl (.tmp 10) (.tmp 11) 22 rfl w.heap.size 5 i0 _ 1 Try.underlying22 hi hz0 hz1 hz2 rfl _ 0 0 [] rfl (World.ownsRow_made _ _ 0 (Nat.le_refl _) (by simp [maxLen]) (by simp)) A n c (cs bs) rfl (hr.alloc _) (cs_one _) (by unfold maxLen; omega) (by omega) (by simp) ?_; intro V1 c1 w1 hown1 hb1; simp only [Nat.zero_add, List.nil_append] at hown1; have hbw1 : Below w.heap.size w w1 := (bel_alloc (Below.refl _ _) _).trans hb1; clear hb1)
  have hr1 := Rd.own hown1
  clear hown1
  refine (HP.out V1 c1 w1 hr1).mono ?_
  rintro e w2 ⟨A2, c2, rfl, hr2, hb2⟩
  have hbw2 := bel_trans hbw1 hb2
  go_wp2_with (at_builtin; refine wpList_append_rd rfl (.tmp 16) (.tmp 17) 22 rfl w2.heap.size 5 i0 _ 1 Try.underlying22 hi hz0 hz1 hz2 rfl _ 0 0 [] rfl (World.ownsRow_made _ _ 0 (Nat.le_refl _) (by simp [maxLen]) (by simp)) A n c (cs bs) rfl ((hr.below hbw2).alloc _) (cs_one _) (by unfold maxLen; omega) (by omega) (by simp) ?_; intro V3 c3 w3 hown3 hb3; simp only [Nat.zero_add, List.nil_append] at hown3; have hb23 : Below w2.heap.size w2 w3 := (bel_alloc (Below.refl _ _) _).trans hb3; clear hb3)
  refine (HR.out w3).mono ?_
  rintro e w4 ⟨A4, c4, rfl, hr4, hb4⟩
  have hown4 := ownsRow_below hown3 hb4
  have hb24 := bel_trans hb23 hb4
  clear hown3
  go_wp2_with (at_builtin; refine wpList_append_rd rfl (.tmp 18) (.tmp 20) 22 rfl w2.heap.size 5 i0 _ 1 Try.underlying22 hi hz0 hz1 hz2 rfl V3 n c3 (cs bs) rfl hown4 A4 m c4 (cs p) rfl hr4 (cs_one _) (by unfold maxLen; omega) (by omega) hb24.size ?_; intro V5 c5 w5 hown5 hb5; have hb25 : Below w2.heap.size w2 w5 := hb24.trans hb5; clear hb5)
  have hr5 := Rd.own hown5
  rw [← cs_append] at hr5
  have hr25 := hr2.below hb25
  have hbw5 := bel_trans hbw2 hb25
  refine (same_tells A2 V5 (n + m) (n + m) c2 c5 (bs ++ p) (bs ++ p) true _ hr25 hr5 (by simp)).mono ?_
  rintro e w6 ⟨rfl, hb6⟩
  go_wp2_with fail
  refine (HS.out _).mono ?_
  rintro e w6' ⟨rfl, rfl⟩
  go_wp2_with fail
  refine (HR.out w6).mono ?_
  rintro e w7 ⟨A7, c7, rfl, hr7, hb7⟩
  go_wp2_with fail
  have hbw7 := bel_trans (bel_trans hbw5 hb6) hb7
  have hb17 := bel_trans (bel_trans (bel_trans hb2 hb25) hb6) hb7
  refine (same_tells V1 A n n c1 c bs bs true _ (hr1.below hb17) (hr.below hbw7) (by simp)).mono ?_
  rintro e w8 ⟨rfl, hb8⟩
  go_wp2_with fail
  refine (awake_true _).mono ?_
  rintro e w9 ⟨rfl, hb9⟩
  go_wp2_with fail
  go_ret
  exact ⟨rfl, bel_trans (bel_trans hbw7 hb8) hb9⟩

theorem numPuts_walk (A : Option Addr) (n c : Nat) (v : Int) (bs : List Nat) (w : World) (wv : (Lit.int .u64 v).wf = true) (hr : Rd w A n c (cs bs)) :
    Calls Try.prog 3 #[.slice A n c, .int .u64 v] w fun e w' => e = .returned (.bool true) ∧ Below w.heap.size w w' := by
  have h := bounds_u64 wv
  by_cases hn : n ≤ 300
  · exact puts_near A n c v bs w h.1 h.2 hn hr
  · exact puts_far A n c v w (by omega)

end Go.Proofs.Ytagcejdcmkihpaa
