/-
  The walk of the law NumBack: it answers true, whatever the number, the bytes behind it and the cut; what was there stays.
-/
import Derived.Test.YtagcejdcmkihpaaNumAwake
import Derived.Test.YtagcejdcmkihpaaNumTake
namespace Go.Proofs.Ytagcejdcmkihpaa
open Go.RowKit Mem

/-- The ending of Take, its three numbers written out. -/
def Tk (a n e0 : Int) (w : World) (e : Ending) (w' : World) : Prop := e = .returned (.tuple #[.int .u64 a, .int .i64 n, .int .i64 e0]) ∧ w = w'

theorem take_tk (A : Option Addr) (n c : Nat) (bs : List Nat) (w : World) (x y z : Int) (hr : Rd w A n c (cs bs)) (hlt : ∀ x ∈ bs, x < 256)
    (h : Num.take bs = (x.toNat, y.toNat, z.toNat)) (hx : 0 ≤ x) (hy : 0 ≤ y) (hz : 0 ≤ z) : Calls Try.prog 13 #[.slice A n c] w (Tk x y z w) := by
  refine (take_any A n c bs w hr hlt).mono fun e w' ⟨he, hw⟩ => ?_
  rw [h] at he
  simp only [Int.toNat_of_nonneg hx, Int.toNat_of_nonneg hy, Int.toNat_of_nonneg hz] at he
  exact ⟨he, hw⟩

set_option maxHeartbeats 1000000 in
theorem back_far (v : Int) (A : Option Addr) (n c : Nat) (k : Int) (w : World) (hn : 300 < n) :
    Calls Try.prog 5 #[.int .u64 v, .slice A n c, .int .i64 k] w (Tells true w) := by
  go_enter Try.func5, Try.ntmps5
  go_wp2_with fail
  refine (awake_true _).mono ?_
  rintro e w4 ⟨rfl, hb4⟩
  go_wp2_with fail
  go_ret
  exact ⟨rfl, hb4⟩

set_option maxHeartbeats 1000000 in
theorem back_near (v : Int) (A : Option Addr) (n c : Nat) (k : Int) (rest : List Nat) (w : World) (h0 : 0 ≤ v) (h1 : v ≤ 18446744073709551615) (hn : n ≤ 300) (hr : Rd w A n c (cs rest)) (hlt : ∀ b ∈ rest, b < 256) :
    Calls Try.prog 5 #[.int .u64 v, .slice A n c, .int .i64 k] w (Tells true w) := by
  obtain ⟨i0, hi, hz0, hz1, hz2⟩ := info_parts info5
  have hp : ∃ p m, [] ++ Num.put v.toNat = p ∧ p.length = m := ⟨_, _, rfl, rfl⟩
  obtain ⟨p, m, hp, hm⟩ := hp
  have HP := Lib.hid (put_gives none 0 0 m [] p v w (Rd.nil_ _) h0 h1 (by omega) hp hm)
  have hp' : Num.put v.toNat = p := by simpa using hp
  have hsm : Num.size v.toNat = m := by rw [← hm, ← hp', Num.length_put]
  have hm1 : 1 ≤ m := by rw [← hsm]; exact Num.size_pos _
  have hm9 : m ≤ 9 := by rw [← hsm]; exact Num.size_le _ (by omega)
  have hplt : ∀ b ∈ p, b < 256 := by rw [← hp']; exact Num.put_lt _ (by omega)
  have HT1 : Hid (Num.take (p ++ rest) = (v.toNat, (m : Int).toNat, (0 : Int).toNat)) := by
    show Num.take (p ++ rest) = _
    rw [← hp', Num.take_put _ (by omega), hsm, Int.toNat_natCast]; rfl
  have hpk := pick_lt k m (by omega)
  have HT2 : Hid (Num.take (p.take (pick k m).toNat) = ((0 : Int).toNat, (0 : Int).toNat, (2 : Int).toNat)) := by
    show Num.take (p.take _) = _
    rw [← hp', Num.take_cut _ (by omega) _ (by rw [hsm]; omega)]; rfl
  have HS : Hid (∀ W : World, Calls Try.prog 12 #[.int .u64 v] W fun e w' => e = .returned (.int .i64 (m : Int)) ∧ W = w') := by
    intro W
    have := size_any v W h0 h1
    rw [hsm] at this
    exact this
  have HPL := Lib.hid hplt
  have HRL := Lib.hid hlt
  have HPK := Lib.hid (pick_any k m)
  clear hp hp' hsm hplt hlt hm
  have d0 : decide (300 < n) = false := by simp; omega
  go_enter Try.func5, Try.ntmps5
  go_wp2_with fail
  refine HP.out.mono ?_
  rintro e w1 ⟨A1, c1, rfl, hr1, hb1⟩
  have hcm1 := hr1.le
  go_wp2_with (first
    | (at_builtin; refine wpList_append_rd rfl (.tmp 21) (.tmp 22) 22 rfl w1.heap.size 5 i0 _ 1 Try.underlying22 hi hz0 hz1 hz2 rfl _ 0 0 [] rfl (World.ownsRow_made _ _ 0 (Nat.le_refl _) (by simp [maxLen]) (by simp)) A1 m c1 (cs p) rfl (hr1.alloc _) (cs_one _) (by unfold maxLen; omega) (by omega) (by simp) ?_; intro V2 c2 w2 hown2 hb2; simp only [Nat.zero_add, List.nil_append] at hown2; have hb12 : Below w1.heap.size w1 w2 := (bel_alloc (Below.refl _ _) _).trans hb2; clear hb2)
    | (at_builtin; refine wpList_append_rd rfl (.tmp 23) (.tmp 24) 22 rfl w1.heap.size 5 i0 _ 1 Try.underlying22 hi hz0 hz1 hz2 rfl V2 m c2 (cs p) rfl hown2 A n c (cs rest) rfl ((hr.below hb1).below hb12) (cs_one _) (by unfold maxLen; omega) (by omega) hb12.size ?_; intro V3 c3 w3 hown3 hb3; have hb13 : Below w1.heap.size w1 w3 := hb12.trans hb3; clear hb3)
    | fail)
  have hr3 := Rd.own hown3
  rw [← cs_append] at hr3
  refine (take_tk V3 (m + n) c3 (p ++ rest) _ v m 0 hr3 (fun x hx => (List.mem_append.1 hx).elim (HPL.out x) (HRL.out x)) HT1.out h0 (by omega) (by omega)).mono ?_
  rintro e w4 ⟨rfl, rfl⟩
  go_wp2_with fail
  refine (HPK.out _ (by omega) (by omega)).mono ?_
  rintro e w4 ⟨rfl, rfl⟩
  obtain ⟨hq0, hq1⟩ := hpk
  have hq2 : pick k m ≤ (c1 : Int) := by omega
  go_wp2_with fail
  have hr4 := (hr1.below hb13).take (k := (pick k m).toNat) (by omega)
  rw [cs_take] at hr4
  refine (take_tk A1 (pick k m).toNat c1 (p.take (pick k m).toNat) _ 0 0 2 hr4 (fun x hx => HPL.out x (List.mem_of_mem_take hx)) HT2.out (by omega) (by omega) (by omega)).mono ?_
  rintro e w4 ⟨rfl, rfl⟩
  go_wp2_with fail
  refine (HS.out _).mono ?_
  rintro e w4 ⟨rfl, rfl⟩
  go_wp2_with fail
  refine (awake_true _).mono ?_
  rintro e w4 ⟨rfl, hb4⟩
  go_wp2_with fail
  go_ret
  exact ⟨rfl, bel_trans (bel_trans hb1 hb13) hb4⟩

theorem numBack_walk (v : Int) (A : Option Addr) (n c : Nat) (k : Int) (rest : List Nat) (w : World) (wv : (Lit.int .u64 v).wf = true) (hr : Rd w A n c (cs rest)) (hlt : ∀ b ∈ rest, b < 256) :
    Calls Try.prog 5 #[.int .u64 v, .slice A n c, .int .i64 k] w fun e w' => e = .returned (.bool true) ∧ Below w.heap.size w w' := by
  have h := bounds_u64 wv
  by_cases hn : n ≤ 300
  · exact back_near v A n c k rest w h.1 h.2 hn hr hlt
  · exact back_far v A n c k w (by omega)

end Go.Proofs.Ytagcejdcmkihpaa
