/-
  RunesKeys answers true of any two texts.
-/
import Derived.Test.YtlaiofpaahkceaaDoorRunRefBeg
namespace Go.Proofs.YtlaiofpaahkceaaDoor
open Go.RowKit Mem Run

theorem begRet_true' : begRet true = 0 := rfl
theorem begRet_false' : begRet false = 11 := rfl

set_option maxHeartbeats 4000000 in
theorem runeskeys_true (s t : ByteArray) (w : World) (hT : Tab w) : Calls Tryd.prog 3 #[.string s, .string t] w (Tells true w) := by
  have HTT : Hid (∀ W : World, Below w.heap.size w W → Tab W) := Lib.hid fun W h => hT.below h hT.lt
  by_cases h1 : s.size ≤ 1000
  · by_cases h2 : t.size ≤ 1000
    · have b1 : decide ((s.size : Int) > 1000) = false := by simp; omega
      have b2 : decide ((t.size : Int) > 1000) = false := by simp; omega
      have hc := fun W => count_any s W (by omega)
      have hr := fun W => runes_any s (by omega) W
      obtain ⟨n, hn⟩ : ∃ n, (pieces (bts s)).length = n := ⟨_, rfl⟩
      rw [hn] at hc hr
      have hk := key_any s
      have hrk := fun W => refkey_any s (by omega) W
      have hb := begin_any s
      have hrb := fun W => refbegin_any s (by omega) W
      have hp := begins_any s t
      have hrp := refbegins_any s t
      obtain ⟨z, hz⟩ : ∃ z, decide (bts t <+: bts s) = z := ⟨_, rfl⟩
      rw [hz] at hp hrp
      have HC := Lib.hid hc
      have HR := Lib.hid hr
      have HP := Lib.hid hp
      have HRP := Lib.hid hrp
      cases hkk : key (bts s) with
      | true =>
        cases hbb : beg (bts s) with
        | true =>
          rw [hkk, begRet_true'] at hk
          rw [hkk] at hrk
          rw [hbb, begRet_true'] at hb
          rw [hbb] at hrb
          have HK := Lib.hid hk
          have HRK := Lib.hid hrk
          have HB := Lib.hid hb
          have HRB := Lib.hid hrb
          clear hc hr hk hrk hb hrb hp hrp hn hz hkk hbb
          go_enter Tryd.func3, Tryd.ntmps3
          go_wp2_with fail
          refine (HC.out w).mono ?_
          rintro e w1 ⟨rfl, hb1⟩
          go_wp2_with fail
          refine (HR.out w1).mono ?_
          rintro e w2 ⟨A, c, rfl, _, hb2'⟩
          have hb2 := bel_trans hb1 hb2'
          go_wp2_with fail
          refine (HK.out w2).mono ?_
          rintro e w3 ⟨rfl, hb3'⟩
          have hb3 := bel_trans hb2 hb3'
          go_wp2_with fail
          refine (HRK.out w3).mono ?_
          rintro e w4 ⟨rfl, hb4'⟩
          have hb4 := bel_trans hb3 hb4'
          go_wp2_with fail
          refine (HB.out w4).mono ?_
          rintro e w5 ⟨rfl, hb5'⟩
          have hb5 := bel_trans hb4 hb5'
          go_wp2_with fail
          refine (HRB.out w5).mono ?_
          rintro e w6 ⟨rfl, hb6'⟩
          have hb6 := bel_trans hb5 hb6'
          go_wp2_with fail
          refine (HK.out w6).mono ?_
          rintro e w7 ⟨rfl, hb7'⟩
          have hb7 := bel_trans hb6 hb7'
          go_wp2_with fail
          refine (HP.out w7).mono ?_
          rintro e w9 ⟨rfl, rfl⟩
          go_wp2_with fail
          refine (HRP.out w7).mono ?_
          rintro e w9 ⟨rfl, rfl⟩
          go_wp2_with fail
          refine (awake_any w7 (HTT.out w7 hb7)).mono ?_
          rintro e w9 ⟨rfl, hb9⟩
          go_wp2
          go_ret
          exact ⟨rfl, bel_trans hb7 hb9⟩
        | false =>
          simp [key, hbb] at hkk
      | false =>
        cases hbb : beg (bts s) with
        | true =>
          rw [hkk, begRet_false'] at hk
          rw [hkk] at hrk
          rw [hbb, begRet_true'] at hb
          rw [hbb] at hrb
          have HK := Lib.hid hk
          have HRK := Lib.hid hrk
          have HB := Lib.hid hb
          have HRB := Lib.hid hrb
          clear hc hr hk hrk hb hrb hp hrp hn hz hkk hbb
          go_enter Tryd.func3, Tryd.ntmps3
          go_wp2_with fail
          refine (HC.out w).mono ?_
          rintro e w1 ⟨rfl, hb1⟩
          go_wp2_with fail
          refine (HR.out w1).mono ?_
          rintro e w2 ⟨A, c, rfl, _, hb2'⟩
          have hb2 := bel_trans hb1 hb2'
          go_wp2_with fail
          refine (HK.out w2).mono ?_
          rintro e w3 ⟨rfl, hb3'⟩
          have hb3 := bel_trans hb2 hb3'
          go_wp2_with fail
          refine (HRK.out w3).mono ?_
          rintro e w4 ⟨rfl, hb4'⟩
          have hb4 := bel_trans hb3 hb4'
          go_wp2_with fail
          refine (HB.out w4).mono ?_
          rintro e w5 ⟨rfl, hb5'⟩
          have hb5 := bel_trans hb4 hb5'
          go_wp2_with fail
          refine (HRB.out w5).mono ?_
          rintro e w6 ⟨rfl, hb6'⟩
          have hb6 := bel_trans hb5 hb6'
          go_wp2_with fail
          refine (HK.out w6).mono ?_
          rintro e w7 ⟨rfl, hb7'⟩
          have hb7 := bel_trans hb6 hb7'
          go_wp2_with fail
          refine (HK.out w7).mono ?_
          rintro e w8 ⟨rfl, hb8'⟩
          have hb8 := bel_trans hb7 hb8'
          go_wp2_with fail
          refine (HP.out w8).mono ?_
          rintro e w9 ⟨rfl, rfl⟩
          go_wp2_with fail
          refine (HRP.out w8).mono ?_
          rintro e w9 ⟨rfl, rfl⟩
          go_wp2_with fail
          refine (awake_any w8 (HTT.out w8 hb8)).mono ?_
          rintro e w9 ⟨rfl, hb9⟩
          go_wp2
          go_ret
          exact ⟨rfl, bel_trans hb8 hb9⟩
        | false =>
          rw [hkk, begRet_false'] at hk
          rw [hkk] at hrk
          rw [hbb, begRet_false'] at hb
          rw [hbb] at hrb
          have HK := Lib.hid hk
          have HRK := Lib.hid hrk
          have HB := Lib.hid hb
          have HRB := Lib.hid hrb
          clear hc hr hk hrk hb hrb hp hrp hn hz hkk hbb
          go_enter Tryd.func3, Tryd.ntmps3
          go_wp2_with fail
          refine (HC.out w).mono ?_
          rintro e w1 ⟨rfl, hb1⟩
          go_wp2_with fail
          refine (HR.out w1).mono ?_
          rintro e w2 ⟨A, c, rfl, _, hb2'⟩
          have hb2 := bel_trans hb1 hb2'
          go_wp2_with fail
          refine (HK.out w2).mono ?_
          rintro e w3 ⟨rfl, hb3'⟩
          have hb3 := bel_trans hb2 hb3'
          go_wp2_with fail
          refine (HRK.out w3).mono ?_
          rintro e w4 ⟨rfl, hb4'⟩
          have hb4 := bel_trans hb3 hb4'
          go_wp2_with fail
          refine (HB.out w4).mono ?_
          rintro e w5 ⟨rfl, hb5'⟩
          have hb5 := bel_trans hb4 hb5'
          go_wp2_with fail
          refine (HRB.out w5).mono ?_
          rintro e w6 ⟨rfl, hb6'⟩
          have hb6 := bel_trans hb5 hb6'
          go_wp2_with fail
          refine (HK.out w6).mono ?_
          rintro e w7 ⟨rfl, hb7'⟩
          have hb7 := bel_trans hb6 hb7'
          go_wp2_with fail
          refine (HK.out w7).mono ?_
          rintro e w8 ⟨rfl, hb8'⟩
          have hb8 := bel_trans hb7 hb8'
          go_wp2_with fail
          refine (HP.out w8).mono ?_
          rintro e w9 ⟨rfl, rfl⟩
          go_wp2_with fail
          refine (HRP.out w8).mono ?_
          rintro e w9 ⟨rfl, rfl⟩
          go_wp2_with fail
          refine (awake_any w8 (HTT.out w8 hb8)).mono ?_
          rintro e w9 ⟨rfl, hb9⟩
          go_wp2
          go_ret
          exact ⟨rfl, bel_trans hb8 hb9⟩
    · have b1 : decide ((s.size : Int) > 1000) = false := by simp; omega
      have b2 : decide ((t.size : Int) > 1000) = true := by simp; omega
      go_enter Tryd.func3, Tryd.ntmps3
      go_wp2_with fail
      refine (awake_any w hT).mono ?_
      rintro e w3 ⟨rfl, hb3⟩
      go_wp2
      go_ret
      exact ⟨rfl, hb3⟩
  · have b1 : decide ((s.size : Int) > 1000) = true := by simp; omega
    go_enter Tryd.func3, Tryd.ntmps3
    go_wp2_with fail
    refine (awake_any w hT).mono ?_
    rintro e w3 ⟨rfl, hb3⟩
    go_wp2
    go_ret
    exact ⟨rfl, hb3⟩
end Go.Proofs.YtlaiofpaahkceaaDoor
