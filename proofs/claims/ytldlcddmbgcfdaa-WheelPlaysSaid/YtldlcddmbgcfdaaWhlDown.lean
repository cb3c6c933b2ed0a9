/-
  Texts of earlier layers, as one.
-/
import Derived.Test.YtldlcddmbgcfdaaWhlUp
/- container/heap's down over the program's timers. -/
namespace Go.Proofs.Ytldlcddmbgcfdaa.Wh
open Go.RowKit Mem Dsk

def DnRel (w0 : World) (S : Nat → Prop) (p c b : Nat) (A : Option Addr) (h0 : List Tm) (n i0 : Nat) (v : Value) (w : World) : Prop := ∃ (i : Nat) (h : List Tm), v = .int .i64 (i : Int) ∧ i0 ≤ i ∧ i < n ∧ DnI n (G h) i i0 ∧ In w0 S p c b A h0 n w h
/-- What down answers. -/
def DnPost (w : World) (S : Nat → Prop) (p c b : Nat) (A : Option Addr) (h : List Tm) (n i0 : Nat) (e : Ending) (w' : World) : Prop := ∃ r h', e = .returned (.bool r) ∧ In w S p c b A h n w' h' ∧ (r = true → Hp n (G h')) ∧ (r = false → UpI n (G h') i0)
set_option maxRecDepth 20000 in
set_option maxHeartbeats 8000000 in
theorem down_any (hsw : SwapIs) {S : Nat → Prop} {p c b n i0 : Nat} {A : Option Addr} {D : DataW Value} {h : List Tm} (w : World) (ho : Own w S p A c b D h) (hj : i0 < n) (hn : n ≤ h.length) (hl : h.length ≤ 1000000) (hu : DnI n (G h) i0 i0) :
    Calls Try.prog 25 #[ifc p, .int .i64 (i0 : Int), .int .i64 (n : Int)] w (DnPost w S p c b A h n i0) := by
  have HS := Lib.hid hsw
  have HN := Lib.hid (And.intro hn hl)
  have HI := Lib.hid (show DnRel w S p c b A h n i0 (.int .i64 (i0 : Int)) w from ⟨i0, h, rfl, Nat.le_refl _, hj, hu, ⟨D, ho⟩, Mv.refl n h, Keeps.refl S w⟩)
  have m1 := meth_less p
  have m2 := meth_swap p
  clear hsw ho hj hn hl hu
  unfold ifc
  obtain ⟨P, hP⟩ : ∃ P, ptr p = P := ⟨_, rfl⟩
  rw [hP] at m1 m2 ⊢
  have HP := Lib.hid hP
  clear hP
  go_enter Try.func25, Try.ntmps25
  go_wp2_with fail
  go_loopw [7] (DnRel w S p c b A h n i0) (fun v _ => n - (intOf v).toNat)
  case atStart => exact HI.out
  case round =>
    obtain ⟨i, h', rfl, hi0, hi, hd, hin⟩ := hrel
    clear HI
    have hln : h'.length = h.length := hin.2.1.1
    have hb1 := HN.out
    have hw1 : IntKind.i64.wrap (2 * (i : Int)) = 2 * (i : Int) := wr64 (by omega) (by omega)
    have hw2 : IntKind.i64.wrap (2 * (i : Int) + 1) = 2 * (i : Int) + 1 := wr64 (by omega) (by omega)
    have hw3 : IntKind.i64.wrap (2 * (i : Int) + 1 + 1) = 2 * (i : Int) + 2 := by rw [show 2 * (i : Int) + 1 + 1 = 2 * (i : Int) + 2 by omega]; exact wr64 (by omega) (by omega)
    have HD := Lib.hid hd
    have HIN := Lib.hid hin
    obtain ⟨D', ho⟩ := hin.1
    by_cases hj1 : 2 * i + 1 < n
    · have e1 : decide ((n : Int) ≤ 2 * (i : Int) + 1) = false := decide_eq_false (by omega)
      have e1' : ¬ (n : Int) ≤ 2 * (i : Int) + 1 := by omega
      have e0 : decide (2 * (i : Int) + 1 < 0) = false := decide_eq_false (by omega)
      have e0' : ¬ 2 * (i : Int) + 1 < 0 := by omega
      by_cases hj2 : 2 * i + 2 < n
      · have e2 : decide (2 * (i : Int) + 2 < (n : Int)) = true := decide_eq_true (by omega)
        have e2' : 2 * (i : Int) + 2 < (n : Int) := by omega
        have hls := tless_any (i := 2 * i + 2) (j := 2 * i + 1) wr ho (by omega) (by omega) (by omega)
        rw [HP.out] at hls
        rw [show (((2 * i + 2 : Nat)) : Int) = 2 * (i : Int) + 2 by omega, show (((2 * i + 1 : Nat)) : Int) = 2 * (i : Int) + 1 by omega] at hls
        obtain ⟨s, hs⟩ : ∃ s, tlt (G h' (2 * i + 2)) (G h' (2 * i + 1)) = s := ⟨_, rfl⟩
        rw [hs] at hls
        have HLS := Lib.hid hls
        have HB := Lib.hid (And.intro hb1 (And.intro hln (And.intro hi0 (And.intro hi (And.intro hj1 (And.intro hj2 hs))))))
        clear hb1 hln hi0 hi hj1 hj2 hs hls ho hin hd
        go_wp2_with fail
        refine HLS.out.mono ?_
        rintro e w2 ⟨rfl, hb2⟩
        have HIN2 := Lib.hid (HIN.out.less hb2)
        clear hb2 HLS
        cases s with
        | true =>
          have HMIN := Lib.hid (show ∀ k, 0 < k → k < n → (k - 1) / 2 = i → le (G h' (2 * i + 2)) (G h' k) from fun k k0 kn hk => by
            have h1 := HB.out.2.2.2.2.2.2
            rcases (show k = 2 * i + 1 ∨ k = 2 * i + 2 by omega) with rfl | rfl
            · exact le_of h1
            · exact le_refl _)
          have hc : (((2 * i + 2 : Nat)) : Int) = 2 * (i : Int) + 2 := by omega
          have HC := Lib.hid hc
          clear hc
          have hb0 := HB.out
          obtain ⟨D3, ho3⟩ := HIN2.out.1
          have hls := tless_any (i := (2 * i + 2)) (j := i) w2 ho3 (by omega) (by omega) (by omega)
          rw [HP.out, HC.out] at hls
          obtain ⟨t, ht⟩ : ∃ t, tlt (G h' (2 * i + 2)) (G h' i) = t := ⟨_, rfl⟩
          rw [ht] at hls
          have HT := Lib.hid ht
          have HLS := Lib.hid hls
          clear ht hls ho3 hb0
          go_wp2_with fail
          refine HLS.out.mono ?_
          rintro e w4 ⟨rfl, hb4⟩
          have HIN4 := Lib.hid (HIN2.out.less hb4)
          clear hb4 HLS
          cases t with
          | false =>
            have hsm : ∀ k, 0 < k → k < n → (k - 1) / 2 = i → le (G h' i) (G h' k) := fun k k0 kn hk => le_trans HT.out (HMIN.out k k0 kn hk)
            have HSM := Lib.hid hsm
            clear hsm
            by_cases hii : i = i0
            · have hg : decide ((i0 : Int) < (i : Int)) = false := decide_eq_false (by omega)
              have hg2 : ¬ (i0 : Int) < (i : Int) := by omega
              have HII := Lib.hid hii
              clear hii
              go_wp2_with fail
              go_ret
              refine ⟨_, h', rfl, HIN4.out, fun e => ?_, fun _ => ?_⟩
              · first | exact absurd (of_decide_eq_true e) (by have := HII.out; omega) | cases e
              · rw [← HII.out]
                have hd := HD.out
                rw [← HII.out] at hd
                exact dn_top hd HSM.out
            · have hg : decide ((i0 : Int) < (i : Int)) = true := decide_eq_true (by have := HB.out; omega)
              have hg2 : (i0 : Int) < (i : Int) := by have := HB.out; omega
              have HII := Lib.hid hii
              clear hii
              go_wp2_with fail
              go_ret
              refine ⟨_, h', rfl, HIN4.out, fun _ => dn_end HD.out HII.out HSM.out, fun e => ?_⟩
              first | exact absurd (of_decide_eq_false e) (by have := HII.out; have := HB.out; omega) | cases e
          | true =>
            obtain ⟨D4, ho4⟩ := HIN4.out.1
            have hss := HS.out S p c b A D4 h' i (2 * i + 2) w4 ho4 (by have := HB.out; omega) (by have := HB.out; omega) (by have := HB.out; omega) (by have := HB.out; omega)
            rw [HP.out, HC.out] at hss
            have HSS := Lib.hid hss
            clear hss ho4
            go_wp2_with fail
            refine HSS.out.mono ?_
            rintro e w5 ⟨rfl, ⟨D5, ho5⟩, hk5⟩
            have HIN5 := Lib.hid (HIN4.out.swap (n := n) (by have := HB.out; omega) (by have := HB.out; omega) (by have := HB.out; omega) ho5 hk5)
            clear ho5 hk5 HSS
            go_wp2_with fail
            go_roundw
            case rel =>
              refine ⟨(2 * i + 2), swl h' i (2 * i + 2), by first | rfl | (simp; done) | (congr 1; omega), by have := HB.out; omega, by have := HB.out; omega, ?_, HIN5.out⟩
              rw [G_swl (by have := HB.out; omega) (by have := HB.out; omega)]
              exact dn_step HD.out (by have := HB.out; omega) (by omega) (by have := HB.out; omega) (by omega) HMIN.out HT.out
            case measure =>
              have := HB.out
              simp [intOf]
              omega
        | false =>
          have HMIN := Lib.hid (show ∀ k, 0 < k → k < n → (k - 1) / 2 = i → le (G h' (2 * i + 1)) (G h' k) from fun k k0 kn hk => by
            have h1 := HB.out.2.2.2.2.2.2
            rcases (show k = 2 * i + 1 ∨ k = 2 * i + 2 by omega) with rfl | rfl
            · exact le_refl _
            · exact h1)
          have hc : (((2 * i + 1 : Nat)) : Int) = 2 * (i : Int) + 1 := by omega
          have HC := Lib.hid hc
          clear hc
          have hb0 := HB.out
          obtain ⟨D3, ho3⟩ := HIN2.out.1
          have hls := tless_any (i := (2 * i + 1)) (j := i) w2 ho3 (by omega) (by omega) (by omega)
          rw [HP.out, HC.out] at hls
          obtain ⟨t, ht⟩ : ∃ t, tlt (G h' (2 * i + 1)) (G h' i) = t := ⟨_, rfl⟩
          rw [ht] at hls
          have HT := Lib.hid ht
          have HLS := Lib.hid hls
          clear ht hls ho3 hb0
          go_wp2_with fail
          refine HLS.out.mono ?_
          rintro e w4 ⟨rfl, hb4⟩
          have HIN4 := Lib.hid (HIN2.out.less hb4)
          clear hb4 HLS
          cases t with
          | false =>
            have hsm : ∀ k, 0 < k → k < n → (k - 1) / 2 = i → le (G h' i) (G h' k) := fun k k0 kn hk => le_trans HT.out (HMIN.out k k0 kn hk)
            have HSM := Lib.hid hsm
            clear hsm
            by_cases hii : i = i0
            · have hg : decide ((i0 : Int) < (i : Int)) = false := decide_eq_false (by omega)
              have hg2 : ¬ (i0 : Int) < (i : Int) := by omega
              have HII := Lib.hid hii
              clear hii
              go_wp2_with fail
              go_ret
              refine ⟨_, h', rfl, HIN4.out, fun e => ?_, fun _ => ?_⟩
              · first | exact absurd (of_decide_eq_true e) (by have := HII.out; omega) | cases e
              · rw [← HII.out]
                have hd := HD.out
                rw [← HII.out] at hd
                exact dn_top hd HSM.out
            · have hg : decide ((i0 : Int) < (i : Int)) = true := decide_eq_true (by have := HB.out; omega)
              have hg2 : (i0 : Int) < (i : Int) := by have := HB.out; omega
              have HII := Lib.hid hii
              clear hii
              go_wp2_with fail
              go_ret
              refine ⟨_, h', rfl, HIN4.out, fun _ => dn_end HD.out HII.out HSM.out, fun e => ?_⟩
              first | exact absurd (of_decide_eq_false e) (by have := HII.out; have := HB.out; omega) | cases e
          | true =>
            obtain ⟨D4, ho4⟩ := HIN4.out.1
            have hss := HS.out S p c b A D4 h' i (2 * i + 1) w4 ho4 (by have := HB.out; omega) (by have := HB.out; omega) (by have := HB.out; omega) (by have := HB.out; omega)
            rw [HP.out, HC.out] at hss
            have HSS := Lib.hid hss
            clear hss ho4
            go_wp2_with fail
            refine HSS.out.mono ?_
            rintro e w5 ⟨rfl, ⟨D5, ho5⟩, hk5⟩
            have HIN5 := Lib.hid (HIN4.out.swap (n := n) (by have := HB.out; omega) (by have := HB.out; omega) (by have := HB.out; omega) ho5 hk5)
            clear ho5 hk5 HSS
            go_wp2_with fail
            go_roundw
            case rel =>
              refine ⟨(2 * i + 1), swl h' i (2 * i + 1), by first | rfl | (simp; done) | (congr 1; omega), by have := HB.out; omega, by have := HB.out; omega, ?_, HIN5.out⟩
              rw [G_swl (by have := HB.out; omega) (by have := HB.out; omega)]
              exact dn_step HD.out (by have := HB.out; omega) (by omega) (by have := HB.out; omega) (by omega) HMIN.out HT.out
            case measure =>
              have := HB.out
              simp [intOf]
              omega
      · have e2 : decide (2 * (i : Int) + 2 < (n : Int)) = false := decide_eq_false (by omega)
        have e2' : ¬ 2 * (i : Int) + 2 < (n : Int) := by omega
        have HMIN := Lib.hid (show ∀ k, 0 < k → k < n → (k - 1) / 2 = i → le (G h' (2 * i + 1)) (G h' k) from fun k k0 kn hk => by
          rcases (show k = 2 * i + 1 by omega) with rfl
          exact le_refl _)
        have HB := Lib.hid (And.intro hb1 (And.intro hln (And.intro hi0 (And.intro hi (And.intro hj1 hj2)))))
        have hc : (((2 * i + 1 : Nat)) : Int) = 2 * (i : Int) + 1 := by omega
        have HC := Lib.hid hc
        clear hb1 hln hi0 hi hj1 hj2 hc ho hin hd
        have hb0 := HB.out
        obtain ⟨D3, ho3⟩ := HIN.out.1
        have hls := tless_any (i := (2 * i + 1)) (j := i) wr ho3 (by omega) (by omega) (by omega)
        rw [HP.out, HC.out] at hls
        obtain ⟨t, ht⟩ : ∃ t, tlt (G h' (2 * i + 1)) (G h' i) = t := ⟨_, rfl⟩
        rw [ht] at hls
        have HT := Lib.hid ht
        have HLS := Lib.hid hls
        clear ht hls ho3 hb0
        go_wp2_with fail
        refine HLS.out.mono ?_
        rintro e w4 ⟨rfl, hb4⟩
        have HIN4 := Lib.hid (HIN.out.less hb4)
        clear hb4 HLS
        cases t with
        | false =>
          have hsm : ∀ k, 0 < k → k < n → (k - 1) / 2 = i → le (G h' i) (G h' k) := fun k k0 kn hk => le_trans HT.out (HMIN.out k k0 kn hk)
          have HSM := Lib.hid hsm
          clear hsm
          by_cases hii : i = i0
          · have hg : decide ((i0 : Int) < (i : Int)) = false := decide_eq_false (by omega)
            have hg2 : ¬ (i0 : Int) < (i : Int) := by omega
            have HII := Lib.hid hii
            clear hii
            go_wp2_with fail
            go_ret
            refine ⟨_, h', rfl, HIN4.out, fun e => ?_, fun _ => ?_⟩
            · first | exact absurd (of_decide_eq_true e) (by have := HII.out; omega) | cases e
            · rw [← HII.out]
              have hd := HD.out
              rw [← HII.out] at hd
              exact dn_top hd HSM.out
          · have hg : decide ((i0 : Int) < (i : Int)) = true := decide_eq_true (by have := HB.out; omega)
            have hg2 : (i0 : Int) < (i : Int) := by have := HB.out; omega
            have HII := Lib.hid hii
            clear hii
            go_wp2_with fail
            go_ret
            refine ⟨_, h', rfl, HIN4.out, fun _ => dn_end HD.out HII.out HSM.out, fun e => ?_⟩
            first | exact absurd (of_decide_eq_false e) (by have := HII.out; have := HB.out; omega) | cases e
        | true =>
          obtain ⟨D4, ho4⟩ := HIN4.out.1
          have hss := HS.out S p c b A D4 h' i (2 * i + 1) w4 ho4 (by have := HB.out; omega) (by have := HB.out; omega) (by have := HB.out; omega) (by have := HB.out; omega)
          rw [HP.out, HC.out] at hss
          have HSS := Lib.hid hss
          clear hss ho4
          go_wp2_with fail
          refine HSS.out.mono ?_
          rintro e w5 ⟨rfl, ⟨D5, ho5⟩, hk5⟩
          have HIN5 := Lib.hid (HIN4.out.swap (n := n) (by have := HB.out; omega) (by have := HB.out; omega) (by have := HB.out; omega) ho5 hk5)
          clear ho5 hk5 HSS
          go_wp2_with fail
          go_roundw
          case rel =>
            refine ⟨(2 * i + 1), swl h' i (2 * i + 1), by first | rfl | (simp; done) | (congr 1; omega), by have := HB.out; omega, by have := HB.out; omega, ?_, HIN5.out⟩
            rw [G_swl (by have := HB.out; omega) (by have := HB.out; omega)]
            exact dn_step HD.out (by have := HB.out; omega) (by omega) (by have := HB.out; omega) (by omega) HMIN.out HT.out
          case measure =>
            have := HB.out
            simp [intOf]
            omega
    · have e1 : decide ((n : Int) ≤ 2 * (i : Int) + 1) = true := decide_eq_true (by omega)
      have e1' : (n : Int) ≤ 2 * (i : Int) + 1 := by omega
      have HSM := Lib.hid (show ∀ k, 0 < k → k < n → (k - 1) / 2 = i → le (G h' i) (G h' k) from fun k k0 kn hk => by omega)
      by_cases hii : i = i0
      · have hg2 : ¬ (i0 : Int) < (i : Int) := by omega
        have HII := Lib.hid hii
        clear hii hj1 hi0 hi hb1 hln ho hin hd
        go_wp2_with fail
        go_ret
        refine ⟨_, h', rfl, HIN.out, fun e => ?_, fun _ => ?_⟩
        · first | exact absurd (of_decide_eq_true e) (by have := HII.out; omega) | cases e
        · rw [← HII.out]
          have hd := HD.out
          rw [← HII.out] at hd
          exact dn_top hd HSM.out
      · have hg2 : (i0 : Int) < (i : Int) := by omega
        have HII := Lib.hid (show i ≠ i0 ∧ i0 < i from ⟨hii, by omega⟩)
        clear hii hj1 hi0 hi hb1 hln ho hin hd
        go_wp2_with fail
        go_ret
        refine ⟨_, h', rfl, HIN.out, fun _ => dn_end HD.out HII.out.1 HSM.out, fun e => ?_⟩
        first | exact absurd (of_decide_eq_false e) (by have := HII.out; omega) | cases e
end Go.Proofs.Ytldlcddmbgcfdaa.Wh
