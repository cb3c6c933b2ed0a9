/-
  Texts of earlier layers, as one.
-/
import Derived.Test.YtpalmnjapiijaaaCompUpDown
/- container/heap's down over the program's numbers. -/
namespace Go.Proofs.Ytpalmnjapiijaaa.Gr.Hq
open Go.RowKit Mem Dsk

def DnRel (w0 : World) (B : Nat) (col : Nat → Nat) (p : Nat) (x0 x1 x2 : Value) (A : Option Addr) (c : Nat) (h0 : List Nat) (n i0 : Nat) (v : Value) (w : World) : Prop := ∃ (i : Nat) (h : List Nat), v = .int .i64 (i : Int) ∧ i0 ≤ i ∧ i < n ∧ DnI n (G h) i i0 ∧ In w0 B col p x0 x1 x2 A c h0 n w h
/-- What down answers. -/
def DnPost (w : World) (B : Nat) (col : Nat → Nat) (p : Nat) (x0 x1 x2 : Value) (A : Option Addr) (c : Nat) (h : List Nat) (n i0 : Nat) (e : Ending) (w' : World) : Prop := ∃ r h', e = .returned (.bool r) ∧ In w B col p x0 x1 x2 A c h n w' h' ∧ (r = true → Hp n (G h')) ∧ (r = false → UpI n (G h') i0)
set_option maxRecDepth 20000 in
set_option maxHeartbeats 8000000 in
theorem down_any {B p c n i0 : Nat} {col : Nat → Nat} {x0 x1 x2 : Value} {A : Option Addr} {h : List Nat} (w : World) (ho : HN w B col p x0 x1 x2 A c h) (hj : i0 < n) (hn : n ≤ h.length) (hl : h.length ≤ 1000000) (hu : DnI n (G h) i0 i0) :
    Calls Try.prog 27 #[ifc p, .int .i64 (i0 : Int), .int .i64 (n : Int)] w (DnPost w B col p x0 x1 x2 A c h n i0) := by
  have HN := Lib.hid (And.intro hn hl)
  have HI := Lib.hid (show DnRel w B col p x0 x1 x2 A c h n i0 (.int .i64 (i0 : Int)) w from ⟨i0, h, rfl, Nat.le_refl _, hj, hu, ho, Mv.refl n h, Trn.refl K4 w col⟩)
  obtain ⟨N, hN⟩ : ∃ y, h.length = y := ⟨_, rfl⟩
  have m1 := meth_val (p := p) (A := A) (n := N) (c := c) "Less" _ (meth_less p)
  have m2 := meth_val (p := p) (A := A) (n := N) (c := c) "Swap" _ (meth_swap p)
  have HNN := Lib.hid hN
  clear ho hj hn hl hu hN
  unfold ifc ptr3
  obtain ⟨P, hP⟩ : ∃ P : Value, .pointer (some ⟨p, 3, none⟩) = P := ⟨_, rfl⟩
  rw [hP] at m1 m2 ⊢
  clear hP
  go_enter Try.func27, Try.ntmps27
  go_wp2_with fail
  go_loopw [7] (DnRel w B col p x0 x1 x2 A c h n i0) (fun v _ => n - (intOf v).toNat)
  case atStart => exact HI.out
  case round =>
    obtain ⟨i, h', rfl, hi0, hi, hd, hin⟩ := hrel
    clear HI
    have hln : h'.length = h.length := hin.2.1.1
    have hb1 := HN.out
    have hw1 : IntKind.i64.wrap (2 * (i : Int)) = 2 * (i : Int) := wr64 (by omega) (by omega)
    have hw2 : IntKind.i64.wrap (2 * (i : Int) + 1) = 2 * (i : Int) + 1 := wr64 (by omega) (by omega)
    have hw3 : IntKind.i64.wrap (2 * (i : Int) + 1 + 1) = 2 * (i : Int) + 2 := by rw [show 2 * (i : Int) + 1 + 1 = 2 * (i : Int) + 2 by omega]; exact wr64 (by omega) (by omega)
    have HD := Lib.hid hd
    have HIN := Lib.hid hin
    have ho := hin.1
    by_cases hj1 : 2 * i + 1 < n
    · have e1 : decide ((n : Int) ≤ 2 * (i : Int) + 1) = false := decide_eq_false (by omega)
      have e1' : ¬ (n : Int) ≤ 2 * (i : Int) + 1 := by omega
      have e0 : decide (2 * (i : Int) + 1 < 0) = false := decide_eq_false (by omega)
      have e0' : ¬ 2 * (i : Int) + 1 < 0 := by omega
      by_cases hj2 : 2 * i + 2 < n
      · have e2 : decide (2 * (i : Int) + 2 < (n : Int)) = true := decide_eq_true (by omega)
        have e2' : 2 * (i : Int) + 2 < (n : Int) := by omega
        have hls := less_any (i := 2 * i + 2) (j := 2 * i + 1) wr ho (by omega) (by omega)
        have c3 := ho.cell
        rw [hln, HNN.out] at hls c3
        rw [show (((2 * i + 2 : Nat)) : Int) = 2 * (i : Int) + 2 by omega, show (((2 * i + 1 : Nat)) : Int) = 2 * (i : Int) + 1 by omega] at hls
        obtain ⟨s, hs⟩ : ∃ s, tlt (G h' (2 * i + 2)) (G h' (2 * i + 1)) = s := ⟨_, rfl⟩
        rw [hs] at hls
        have HLS := Lib.hid hls
        have HB := Lib.hid (And.intro hb1 (And.intro hln (And.intro hi0 (And.intro hi (And.intro hj1 (And.intro hj2 hs))))))
        clear hb1 hln hi0 hi hj1 hj2 hs hls ho hin hd
        go_wp2_with fail
        refine HLS.out.mono ?_
        rintro e w2 ⟨rfl, hb2⟩
        have HIN2 := Lib.hid (HIN.out.bel hb2)
        clear hb2 HLS c3
        cases s with
        | true =>
          have HMIN := Lib.hid (show ∀ k, 0 < k → k < n → (k - 1) / 2 = i → le (G h' (2 * i + 2)) (G h' k) from fun k k0 kn hk => by
            have h1 := HB.out.2.2.2.2.2.2
            rcases (show k = 2 * i + 1 ∨ k = 2 * i + 2 by omega) with rfl | rfl
            · exact le_of h1
            · exact le_refl _)
          have hc : (((2 * i + 2 : Nat)) : Int) = 2 * (i : Int) + 2 := by omega
          have HC := Lib.hid hc
          clear hc
          have hb0 := HB.out
          have hls := less_any (i := (2 * i + 2)) (j := i) w2 HIN2.out.1 (by omega) (by omega)
          have c3 := HIN2.out.1.cell
          rw [hb0.2.1, HNN.out] at hls c3
          rw [HC.out] at hls
          obtain ⟨t, ht⟩ : ∃ t, tlt (G h' (2 * i + 2)) (G h' i) = t := ⟨_, rfl⟩
          rw [ht] at hls
          have HT := Lib.hid ht
          have HLS := Lib.hid hls
          clear ht hls hb0
          go_wp2_with fail
          refine HLS.out.mono ?_
          rintro e w4 ⟨rfl, hb4⟩
          have HIN4 := Lib.hid (HIN2.out.bel hb4)
          clear hb4 HLS c3
          cases t with
          | false =>
            have hsm : ∀ k, 0 < k → k < n → (k - 1) / 2 = i → le (G h' i) (G h' k) := fun k k0 kn hk => le_trans HT.out (HMIN.out k k0 kn hk)
            have HSM := Lib.hid hsm
            clear hsm
            by_cases hii : i = i0
            · have hg : decide ((i0 : Int) < (i : Int)) = false := decide_eq_false (by omega)
              have hg2 : ¬ (i0 : Int) < (i : Int) := by omega
              have HII := Lib.hid hii
              clear hii
              go_wp2_with fail
              go_ret
              refine ⟨_, h', rfl, HIN4.out, fun e => ?_, fun _ => ?_⟩
              · first | exact absurd (of_decide_eq_true e) (by have := HII.out; omega) | cases e
              · rw [← HII.out]
                have hd := HD.out
                rw [← HII.out] at hd
                exact dn_top hd HSM.out
            · have hg : decide ((i0 : Int) < (i : Int)) = true := decide_eq_true (by have := HB.out; omega)
              have hg2 : (i0 : Int) < (i : Int) := by have := HB.out; omega
              have HII := Lib.hid hii
              clear hii
              go_wp2_with fail
              go_ret
              refine ⟨_, h', rfl, HIN4.out, fun _ => dn_end HD.out HII.out HSM.out, fun e => ?_⟩
              first | exact absurd (of_decide_eq_false e) (by have := HII.out; have := HB.out; omega) | cases e
          | true =>
            have hss := swap_any (i := i) (j := (2 * i + 2)) w4 HIN4.out.1 (by have := HB.out; omega) (by have := HB.out; omega)
            have c3 := HIN4.out.1.cell
            rw [HB.out.2.1, HNN.out] at hss c3
            rw [HC.out] at hss
            have HSS := Lib.hid hss
            clear hss
            go_wp2_with fail
            refine HSS.out.mono ?_
            rintro e w5 ⟨rfl, ho5, hk5⟩
            have HIN5 := Lib.hid (HIN4.out.swap (n := n) (by have := HB.out; omega) (by have := HB.out; omega) (by have := HB.out; omega) ho5 hk5)
            clear ho5 hk5 HSS c3
            go_wp2_with fail
            go_roundw
            case rel =>
              refine ⟨(2 * i + 2), swl h' i (2 * i + 2), by first | rfl | (simp; done) | (congr 1; omega), by have := HB.out; omega, by have := HB.out; omega, ?_, HIN5.out⟩
              rw [G_swl (by have := HB.out; omega) (by have := HB.out; omega)]
              exact dn_step HD.out (by have := HB.out; omega) (by omega) (by have := HB.out; omega) (by omega) HMIN.out HT.out
            case measure =>
              have := HB.out
              simp [intOf]
              omega
        | false =>
          have HMIN := Lib.hid (show ∀ k, 0 < k → k < n → (k - 1) / 2 = i → le (G h' (2 * i + 1)) (G h' k) from fun k k0 kn hk => by
            have h1 := HB.out.2.2.2.2.2.2
            rcases (show k = 2 * i + 1 ∨ k = 2 * i + 2 by omega) with rfl | rfl
            · exact le_refl _
            · exact h1)
          have hc : (((2 * i + 1 : Nat)) : Int) = 2 * (i : Int) + 1 := by omega
          have HC := Lib.hid hc
          clear hc
          have hb0 := HB.out
          have hls := less_any (i := (2 * i + 1)) (j := i) w2 HIN2.out.1 (by omega) (by omega)
          have c3 := HIN2.out.1.cell
          rw [hb0.2.1, HNN.out] at hls c3
          rw [HC.out] at hls
          obtain ⟨t, ht⟩ : ∃ t, tlt (G h' (2 * i + 1)) (G h' i) = t := ⟨_, rfl⟩
          rw [ht] at hls
          have HT := Lib.hid ht
          have HLS := Lib.hid hls
          clear ht hls hb0
          go_wp2_with fail
          refine HLS.out.mono ?_
          rintro e w4 ⟨rfl, hb4⟩
          have HIN4 := Lib.hid (HIN2.out.bel hb4)
          clear hb4 HLS c3
          cases t with
          | false =>
            have hsm : ∀ k, 0 < k → k < n → (k - 1) / 2 = i → le (G h' i) (G h' k) := fun k k0 kn hk => le_trans HT.out (HMIN.out k k0 kn hk)
            have HSM := Lib.hid hsm
            clear hsm
            by_cases hii : i = i0
            · have hg : decide ((i0 : Int) < (i : Int)) = false := decide_eq_false (by omega)
              have hg2 : ¬ (i0 : Int) < (i : Int) := by omega
              have HII := Lib.hid hii
              clear hii
              go_wp2_with fail
              go_ret
              refine ⟨_, h', rfl, HIN4.out, fun e => ?_, fun _ => ?_⟩
              · first | exact absurd (of_decide_eq_true e) (by have := HII.out; omega) | cases e
              · rw [← HII.out]
                have hd := HD.out
                rw [← HII.out] at hd
                exact dn_top hd HSM.out
            · have hg : decide ((i0 : Int) < (i : Int)) = true := decide_eq_true (by have := HB.out; omega)
              have hg2 : (i0 : Int) < (i : Int) := by have := HB.out; omega
              have HII := Lib.hid hii
              clear hii
              go_wp2_with fail
              go_ret
              refine ⟨_, h', rfl, HIN4.out, fun _ => dn_end HD.out HII.out HSM.out, fun e => ?_⟩
              first | exact absurd (of_decide_eq_false e) (by have := HII.out; have := HB.out; omega) | cases e
          | true =>
            have hss := swap_any (i := i) (j := (2 * i + 1)) w4 HIN4.out.1 (by have := HB.out; omega) (by have := HB.out; omega)
            have c3 := HIN4.out.1.cell
            rw [HB.out.2.1, HNN.out] at hss c3
            rw [HC.out] at hss
            have HSS := Lib.hid hss
            clear hss
            go_wp2_with fail
            refine HSS.out.mono ?_
            rintro e w5 ⟨rfl, ho5, hk5⟩
            have HIN5 := Lib.hid (HIN4.out.swap (n := n) (by have := HB.out; omega) (by have := HB.out; omega) (by have := HB.out; omega) ho5 hk5)
            clear ho5 hk5 HSS c3
            go_wp2_with fail
            go_roundw
            case rel =>
              refine ⟨(2 * i + 1), swl h' i (2 * i + 1), by first | rfl | (simp; done) | (congr 1; omega), by have := HB.out; omega, by have := HB.out; omega, ?_, HIN5.out⟩
              rw [G_swl (by have := HB.out; omega) (by have := HB.out; omega)]
              exact dn_step HD.out (by have := HB.out; omega) (by omega) (by have := HB.out; omega) (by omega) HMIN.out HT.out
            case measure =>
              have := HB.out
              simp [intOf]
              omega
      · have e2 : decide (2 * (i : Int) + 2 < (n : Int)) = false := decide_eq_false (by omega)
        have e2' : ¬ 2 * (i : Int) + 2 < (n : Int) := by omega
        have HMIN := Lib.hid (show ∀ k, 0 < k → k < n → (k - 1) / 2 = i → le (G h' (2 * i + 1)) (G h' k) from fun k k0 kn hk => by
          rcases (show k = 2 * i + 1 by omega) with rfl
          exact le_refl _)
        have HB := Lib.hid (And.intro hb1 (And.intro hln (And.intro hi0 (And.intro hi (And.intro hj1 hj2)))))
        have hc : (((2 * i + 1 : Nat)) : Int) = 2 * (i : Int) + 1 := by omega
        have HC := Lib.hid hc
        clear hb1 hln hi0 hi hj1 hj2 hc ho hin hd
        have hb0 := HB.out
        have hls := less_any (i := (2 * i + 1)) (j := i) wr HIN.out.1 (by omega) (by omega)
        have c3 := HIN.out.1.cell
        rw [hb0.2.1, HNN.out] at hls c3
        rw [HC.out] at hls
        obtain ⟨t, ht⟩ : ∃ t, tlt (G h' (2 * i + 1)) (G h' i) = t := ⟨_, rfl⟩
        rw [ht] at hls
        have HT := Lib.hid ht
        have HLS := Lib.hid hls
        clear ht hls hb0
        go_wp2_with fail
        refine HLS.out.mono ?_
        rintro e w4 ⟨rfl, hb4⟩
        have HIN4 := Lib.hid (HIN.out.bel hb4)
        clear hb4 HLS c3
        cases t with
        | false =>
          have hsm : ∀ k, 0 < k → k < n → (k - 1) / 2 = i → le (G h' i) (G h' k) := fun k k0 kn hk => le_trans HT.out (HMIN.out k k0 kn hk)
          have HSM := Lib.hid hsm
          clear hsm
          by_cases hii : i = i0
          · have hg : decide ((i0 : Int) < (i : Int)) = false := decide_eq_false (by omega)
            have hg2 : ¬ (i0 : Int) < (i : Int) := by omega
            have HII := Lib.hid hii
            clear hii
            go_wp2_with fail
            go_ret
            refine ⟨_, h', rfl, HIN4.out, fun e => ?_, fun _ => ?_⟩
            · first | exact absurd (of_decide_eq_true e) (by have := HII.out; omega) | cases e
            · rw [← HII.out]
              have hd := HD.out
              rw [← HII.out] at hd
              exact dn_top hd HSM.out
          · have hg : decide ((i0 : Int) < (i : Int)) = true := decide_eq_true (by have := HB.out; omega)
            have hg2 : (i0 : Int) < (i : Int) := by have := HB.out; omega
            have HII := Lib.hid hii
            clear hii
            go_wp2_with fail
            go_ret
            refine ⟨_, h', rfl, HIN4.out, fun _ => dn_end HD.out HII.out HSM.out, fun e => ?_⟩
            first | exact absurd (of_decide_eq_false e) (by have := HII.out; have := HB.out; omega) | cases e
        | true =>
          have hss := swap_any (i := i) (j := (2 * i + 1)) w4 HIN4.out.1 (by have := HB.out; omega) (by have := HB.out; omega)
          have c3 := HIN4.out.1.cell
          rw [HB.out.2.1, HNN.out] at hss c3
          rw [HC.out] at hss
          have HSS := Lib.hid hss
          clear hss
          go_wp2_with fail
          refine HSS.out.mono ?_
          rintro e w5 ⟨rfl, ho5, hk5⟩
          have HIN5 := Lib.hid (HIN4.out.swap (n := n) (by have := HB.out; omega) (by have := HB.out; omega) (by have := HB.out; omega) ho5 hk5)
          clear ho5 hk5 HSS c3
          go_wp2_with fail
          go_roundw
          case rel =>
            refine ⟨(2 * i + 1), swl h' i (2 * i + 1), by first | rfl | (simp; done) | (congr 1; omega), by have := HB.out; omega, by have := HB.out; omega, ?_, HIN5.out⟩
            rw [G_swl (by have := HB.out; omega) (by have := HB.out; omega)]
            exact dn_step HD.out (by have := HB.out; omega) (by omega) (by have := HB.out; omega) (by omega) HMIN.out HT.out
          case measure =>
            have := HB.out
            simp [intOf]
            omega
    · have e1 : decide ((n : Int) ≤ 2 * (i : Int) + 1) = true := decide_eq_true (by omega)
      have e1' : (n : Int) ≤ 2 * (i : Int) + 1 := by omega
      have HSM := Lib.hid (show ∀ k, 0 < k → k < n → (k - 1) / 2 = i → le (G h' i) (G h' k) from fun k k0 kn hk => by omega)
      by_cases hii : i = i0
      · have hg2 : ¬ (i0 : Int) < (i : Int) := by omega
        have HII := Lib.hid hii
        clear hii hj1 hi0 hi hb1 hln ho hin hd
        go_wp2_with fail
        go_ret
        refine ⟨_, h', rfl, HIN.out, fun e => ?_, fun _ => ?_⟩
        · first | exact absurd (of_decide_eq_true e) (by have := HII.out; omega) | cases e
        · rw [← HII.out]
          have hd := HD.out
          rw [← HII.out] at hd
          exact dn_top hd HSM.out
      · have hg2 : (i0 : Int) < (i : Int) := by omega
        have HII := Lib.hid (show i ≠ i0 ∧ i0 < i from ⟨hii, by omega⟩)
        clear hii hj1 hi0 hi hb1 hln ho hin hd
        go_wp2_with fail
        go_ret
        refine ⟨_, h', rfl, HIN.out, fun _ => dn_end HD.out HII.out.1 HSM.out, fun e => ?_⟩
        first | exact absurd (of_decide_eq_false e) (by have := HII.out; omega) | cases e
end Go.Proofs.Ytpalmnjapiijaaa.Gr.Hq
