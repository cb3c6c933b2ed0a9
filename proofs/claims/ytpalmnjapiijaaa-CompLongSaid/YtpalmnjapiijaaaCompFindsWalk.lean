/-
  Texts of earlier layers, as one.
-/
import Derived.Test.YtpalmnjapiijaaaCompHave
/- The law of the document's answers: whatever graph, the components and what each node leads to are the document's. -/
namespace Go.Proofs.Ytpalmnjapiijaaa.Gr
open Go.RowKit Mem Dsk

theorem same_ints {u : World} {A B : Option Addr} {n c m d : Nat} {L : List Int} (h1 : Rw LN u A n c L) (h2 : Rw LN u B m d L) : Calls Try.prog 12 #[.slice A n c, .slice B m d] u (Tells true u) := by
  have := sameints_any L L A B n c m d u h1 h2
  rw [decide_eq_true rfl] at this
  exact this
theorem compsF_length (e : Graph) : ∀ (f : Nat) (come : Nat → Bool), (compsF e f come).length ≤ f
  | 0, _ => Nat.le_refl _
  | f + 1, come => by
    unfold compsF
    cases nextV e come with
    | none => exact Nat.zero_le _
    | some v =>
      have := compsF_length e f (more e come v)
      show (compsF e f (more e come v)).length + 1 ≤ f + 1
      omega
theorem comps_length (e : Graph) : (comps e).length ≤ e.length := compsF_length _ _ _
def FnRel (m : Nat) (u : World) (v7 : Value) (wr : World) : Prop := ∃ i : Nat, v7 = .int .i64 (i : Int) ∧ i ≤ m ∧ Below u.heap.size u wr
set_option maxRecDepth 20000 in
set_option maxHeartbeats 16000000 in
theorem compfinds_true (hC : HasComps) (hL : HasLeads) (A : Option Addr) (n c : Nat) (e : Graph) (v : Int) (w : World) (h : Mat w A n c e) (hz : ∀ l ∈ e, l.length ≤ 17592186044416) (hv : (Lit.int .i64 v).wf = true) :
    Calls Try.prog 3 #[.slice A n c, .int .i64 v] w (Tells true w) := by
  have hln := h.len
  have HAW := Lib.hid (fun u => comp_awake hC u)
  have hg := great_any w h hz
  obtain ⟨q, hq⟩ : ∃ q, great e = q := ⟨_, rfl⟩
  rw [hq] at hg
  have HG := Lib.hid hg
  have HQ := Lib.hid hq
  have HM := Lib.hid (And.intro h (And.intro hz hv))
  clear h hz hv hg hq
  cases q with
  | true =>
    go_enter Try.func3, Try.ntmps3
    go_wp2_with (first | (go_at_call 8; (with_reducible refine HG.out.mono ?_); rintro r u1 ⟨rfl, hb1⟩; have HU1 := Lib.hid hb1; clear hb1 HG) | (go_at_call 9; (with_reducible refine (HAW.out _).mono ?_); rintro r w10 ⟨rfl, hb10⟩; have HB10 := Lib.hid hb10; clear hb10))
    go_ret
    exact ⟨rfl, bel_trans HU1.out HB10.out⟩
  | false =>
    have hn40 : n ≤ 40 := by have := (great_no HQ.out).1; omega
    obtain ⟨Lc, hLc⟩ : ∃ x, compsZ e = x := ⟨_, rfl⟩
    obtain ⟨m, hm⟩ : ∃ x, Lc.length = x := ⟨_, rfl⟩
    obtain ⟨Ll, hLl⟩ : ∃ x, leadsZ e v = x := ⟨_, rfl⟩
    have hmn : m ≤ 40 := by
      rw [← hm, ← hLc]
      unfold compsZ
      rw [List.length_map]
      exact Nat.le_trans (comps_length e) (by omega)
    have HCC : Hid (∀ u, Below w.heap.size w u → Calls Try.prog 10 #[.slice A n c] u (fun r u' => ∃ A c, r = .returned (.slice A m c) ∧ Mat u' A m c Lc ∧ Below u.heap.size u u')) := Lib.hid fun u hu => by
      have := hC A n c e u (HM.out.1.below hu) (by omega) HM.out.2.1
      rw [hLc] at this
      rw [← hm]
      exact this
    have HRC : Hid (∀ u, Below w.heap.size w u → Calls Try.prog 11 #[.slice A n c] u (fun r u' => ∃ A c, r = .returned (.slice A m c) ∧ Mat u' A m c Lc ∧ Below u.heap.size u u')) := Lib.hid fun u hu => by
      have := refcomps_any u (HM.out.1.below hu) (by omega)
      rw [hLc] at this
      rw [← hm]
      exact this
    have HCL : Hid (∀ u, Below w.heap.size w u → Calls Try.prog 13 #[.slice A n c, .int .i64 v] u (NewInts u Ll)) := Lib.hid fun u hu => by
      have := hL A n c e v u (HM.out.1.below hu) (by omega) HM.out.2.1 HM.out.2.2
      rw [hLl] at this
      exact this
    have HRL : Hid (∀ u, Below w.heap.size w u → Calls Try.prog 14 #[.slice A n c, .int .i64 v] u (NewInts u Ll)) := Lib.hid fun u hu => by
      have := refleads_any v u (HM.out.1.below hu) (by omega)
      rw [hLl] at this
      exact this
    have HLM := Lib.hid hm
    clear hLc hm hLl
    go_enter Try.func3, Try.ntmps3
    go_upto_region 4 with (first | (go_at_call 8; (with_reducible refine HG.out.mono ?_); rintro r u1 ⟨rfl, hb1⟩; have HU1 := Lib.hid hb1; clear hb1 HG) | (go_at_call 10; (with_reducible refine (HCC.out _ HU1.out).mono ?_); rintro r u2 ⟨A5, c5, rfl, hma, hbu⟩; have HU2 := Lib.hid (bel_trans HU1.out hbu); have HMA := Lib.hid hma; clear hbu hma HCC) | (go_at_call 11; (with_reducible refine (HRC.out _ HU2.out).mono ?_); rintro r u3 ⟨A6, c6, rfl, hmb, hbu⟩; have HU3 := Lib.hid (bel_trans HU2.out hbu); have HMB := Lib.hid hmb; have HMA3 := Lib.hid (HMA.out.below hbu); clear hbu hmb HRC HMA))
    go_upto_region 6 with (first | (go_at_call 13; (with_reducible refine (HCL.out _ HU3.out).mono ?_); rintro r u4 ⟨V7, c7, rfl, ho7, hbu⟩; have HU4 := Lib.hid (bel_trans HU3.out hbu); have HR7 := Lib.hid (Rw.own (L := LN) ho7); have HB34 := Lib.hid hbu; clear hbu ho7 HCL) | (go_at_call 14; (with_reducible refine (HRL.out _ HU4.out).mono ?_); rintro r u5 ⟨V8, c8, rfl, ho8, hbu⟩; have HU5 := Lib.hid (bel_trans HU4.out hbu); have HSM := Lib.hid (same_ints (HR7.out.below hbu) (Rw.own (L := LN) ho8)); have HB45 := Lib.hid (bel_trans HB34.out hbu); clear hbu ho8 HRL HR7) | (go_at_call 12; (with_reducible refine (HSM.out).mono ?_); rintro r u6 ⟨rfl, hbu⟩; have HU6 := Lib.hid (bel_trans HU5.out hbu); have HB36 := Lib.hid (bel_trans HB45.out hbu); clear hbu HSM))
    have HMA6 := Lib.hid (HMA3.out.below HB36.out)
    have HMB6 := Lib.hid (HMB.out.below HB36.out)
    clear HMA3 HMB
    go_wp2_with fail
    go_loopw [7] (FnRel m u6) (fun x _ => m - (intOf x).toNat)
    case atStart => exact ⟨0, rfl, Nat.zero_le _, Below.refl _ _⟩
    case round =>
      obtain ⟨i, rfl, hi, hbr⟩ := hrel
      by_cases hlt : i < m
      · obtain ⟨g, o, R, rn, rc, l, rfl, hg, hl, o1, hr⟩ := (HMA6.out.below hbr).at_ hlt
        obtain ⟨g2, o2, R2, rn2, rc2, l2, rfl, hg2, hl2, o3, hr2⟩ := (HMB6.out.below hbr).at_ hlt
        have hll : l2 = l := by rw [hl] at hl2; exact (Option.some.inj hl2).symm
        subst hll
        have HO1 := Lib.hid (fun u (hu : Below wr.heap.size wr u) => (hu.cell hg).trans o1)
        have HO2 := Lib.hid (fun u (hu : Below wr.heap.size wr u) => (hu.cell hg2).trans o3)
        have HSI := Lib.hid (same_ints (u := wr.drew) (hr.below (Below.drew (Below.refl _ _))) (hr2.below (Below.drew (Below.refl _ _))))
        have HBR := Lib.hid hbr
        have HS0 := Lib.hid (show Below wr.heap.size wr wr.drew from Below.drew (Below.refl _ _))
        clear hg hl o1 hr hg2 hl2 o3 hr2 hbr
        go_upto_region 9 with fail
        refine wp_region_held_drew (S := (fun w' => Below wr.heap.size wr w')) (by kernel_rfl) (by first | (with_reducible exact HS1.out) | (with_reducible exact HS0.out)) (fun hHeld => ?_)
        refine held_take (i := 0) (d := 36) (v := (.slice (some ⟨g, o, none⟩) m c5)) rfl rfl (by kernel_rfl) (by kernel_rfl) (by kernel_rfl) (fun _ _ _ h => h) (by kernel_rfl) (fun w hSw => by (obtain hS := hSw); go_simp) hHeld ?_
        try simp only [List.setIfInBounds_toArray, List.set_cons_zero, List.set_cons_succ]
        refine held_take (i := 1) (d := 37) (v := (.int .i64 (i : Int))) rfl rfl (by kernel_rfl) (by kernel_rfl) (by kernel_rfl) (fun _ _ _ h => h) (by kernel_rfl) (fun w hSw => by (obtain hS := hSw); go_simp) hHeld ?_
        try simp only [List.setIfInBounds_toArray, List.set_cons_zero, List.set_cons_succ]
        refine held_take (i := 2) (d := 38) (v := (.pointer (some ⟨g, o + i, none⟩))) rfl rfl (by kernel_rfl) (by kernel_rfl) (by kernel_rfl) (fun _ _ _ h => h) (by kernel_rfl) (fun w hSw => by (obtain hS := hSw); go_simp) hHeld ?_
        try simp only [List.setIfInBounds_toArray, List.set_cons_zero, List.set_cons_succ]
        refine held_take (i := 3) (d := 39) (v := (.slice R rn rc)) rfl rfl (by kernel_rfl) (by kernel_rfl) (by kernel_rfl) (fun _ _ _ h => h) (by kernel_rfl) (fun w1 hSw => by (have h0 := HO1.out _ hSw; go_simp)) hHeld ?_
        try simp only [List.setIfInBounds_toArray, List.set_cons_zero, List.set_cons_succ]
        refine held_take (i := 4) (d := 40) (v := (.slice (some ⟨g2, o2, none⟩) m c6)) rfl rfl (by kernel_rfl) (by kernel_rfl) (by kernel_rfl) (fun _ _ _ h => h) (by kernel_rfl) (fun w hSw => by (obtain hS := hSw); go_simp) hHeld ?_
        try simp only [List.setIfInBounds_toArray, List.set_cons_zero, List.set_cons_succ]
        refine held_take (i := 5) (d := 41) (v := (.int .i64 (i : Int))) rfl rfl (by kernel_rfl) (by kernel_rfl) (by kernel_rfl) (fun _ _ _ h => h) (by kernel_rfl) (fun w hSw => by (obtain hS := hSw); go_simp) hHeld ?_
        try simp only [List.setIfInBounds_toArray, List.set_cons_zero, List.set_cons_succ]
        refine held_take (i := 6) (d := 42) (v := (.pointer (some ⟨g2, o2 + i, none⟩))) rfl rfl (by kernel_rfl) (by kernel_rfl) (by kernel_rfl) (fun _ _ _ h => h) (by kernel_rfl) (fun w hSw => by (obtain hS := hSw); go_simp) hHeld ?_
        try simp only [List.setIfInBounds_toArray, List.set_cons_zero, List.set_cons_succ]
        refine held_take (i := 7) (d := 43) (v := (.slice R2 rn2 rc2)) rfl rfl (by kernel_rfl) (by kernel_rfl) (by kernel_rfl) (fun _ _ _ h => h) (by kernel_rfl) (fun w1 hSw => by (have h0 := HO2.out _ hSw; go_simp)) hHeld ?_
        try simp only [List.setIfInBounds_toArray, List.set_cons_zero, List.set_cons_succ]
        refine wpAnyH_ready (rs := [8]) (by kernel_rfl) (by simp) ?_
        refine AllReadyH.cons rfl (fun K hK => ?_) AllReadyH.nil
        go_simp
        go_at_call 12
        (with_reducible refine HSI.out.mono ?_)
        rintro r v1 ⟨rfl, hbv⟩
        have HS1 := Lib.hid (bel_trans HS0.out hbv)
        clear hbv
        refine hK.out _ _ (by first | (with_reducible exact HS1.out) | (with_reducible exact HS0.out)) (fun hHeld => ?_)
        clear hK K
        refine held_take (i := 9) (d := 45) (v := (.bool false)) rfl rfl (by kernel_rfl) (by kernel_rfl) (by kernel_rfl) (fun _ _ _ h => h) (by kernel_rfl) (fun w hSw => by (obtain hS := hSw); go_simp) hHeld ?_
        try simp only [List.setIfInBounds_toArray, List.set_cons_zero, List.set_cons_succ]
        refine wpAnyH_done (by kernel_rfl) ?_ _
        have HFI := Lib.hid (show FnRel m u6 (.int .i64 ((i + 1 : Nat) : Int)) v1 from ⟨i + 1, rfl, by omega, HBR.out.trans (HS1.out.mono HBR.out.size)⟩)
        go_wp2_with fail
        go_roundw
        case rel => simpa using HFI.out
        case measure =>
          simp [intOf]
          omega
      · have HBR := Lib.hid hbr
        have hie : ¬ ((i : Int) < (m : Int)) := by omega
        clear hbr
        go_wp2_with (go_at_call 9; (with_reducible refine (HAW.out _).mono ?_); rintro r w10 ⟨rfl, hb10⟩; have HB10 := Lib.hid hb10; clear hb10)
        go_ret
        exact ⟨rfl, bel_trans (bel_trans HU6.out HBR.out) HB10.out⟩
end Go.Proofs.Ytpalmnjapiijaaa.Gr
