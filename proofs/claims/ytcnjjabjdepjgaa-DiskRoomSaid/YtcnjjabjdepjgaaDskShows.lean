/-
  Texts of earlier layers, as one.
-/
import Derived.Test.YtcnjjabjdepjgaaDskDo
import Derived.Test.YtcnjjabjdepjgaaRBase
import Derived.Deep.RegionHeld
import Derived.Deep.Cut
import Derived.Laws.Cover1
/- What a disk shows is what the document's disk shows. -/
namespace Go.Proofs.Ytcnjjabjdepjgaa.Dsk
open Go.RowKit Mem Cod

theorem dn_ref {w : World} {T : Nat → Prop} {g : Nat} {d : Dk} (h : IsRef w T g d) : w.cell? ⟨g, 3, none⟩ = some (.bool d.dn) := by
  obtain ⟨A, c, hb, _⟩ := h
  exact (cells_dk hb).2.2.2
theorem list_ref {w : World} {T : Nat → Prop} {g : Nat} {d : Dk} (h : IsRef w T g d) : ∃ A c, w.cell? ⟨g, 0, none⟩ = some (.slice A d.fs.length c) := by
  obtain ⟨A, c, hb, _⟩ := h
  exact ⟨A, c, (cells_dk hb).1⟩
theorem frame_ref (T : Nat → Prop) (g : Nat) (d : Dk) : Frame (fun v S' => IsRef v T g d ∧ ∀ k, S' k → ¬ T k) := by
  refine ⟨fun {w w' S S'} h hk hg => ⟨h.1.keep hk fun b hT hS => h.2 b hS hT, fun k hk' hT => ?_⟩⟩
  rcases hg k hk' with hs | hs
  · exact h.2 k hs hT
  · obtain ⟨A, c, _, _, hlt, _⟩ := h.1
    have := hlt k hT
    omega
theorem frame_st (S0 : Nat → Prop) (w0 : World) : Frame (fun v S' => Grew S0 S' w0 ∧ Keeps S0 w0 v) := ⟨fun {_ _ _ _} h hk hg => ⟨h.1.trans hg h.2.size, h.2.trans hk h.1⟩⟩
def ShowRel (w0 : World) (n : Nat) (i : Value) (wr : World) : Prop := ∃ k : Nat, k ≤ n ∧ i = .int .i64 (k : Int) ∧ ∃ q, wr = w0.drewN q
set_option maxRecDepth 20000 in
set_option maxHeartbeats 8000000 in
theorem shows_any {I : Held} (hH : Has I) (p g : Nat) (S T : Nat → Prop) (d : Dk) (w : World) (hI : I w S p d) (hR : IsRef w T g d) (hd : ∀ k, S k → ¬ T k) (hf : Fine d) :
    Calls Try.prog 15 #[ptr p, .pointer (some ⟨g, 0, none⟩)] w (fun e w' => e = .returned (.bool true) ∧ Stays I p S d w w') := by
  have hFr : Frame (fun v S' => (IsRef v T g d ∧ ∀ k, S' k → ¬ T k) ∧ (Grew S S' w ∧ Keeps S w v)) := (frame_ref T g d).and (frame_st S w)
  obtain ⟨t, ht⟩ : ∃ t, d.dn = t := ⟨_, rfl⟩
  have hm0 : Mine I (fun v S' => (IsRef v T g d ∧ ∀ k, S' k → ¬ T k) ∧ (Grew S S' w ∧ Keeps S w v)) w.drew p d := Mine.bel (F := (fun v S' => (IsRef v T g d ∧ ∀ k, S' k → ¬ T k) ∧ (Grew S S' w ∧ Keeps S w v))) ⟨S, hI, ⟨hR, hd⟩, Grew.refl S w, Keeps.refl S w⟩ hH hFr (Below.drew (Below.refl w.heap.size w))
  obtain ⟨S0, hI0, hF0⟩ := hm0
  have ha := hH.down p S0 d w.drew hI0
  have hd0 := dn_ref hF0.1.1
  rw [ht] at hd0
  have HA1 := Lib.hid ha
  have HF0 := Lib.hid hF0
  have HD0 := Lib.hid hd0
  have HT := Lib.hid ht
  clear ha hI0 hF0 hd0 hI hR hd ht
  go_enter Try.func15, Try.ntmps15
  go_upto_region 1 with fail
  refine wp_region_held_drew (S := (fun w' => w'.cell? ⟨g, 3, none⟩ = some (.bool t))) (by kernel_rfl) (by first | (with_reducible exact HD1.out) | (with_reducible exact HD0.out)) (fun hHeld => ?_)
  refine held_take (i := 0) (d := 7) (v := (ptr p)) rfl rfl (by kernel_rfl) (by kernel_rfl) (by kernel_rfl) (fun _ _ _ h => h) (by kernel_rfl) (fun w hSw => by (obtain hS := hSw); go_simp) hHeld ?_
  try simp only [List.setIfInBounds_toArray, List.set_cons_zero, List.set_cons_succ]
  refine held_take (i := 2) (d := 9) (v := (.pointer (some ⟨g, 0, none⟩))) rfl rfl (by kernel_rfl) (by kernel_rfl) (by kernel_rfl) (fun _ _ _ h => h) (by kernel_rfl) (fun w hSw => by (obtain hS := hSw); go_simp) hHeld ?_
  try simp only [List.setIfInBounds_toArray, List.set_cons_zero, List.set_cons_succ]
  refine held_take (i := 3) (d := 10) (v := (.pointer (some ⟨g, 0, none⟩))) rfl rfl (by kernel_rfl) (by kernel_rfl) (by kernel_rfl) (fun _ _ _ h => h) (by kernel_rfl) (fun w hSw => by (obtain hS := hSw); go_simp) hHeld ?_
  try simp only [List.setIfInBounds_toArray, List.set_cons_zero, List.set_cons_succ]
  refine held_take (i := 4) (d := 11) (v := (.pointer (some ⟨g, 3, none⟩))) rfl rfl (by kernel_rfl) (by kernel_rfl) (by kernel_rfl) (fun _ _ _ h => h) (by kernel_rfl) (fun w hSw => by (obtain hS := hSw); go_simp) hHeld ?_
  try simp only [List.setIfInBounds_toArray, List.set_cons_zero, List.set_cons_succ]
  refine held_take (i := 5) (d := 12) (v := (.bool t)) rfl rfl (by kernel_rfl) (by kernel_rfl) (by kernel_rfl) (fun _ _ _ h => h) (by kernel_rfl) (fun w hS => by go_simp) hHeld ?_
  try simp only [List.setIfInBounds_toArray, List.set_cons_zero, List.set_cons_succ]
  refine wpAnyH_ready (rs := [1]) (by kernel_rfl) (by simp) ?_
  refine AllReadyH.cons rfl (fun K hK => ?_) AllReadyH.nil
  go_simp
  go_at_call 21
  refine HA1.out.mono ?_
  rintro e w1 ⟨rfl, hs⟩
  have hm1 := hs.mine hFr HF0.out
  obtain ⟨S1, hI1, hF1⟩ := hm1
  have hd1 := (dn_ref hF1.1.1)
  rw [HT.out] at hd1 ⊢
  have HD1 := Lib.hid hd1
  have HI1 := Lib.hid hI1
  have HF1 := Lib.hid hF1
  clear hs hI1 hF1 hd1 HA1
  refine hK.out _ _ (by first | (with_reducible exact HD1.out) | (with_reducible exact HD0.out)) (fun hHeld => ?_)
  clear hK K
  refine held_take (i := 6) (d := 13) (v := (.bool false)) rfl rfl (by kernel_rfl) (by kernel_rfl) (by kernel_rfl) (fun _ _ _ h => h) (by kernel_rfl) (fun w hS => by cases t <;> go_simp) hHeld ?_
  try simp only [List.setIfInBounds_toArray, List.set_cons_zero, List.set_cons_succ]
  refine wpAnyH_done (by kernel_rfl) ?_ _
  skip
  have c3 := HD1.out
  cases t with
  | true =>
    have ha := hH.names p S1 d w1 HI1.out hf
    rw [if_pos HT.out] at ha
    have HA2 := Lib.hid ha
    clear ha
    go_wp2_with fail
    refine HA2.out.mono ?_
    rintro e w2 ⟨A, n, c, rfl, hr, S2, hI2, hg2, hk2, _⟩
    have hn0 : n = 0 := hr.len.symm
    subst hn0
    have hF2 := hFr.go HF1.out hk2 hg2
    have ha := hH.used p S2 d w2 hI2 hf
    rw [if_pos HT.out] at ha
    have HA3 := Lib.hid ha
    have HF2 := Lib.hid hF2
    clear hr hI2 hg2 hk2 hF2 ha HA2 c3
    go_wp2_with fail
    refine HA3.out.mono ?_
    rintro e w3 ⟨rfl, hs⟩
    obtain ⟨S3, hI3, hF3⟩ := hs.mine hFr HF2.out
    have HI3 := Lib.hid hI3
    have HF3 := Lib.hid hF3
    clear hs hI3 hF3 HA3
    go_wp2_with fail
    go_ret
    exact ⟨rfl, S3, HI3.out, HF3.out.2.1, HF3.out.2.2⟩
  | false =>
    have ha := hH.names p S1 d w1 HI1.out hf
    rw [if_neg (by rw [HT.out]; decide)] at ha
    have HA2 := Lib.hid ha
    clear ha
    go_wp2_with fail
    refine HA2.out.mono ?_
    rintro e w2 ⟨A, n, c, rfl, hr, S2, hI2, hg2, hk2, ho2⟩
    have hF2 := hFr.go HF1.out hk2 hg2
    have hnl : d.fs.length = n := by have h := hr.len; rwa [List.length_map] at h
    have hFr2 := hFr.and (frame_rd A n c (d.fs.map fun f => .string f.nm))
    have ha := hH.used p S2 d w2 hI2 hf
    rw [if_neg (by rw [HT.out]; decide)] at ha
    obtain ⟨u, hu⟩ : ∃ u, used d.fs = u := ⟨_, rfl⟩
    rw [hu] at ha
    obtain ⟨LA, lc, c0⟩ := list_ref hF2.1.1
    rw [hnl] at c0
    have HA3 := Lib.hid ha
    have HF2 := Lib.hid (show (fun v S' => (fun v S' => (IsRef v T g d ∧ ∀ k, S' k → ¬ T k) ∧ (Grew S S' w ∧ Keeps S w v)) v S' ∧ FRd A n c (d.fs.map fun f => .string f.nm) v S') w2 S2 from ⟨hF2, hr, ho2⟩)
    have HU := Lib.hid hu
    have HNL := Lib.hid hnl
    clear hr hI2 hg2 hk2 hF2 ha HA2 c3 ho2 hu hnl
    go_wp2_with fail
    refine HA3.out.mono ?_
    rintro e w3 ⟨rfl, hs⟩
    obtain ⟨S3, hI3, hF3⟩ := hs.mine hFr2 HF2.out
    obtain ⟨LA, lc, hbk, hTg, hlt, hown, hfi⟩ := hF3.1.1.1
    have hua := used_any g LA d.fs.length lc _ _ _ d.fs _ w3 hbk hfi (by have := hf.used; omega)
    rw [HU.out] at hua
    have hc0 := (cells_dk hbk).1
    rw [HNL.out] at hc0 hfi
    have HUA := Lib.hid hua
    have HI3 := Lib.hid hI3
    have HF3 := Lib.hid hF3
    have HFI := Lib.hid hfi
    clear hs hI3 hF3 hua HA3 c0 hbk hTg hlt hown hfi
    go_wp2_with fail
    refine HUA.out.mono ?_
    rintro e w4 ⟨rfl, q0, hq0⟩
    have hb34 : Below w3.heap.size w3 w4 := by rw [hq0]; exact below_drewN (Below.refl _ _) q0
    have c0 : w4.cell? ⟨g, 0, none⟩ = some (.slice LA n lc) := by rw [hq0]; exact hc0
    have hcp := HFI.out.cap
    have hcn := And.intro HF3.out.2.1.le HF3.out.2.1.cap
    unfold maxLen at hcn
    have HR := Lib.hid (HF3.out.2.1.below hb34)
    have HFL := Lib.hid (HFI.out.below hb34)
    have HB := Lib.hid hb34
    clear hc0 hq0 hb34 HUA
    go_wp2_with fail
    go_loopw [6] (ShowRel w4 n) (fun i _ => n - (intOf i).toNat)
    case atStart => exact ⟨0, Nat.zero_le _, rfl, 0, rfl⟩
    case round =>
      obtain ⟨k, hk, rfl, q, rfl⟩ := hrel
      by_cases hlt : k < n
      · obtain ⟨f, hfk⟩ : ∃ f, d.fs[k]? = some f := ⟨_, List.getElem?_eq_getElem (by rw [HNL.out]; exact hlt)⟩
        obtain ⟨gr, o, SA, sc, TA, tc, rfl, ho, hgl, q0', q1, q2, _, _⟩ := HFL.out.at_ hfk
        obtain ⟨ad, uz, rfl, hadl, hz, hcz⟩ := HR.out.at_ hlt
        have huz : uz = .string f.nm := by
          rw [List.getElem?_map, hfk] at hz
          exact (Option.some.inj hz).symm
        subst huz
        have b2 : decide ((n : Int) ≤ (k : Int)) = false := decide_eq_false (by omega)
        have b3 : ¬ n ≤ k := by omega
        clear hfk ho hz q1 q2
        go_wp2_with fail
        go_quiet (fail)
        go_wp2_with fail
        exact ⟨⟨k + 1, by omega, by simp, q + nq, rfl⟩, by simp [intOf]; omega⟩
      · have hkn' : k = n := by omega
        subst hkn'
        clear hlt
        go_wp2_with fail
        go_ret
        have hb := below_drewN HB.out q
        have h := hFr2.go HF3.out (Keeps.ofBelow (S := S3) hb) (Grew.refl S3 w3)
        exact ⟨rfl, S3, hH.keep HI3.out (T := fun _ => False) (Keeps.ofBelow hb) (fun _ _ h => h), h.1.2.1, h.1.2.2⟩
end Go.Proofs.Ytcnjjabjdepjgaa.Dsk
