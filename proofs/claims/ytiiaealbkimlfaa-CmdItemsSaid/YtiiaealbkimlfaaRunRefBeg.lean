/-
  The document's answers: Beginning, Key, Begins.
-/
import Derived.Test.YtiiaealbkimlfaaRunRefRunes
namespace Go.Proofs.Ytiiaealbkimlfaa
open Go.RowKit Mem Run

theorem fine_val (p : Pc) : p.fine = (!decide (p.val < 32) && !decide (p.val = 127)) := by
  cases p with
  | lone b => rfl
  | rune c =>
    show (!decide (c < 32) && !decide (c = 127)) = (!decide ((c : Int) < 32) && !decide ((c : Int) = 127))
    have e1 : decide (c < 32) = decide ((c : Int) < 32) := decide_eq_decide.2 (by omega)
    have e2 : decide (c = 127) = decide ((c : Int) = 127) := decide_eq_decide.2 (by omega)
    rw [e1, e2]
theorem Row.at_ {w : World} {A : Option Addr} {n : Nat} {ps : List Pc} (h : Row w A n ps) {k : Nat} (hk : k < n) : ∃ g p, A = some ⟨g, 0, none⟩ ∧ ps[k]? = some p ∧ w.cell? ⟨g, k * 2, none⟩ = some (.int .i64 p.val) ∧ w.cell? ⟨g, k * 2 + 1, none⟩ = some (.int .i64 (p.bytes.length : Int)) := by
  have hl := h.1
  have e : ps[k]? = some (ps[k]'(by omega)) := List.getElem?_eq_getElem (by omega)
  obtain ⟨g, h1, _, h2, h3⟩ := h.2 k _ e
  rw [Nat.mul_comm 2 k] at h2 h3
  exact ⟨g, _, h1, e, h2, h3⟩

set_option maxHeartbeats 1000000 in
theorem refbegin_any (s : ByteArray) (hs : s.size ≤ 1073741824) (w : World) : Calls Try.prog 26 #[.string s] w (Tells (beg (bts s)) w) := by
  have hr := runes_any s hs w
  have hpl := pieces_le (bts s)
  rw [length_bts] at hpl
  obtain ⟨ps, hps⟩ : ∃ ps, pieces (bts s) = ps := ⟨_, rfl⟩
  obtain ⟨n, hn⟩ : ∃ n, ps.length = n := ⟨_, rfl⟩
  rw [hps, hn] at hr hpl
  have hbeg : beg (bts s) = (decide (n ≤ 32) && ps.all Pc.fine) := by rw [beg, hps, hn]
  rw [hbeg]
  have HR := Lib.hid hr
  have HN := Lib.hid hn
  clear hr hps hn hbeg
  go_enter Try.func26, Try.ntmps26
  go_wp2_with fail
  refine HR.out.mono ?_
  rintro e w1 ⟨A, c, rfl, hrow, hb1⟩
  have HW := Lib.hid hrow
  have HB := Lib.hid hb1
  clear hrow hb1
  go_wp2
  go_loop [4] (fun vi => ∃ k : Nat, k ≤ n ∧ vi = .int .i64 k ∧ (ps.take k).all Pc.fine = true) (fun vi => n - (intOf vi).toNat)
  case atStart => exact ⟨0, Nat.zero_le _, rfl, rfl⟩
  case round =>
    obtain ⟨k, hk, rfl, hall⟩ := hrel
    by_cases hkn : k < n
    · obtain ⟨g, p, rfl, hp, hc0, hc1⟩ := HW.out.at_ hkn
      have hlt : decide ((k : Int) < (n : Int)) = true := by simp; omega
      have hfv := fine_val p
      obtain ⟨v, hv⟩ : ∃ v, p.val = v := ⟨_, rfl⟩
      rw [hv] at hc0 hfv
      have htk : ps.take (k + 1) = ps.take k ++ [p] := by rw [List.take_add_one, hp]; rfl
      have hmem : p ∈ ps := List.mem_of_getElem? hp
      have HH := Lib.hid (And.intro hall (And.intro hfv (And.intro htk hmem)))
      clear hall hfv htk hmem hp hv hc1
      by_cases h1 : v < 32
      · have hfin : (decide (n ≤ 32) && ps.all Pc.fine) = false := by
          have hf : p.fine = false := by rw [HH.out.2.1]; simp [h1]
          have : ps.all Pc.fine = false := by
            rw [List.all_eq_false]
            exact ⟨p, HH.out.2.2.2, by simp [hf]⟩
          rw [this, Bool.and_false]
        rw [hfin]
        clear hfin
        go_wp2
        go_ret
        exact ⟨rfl, HB.out⟩
      · have b1 : decide (v < 32) = false := by simpa using h1
        by_cases h2 : v = 127
        · subst h2
          have hfin : (decide (n ≤ 32) && ps.all Pc.fine) = false := by
            have hf : p.fine = false := by rw [HH.out.2.1]; simp
            have : ps.all Pc.fine = false := by
              rw [List.all_eq_false]
              exact ⟨p, HH.out.2.2.2, by simp [hf]⟩
            rw [this, Bool.and_false]
          rw [hfin]
          clear hfin
          go_wp2
          go_ret
          exact ⟨rfl, HB.out⟩
        · have b2 : (v == 127) = false := by simpa using h2
          go_wp2
          refine ⟨⟨k + 1, by omega, by simp, ?_⟩, by simp [intOf]; omega⟩
          rw [HH.out.2.2.1, List.all_append, HH.out.1]
          simp [HH.out.2.1, h1, h2]
    · have hlt : decide ((k : Int) < (n : Int)) = false := by simp; omega
      have hkk : k = n := by omega
      have hfin : (decide (n ≤ 32) && ps.all Pc.fine) = decide ((n : Int) ≤ 32) := by
        rw [hkk, ← HN.out, List.take_length] at hall
        rw [hall, Bool.and_true]
        by_cases h : n ≤ 32
        · simp [h]; omega
        · simp [h]; omega
      have HF := Lib.hid hfin
      clear hfin hall
      go_wp2
      go_ret
      exact ⟨ret_bool HF.out.symm, HB.out⟩

theorem refkey_any (s : ByteArray) (hs : s.size ≤ 1073741824) (w : World) : Calls Try.prog 27 #[.string s] w (Tells (key (bts s)) w) := by
  have hb := refbegin_any s hs w
  have HB := Lib.hid hb
  clear hb
  cases h : s.toList.isEmpty with
  | true =>
    have hk : key (bts s) = false := by
      rw [empty_tell] at h
      simp [key, h]
    rw [hk]
    clear hk
    go_enter Try.func27, Try.ntmps27
    go_wp2
    go_ret
    exact ⟨rfl, Below.refl _ _⟩
  | false =>
    have hk : key (bts s) = beg (bts s) := by
      rw [empty_tell] at h
      simp [key, h]
    rw [hk]
    clear hk
    go_enter Try.func27, Try.ntmps27
    go_wp2_with fail
    refine HB.out.mono ?_
    rintro e w1 ⟨rfl, hb1⟩
    go_wp2
    go_ret
    exact ⟨rfl, hb1⟩

theorem refbegins_any (s t : ByteArray) (w : World) : Calls Try.prog 29 #[.string s, .string t] w fun e w' => e = .returned (.bool (decide (bts t <+: bts s))) ∧ w = w' := by
  by_cases h : t.size ≤ s.size
  · have b1 : decide ((t.size : Int) ≤ (s.size : Int)) = true := by simp; omega
    have i1 : (t.size : Int) ≤ (s.size : Int) := by omega
    have hcmp := eq_tell (s.extract 0 t.size) t
    rw [bts_extract, List.drop_zero, Nat.sub_zero] at hcmp
    have hpre : decide ((bts s).take t.size = bts t) = decide (bts t <+: bts s) := by
      rw [Bool.eq_iff_iff]
      simp only [decide_eq_true_eq]
      rw [List.prefix_iff_eq_take, length_bts]
      exact eq_comm
    rw [hpre] at hcmp
    generalize decide (bts t <+: bts s) = z at hcmp ⊢
    clear hpre h
    go_enter Try.func29, Try.ntmps29
    go_wp2
    go_ret
    exact ⟨ret_bool (by first | rfl | exact hcmp), rfl⟩
  · have b1 : decide ((t.size : Int) ≤ (s.size : Int)) = false := by simp; omega
    have hz : decide (bts t <+: bts s) = false := by
      rw [decide_eq_false_iff_not]
      intro hp
      have := hp.length_le
      rw [length_bts, length_bts] at this
      omega
    rw [hz]
    clear hz
    go_enter Try.func29, Try.ntmps29
    go_wp2
    go_ret
    exact ⟨rfl, rfl⟩
end Go.Proofs.Ytiiaealbkimlfaa
