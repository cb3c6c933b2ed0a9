/-
  internal/strconv.ParseUint to the base 16, of 21 bits.
-/
import Derived.Test.YtlaiofpaahkceaaDoorRunParse
namespace Go.Proofs.YtlaiofpaahkceaaDoor
open Go.RowKit Mem Run

set_option maxHeartbeats 8000000 in
set_option maxRecDepth 100000 in
theorem parse_in_21 (t : ByteArray) (hne : t.size ≠ 0) (hmax : t.size ≤ 1099511627776) (w : World) :
    Calls Tryd.prog 34 #[.string t, .int .i64 16, .int .i64 21] w (ParsedIn 2097151 (pu 2097151 0 (bts t)) w) := by
  have hemp : t.toList.isEmpty = false := by
    rw [empty_tell]
    have := length_bts t
    cases h : bts t with
    | nil => rw [h] at this; simp at this; omega
    | cons _ _ => rfl
  have hcv := Lib.run_convert_string_bytes (P := Tryd.prog) w 9 35 5 t (u := .string) Tryd.underlying9 Tryd.underlying35 Tryd.underlying5
  have hcell : ∀ j, j < t.size → (Lib.bytesWorld w 5 t).cell? ⟨w.heap.size, j, none⟩ = some (.int .u8 ((bts t).getD j 0 : Nat)) := fun j hj => by
    rw [Lib.bytesWorld_cell w 5 t j hj]
    simp [bts, List.getD]
    cases t.data[j]? <;> rfl
  have hbel := below_ofText w 5 t
  obtain ⟨W1, hW1⟩ : ∃ W1, W1 = Lib.bytesWorld w 5 t := ⟨_, rfl⟩
  rw [← hW1] at hcv hcell hbel
  clear hW1
  have hmv : IntKind.u64.wrap (IntKind.u64.wrap 2097152 - 1) = 2097151 := by decide
  have HC := Lib.hid hcell
  have HB := Lib.hid hbel
  clear hcell hbel
  go_enter Tryd.func34, Tryd.ntmps34
  go_wp2
  go_loop [12, 13, 101] (fun vu vn vi => ∃ (k acc : Nat) (a : Int), vu = .bool false ∧ vn = .int .u64 a ∧ vi = .int .i64 k ∧ k ≤ t.size ∧ a = (acc : Int) ∧ acc ≤ 2097151 ∧ pu 2097151 0 (bts t) = pu 2097151 acc ((bts t).drop k)) (fun _ _ vi => t.size - (intOf vi).toNat)
  case atStart => exact ⟨0, 0, 0, rfl, rfl, rfl, Nat.zero_le _, rfl, Nat.zero_le _, rfl⟩
  case round =>
    obtain ⟨k, acc, a, rfl, rfl, rfl, hk, ha, hacc, hpu⟩ := hrel
    have a0 : 0 ≤ a := by omega
    have a1 : a ≤ 2097151 := by omega
    by_cases hkn : k < t.size
    · obtain ⟨b, hb⟩ : ∃ b, (bts t).getD k 0 = b := ⟨_, rfl⟩
      have hb256 : b < 256 := by rw [← hb]; exact getD_lt t k
      have hc := HC.out k hkn
      rw [hb] at hc
      have hdrop : (bts t).drop k = b :: (bts t).drop (k + 1) := by
        rw [List.drop_eq_getElem_cons (by rw [length_bts]; exact hkn), ← hb]
        simp [List.getD, List.getElem?_eq_getElem (show k < (bts t).length by rw [length_bts]; exact hkn)]
      rw [hdrop] at hpu
      have hlo := low_or b hb256
      obtain ⟨β, hβ⟩ : ∃ β : Int, (b : Int) = β := ⟨_, rfl⟩
      obtain ⟨l, hl⟩ : ∃ l : Int, (low b : Int) = l := ⟨_, rfl⟩
      rw [hβ] at hc hlo
      rw [hl] at hlo
      have b0 : 0 ≤ β := by omega
      have b1 : β ≤ 255 := by omega
      cases hd : dv b with
      | none =>
        obtain ⟨h1, h2, h3⟩ := low_none hb256 hd
        have i1 : β < 48 ∨ 57 < β := by omega
        have i2 : l < 97 ∨ 102 < l := by omega
        have i3 : 0 ≤ l := by omega
        have i4 : l < 256 := by omega
        have hres : pu 2097151 0 (bts t) = none := by rw [hpu]; simp [pu, hd]
        have HR := Lib.hid hres
        clear hd hpu hdrop hb hres h1 h2 h3 hβ hl hb256 ha hacc
        go_wp2_with (go_at_call 42; refine (Tryd.internal_strconv_lower _ _).mono ?_; rintro e w' ⟨rfl, rfl⟩)
        all_goals go_ret2
        all_goals exact parsed_none (v := 0) HR.out (by omega) (.inl rfl) HB.out
      | some d =>
        have hd16 := dv_lt hd
        have hstep : pu 2097151 0 (bts t) = if acc * 16 + d ≤ 2097151 then pu 2097151 (acc * 16 + d) ((bts t).drop (k + 1)) else none := by rw [hpu]; simp [pu, hd]
        have HS := Lib.hid hstep
        have hls := low_some hb256 hd
        clear hd hpu hdrop hb hstep
        by_cases hov : acc * 16 + d ≤ 2097151
        · rcases hls with ⟨h1, h2, h3⟩ | ⟨h1, h2, h3, h4⟩
          · have i1 : 48 ≤ β := by omega
            have i2 : β ≤ 57 := by omega
            have iov : a * 16 + (β - 48) ≤ 2097151 := by omega
            have HF := Lib.hid (And.intro (show a * 16 + (β - 48) = ((acc * 16 + d : Nat) : Int) by omega) (And.intro hov (show pu 2097151 0 (bts t) = pu 2097151 (acc * 16 + d) ((bts t).drop (k + 1)) by rw [HS.out, if_pos hov])))
            clear h1 h2 h3 hβ hl hb256 ha hacc hov hd16 HS
            go_wp2
            refine ⟨⟨k + 1, acc * 16 + d, a * 16 + (β - 48), rfl, by first | rfl | (congr 1; omega), by first | rfl | simp, by omega, HF.out⟩, by simp [intOf]; omega⟩
          · have hb95 : (β == 95) = false := by simp; omega
            have i0 : 57 < β := by omega
            have i1 : 97 ≤ l := by omega
            have i2 : l ≤ 102 := by omega
            have iov : a * 16 + (l - 97 + 10) ≤ 2097151 := by omega
            have HF := Lib.hid (And.intro (show a * 16 + (l - 97 + 10) = ((acc * 16 + d : Nat) : Int) by omega) (And.intro hov (show pu 2097151 0 (bts t) = pu 2097151 (acc * 16 + d) ((bts t).drop (k + 1)) by rw [HS.out, if_pos hov])))
            clear h1 h2 h3 h4 hβ hl hb256 ha hacc hov hd16 HS
            go_wp2_with (go_at_call 42; refine (Tryd.internal_strconv_lower _ _).mono ?_; rintro e w' ⟨rfl, rfl⟩)
            refine ⟨⟨k + 1, acc * 16 + d, a * 16 + (l - 97 + 10), rfl, by first | rfl | (congr 1; omega), by first | rfl | simp, by omega, HF.out⟩, by simp [intOf]; omega⟩
        · have HS2 := Lib.hid (show pu 2097151 0 (bts t) = none by rw [HS.out, if_neg hov])
          rcases hls with ⟨h1, h2, h3⟩ | ⟨h1, h2, h3, h4⟩
          · have i1 : 48 ≤ β := by omega
            have i2 : β ≤ 57 := by omega
            have iov : 2097151 < a * 16 + (β - 48) := by omega
            clear h1 h2 h3 hβ hl hb256 ha hacc hov hd16 HS
            go_wp2
            go_ret2
            exact parsed_none (v := 2097151) HS2.out (by omega) (.inr rfl) HB.out
          · have hb95 : (β == 95) = false := by simp; omega
            have i0 : 57 < β := by omega
            have i1 : 97 ≤ l := by omega
            have i2 : l ≤ 102 := by omega
            have iov : 2097151 < a * 16 + (l - 97 + 10) := by omega
            clear h1 h2 h3 h4 hβ hl hb256 ha hacc hov hd16 HS
            go_wp2_with (go_at_call 42; refine (Tryd.internal_strconv_lower _ _).mono ?_; rintro e w' ⟨rfl, rfl⟩)
            go_ret2
            exact parsed_none (v := 2097151) HS2.out (by omega) (.inr rfl) HB.out
    · have hkk : k = t.size := by omega
      subst hkk
      have hres : pu 2097151 0 (bts t) = some acc := by
        rw [hpu, List.drop_eq_nil_of_le (by rw [length_bts]; exact Nat.le_refl _)]
        rfl
      have HR := Lib.hid hres
      subst ha
      clear hpu hres a0 a1
      go_wp2
      go_ret2
      exact parsed_some HR.out hacc HB.out
end Go.Proofs.YtlaiofpaahkceaaDoor
