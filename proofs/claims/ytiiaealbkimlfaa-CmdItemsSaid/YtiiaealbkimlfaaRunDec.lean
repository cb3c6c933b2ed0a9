/-
  What a range over a text tells at a place (the model's own reading) is the piece with which the bytes from there on begin.
-/
import Derived.Test.YtiiaealbkimlfaaTxt
import Derived.Test.YtiiaealbkimlfaaRunPlain
namespace Go.Proofs.Ytiiaealbkimlfaa.Run
open Mem

theorem cont_tl {s : ByteArray} {i : Nat} : (decide (i < s.size) && ((s.get! i).toNat / 64 == 2)) = tl ((bts s).getD i 0) := by
  rw [get_bts]
  by_cases h : i < s.size
  · rw [Bool.eq_iff_iff]
    simp only [h, decide_true, Bool.true_and, beq_iff_eq, tl_iff]
    omega
  · have e : (bts s).getD i 0 = 0 := by simp [List.getD, length_bts, Nat.le_of_not_lt h]
    rw [e]
    simp [h, tl]

theorem valid_fit (c : Nat) : Utf8.valid (c : Int) = fit c := by
  rw [Bool.eq_iff_iff, fit_iff]
  simp only [Utf8.valid, Bool.or_eq_true, Bool.and_eq_true, decide_eq_true_eq]
  omega

theorem decode_first4 (s : ByteArray) (i : Nat) (a b c d : Nat) (ha : (bts s).getD i 0 = a) (hb : (bts s).getD (i + 1) 0 = b) (hc : (bts s).getD (i + 2) 0 = c) (hd : (bts s).getD (i + 3) 0 = d) (ha' : a < 256) (hb' : b < 256) (hc' : c < 256) (hd' : d < 256) :
    Utf8.decode s i = ((first4 a b c d).num, (first4 a b c d).bytes.length) := by
  unfold Utf8.decode
  simp only [cont_tl]
  simp only [get_bts, Nat.add_zero, ha, hb, hc, hd, valid_fit]
  by_cases h1 : a < 128
  · simp [first4, h1, Pc.num, Pc.bytes, enc_one h1]
  rw [if_neg h1]
  by_cases h2 : a < 192
  · rw [if_neg (by simp; omega), if_neg (by simp; omega), if_neg (by simp; omega)]
    have e : first4 a b c d = .lone a := by
      unfold first4
      rw [if_neg h1, if_neg (by simp; omega), if_neg (by simp; omega), if_neg (by simp; omega)]
    rw [e]
    rfl
  by_cases h3 : a < 224
  · by_cases ht : tl b = true
    · rw [if_pos (by simp [ht]; omega)]
      rw [tl_iff] at ht
      by_cases h4 : a < 194
      · rw [if_neg (by omega)]
        have e : first4 a b c d = .lone a := by
          unfold first4
          rw [if_neg h1, if_neg (by simp; omega), if_neg (by simp; omega), if_neg (by simp; omega)]
        rw [e]
        rfl
      · rw [if_pos (by omega)]
        have e : first4 a b c d = .rune ((a - 192) * 64 + (b - 128)) := by
          unfold first4
          rw [if_neg h1, if_pos (by simp [tl]; omega)]
        rw [e]
        simp only [Pc.num, Pc.bytes]
        rw [enc_two (by omega) (by omega)]
        exact Prod.ext (by show _ = _; omega) rfl
    · rw [if_neg (by simp [ht]), if_neg (by simp; omega), if_neg (by simp; omega)]
      have e : first4 a b c d = .lone a := by
        unfold first4
        rw [if_neg h1, if_neg (by simp [ht]), if_neg (by simp [ht]), if_neg (by simp [ht])]
      rw [e]
      rfl
  rw [if_neg (by simp; omega)]
  by_cases h4 : a < 240
  · by_cases ht : tl b = true ∧ tl c = true
    · rw [if_pos (by simp [ht]; omega)]
      have e2 : a % 16 * 4096 + b % 64 * 64 + c % 64 = (a - 224) * 4096 + (b - 128) * 64 + (c - 128) := by
        have h5 := (tl_iff _).1 ht.1
        have h6 := (tl_iff _).1 ht.2
        omega
      rw [e2]
      by_cases h7 : 2048 ≤ (a - 224) * 4096 + (b - 128) * 64 + (c - 128) ∧ fit ((a - 224) * 4096 + (b - 128) * 64 + (c - 128)) = true
      · rw [if_pos (by simp only [ge_iff_le, h7.1, h7.2, decide_true, Bool.and_self])]
        have h5 := (tl_iff _).1 ht.1
        have h6 := (tl_iff _).1 ht.2
        have e : first4 a b c d = .rune ((a - 224) * 4096 + (b - 128) * 64 + (c - 128)) := by
          unfold first4
          rw [if_neg h1, if_neg (by simp; omega), if_pos (by simp only [h7.1, h7.2, ht.1, ht.2, h4, decide_true, Bool.and_true]; simp; omega)]
        rw [e]
        simp only [Pc.num, Pc.bytes]
        rw [enc_three h7.1 (by omega)]
        rfl
      · have h8 : (decide (2048 ≤ (a - 224) * 4096 + (b - 128) * 64 + (c - 128)) && fit ((a - 224) * 4096 + (b - 128) * 64 + (c - 128))) = false := by
          rw [Bool.eq_false_iff]
          simpa using h7
        rw [if_neg (by simp only [ge_iff_le, h8]; simp)]
        have e : first4 a b c d = .lone a := by
          unfold first4
          rw [if_neg h1, if_neg (by simp; omega), if_neg (by rw [Bool.and_assoc, h8]; simp), if_neg (by simp; omega)]
        rw [e]
        rfl
    · have ht' : (tl b && tl c) = false := by
        rw [Bool.eq_false_iff]
        simpa using ht
      rw [if_neg (by rw [Bool.and_assoc, ht']; simp), if_neg (by simp; omega)]
      have e : first4 a b c d = .lone a := by
        unfold first4
        rw [if_neg h1, if_neg (by simp; omega), if_neg (by simp only [Bool.and_eq_true]; simp at ht'; simp; intro _ _ h5; simp [ht' h5]), if_neg (by simp; omega)]
      rw [e]
      rfl
  rw [if_neg (by simp; omega)]
  by_cases ht : a < 248 ∧ tl b = true ∧ tl c = true ∧ tl d = true
  · rw [if_pos (by simp [ht]; omega)]
    have h5 := (tl_iff _).1 ht.2.1
    have h6 := (tl_iff _).1 ht.2.2.1
    have h7 := (tl_iff _).1 ht.2.2.2
    have e2 : a % 8 * 262144 + b % 64 * 4096 + c % 64 * 64 + d % 64 = (a - 240) * 262144 + (b - 128) * 4096 + (c - 128) * 64 + (d - 128) := by omega
    rw [e2]
    by_cases h8 : 65536 ≤ (a - 240) * 262144 + (b - 128) * 4096 + (c - 128) * 64 + (d - 128) ∧ fit ((a - 240) * 262144 + (b - 128) * 4096 + (c - 128) * 64 + (d - 128)) = true
    · rw [if_pos (by simp only [ge_iff_le, h8.1, h8.2, decide_true, Bool.and_self])]
      have h9 := (fit_iff _).1 h8.2
      have e : first4 a b c d = .rune ((a - 240) * 262144 + (b - 128) * 4096 + (c - 128) * 64 + (d - 128)) := by
        unfold first4
        rw [if_neg h1, if_neg (by simp; omega), if_neg (by simp; omega), if_pos (by simp only [h8.1, h8.2, ht.2.1, ht.2.2.1, ht.2.2.2, decide_true, Bool.and_true]; simp; omega)]
      rw [e]
      simp only [Pc.num, Pc.bytes]
      rw [enc_four h8.1]
      rfl
    · have h9 : (decide (65536 ≤ (a - 240) * 262144 + (b - 128) * 4096 + (c - 128) * 64 + (d - 128)) && fit ((a - 240) * 262144 + (b - 128) * 4096 + (c - 128) * 64 + (d - 128))) = false := by
        rw [Bool.eq_false_iff]
        simpa using h8
      rw [if_neg (by simp only [ge_iff_le, h9]; simp)]
      have e : first4 a b c d = .lone a := by
        unfold first4
        rw [if_neg h1, if_neg (by simp; omega), if_neg (by simp; omega), if_neg (by rw [Bool.and_assoc, h9]; simp)]
      rw [e]
      rfl
  · rw [if_neg (by simp only [Bool.and_eq_true, beq_iff_eq]; rintro ⟨⟨⟨h5, h6⟩, h7⟩, h8⟩; exact ht ⟨by omega, h6, h7, h8⟩)]
    have e : first4 a b c d = .lone a := by
      unfold first4
      rw [if_neg h1, if_neg (by simp; omega), if_neg (by simp; omega), if_neg]
      simp only [Bool.and_eq_true, decide_eq_true_eq]
      rintro ⟨⟨⟨⟨⟨⟨_, h5⟩, h6⟩, h7⟩, h8⟩, _⟩, _⟩
      exact ht ⟨by omega, h6, h7, h8⟩
    rw [e]
    rfl

theorem getD_lt (s : ByteArray) (k : Nat) : (bts s).getD k 0 < 256 := by
  rw [← get_bts]
  exact UInt8.toNat_lt _
theorem getD_drop (l : List Nat) (i k : Nat) : (l.drop i).getD k 0 = l.getD (i + k) 0 := by
  simp [List.getD]
theorem decode_first (s : ByteArray) (i : Nat) : Utf8.decode s i = ((first ((bts s).drop i)).num, (first ((bts s).drop i)).bytes.length) := by
  rw [decode_first4 s i _ _ _ _ rfl rfl rfl rfl (getD_lt _ _) (getD_lt _ _) (getD_lt _ _) (getD_lt _ _)]
  simp only [first, getD_drop, Nat.add_zero]
theorem drop_ne {s : ByteArray} {i : Nat} (h : i < s.size) : (bts s).drop i ≠ [] := by
  intro e
  have := congrArg List.length e
  rw [List.length_drop, length_bts] at this
  simp at this
  omega
theorem drop_all {s : ByteArray} {i : Nat} (h : ¬ i < s.size) : (bts s).drop i = [] := by
  apply List.drop_eq_nil_of_le
  rw [length_bts]
  omega
theorem drop_lt (s : ByteArray) (i : Nat) : ∀ b ∈ (bts s).drop i, b < 256 := fun b hb => bts_lt s b (List.mem_of_mem_drop hb)

/-- The rest of the pieces behind a place. -/
def rest (s : ByteArray) (i : Nat) : List Pc := pieces ((bts s).drop i)
theorem rest_zero (s : ByteArray) : rest s 0 = pieces (bts s) := rfl
theorem rest_end {s : ByteArray} {i : Nat} (h : ¬ i < s.size) : rest s i = [] := by rw [rest, drop_all h]; rfl
theorem rest_more {s : ByteArray} {i : Nat} (h : i < s.size) : rest s i = first ((bts s).drop i) :: rest s (i + (first ((bts s).drop i)).bytes.length) := by
  rw [rest, pieces_cons (drop_ne h), List.drop_drop]
  rfl
theorem rest_le {s : ByteArray} {i : Nat} (h : i < s.size) : i + (first ((bts s).drop i)).bytes.length ≤ s.size := by
  have := first_le (drop_ne h)
  rw [List.length_drop, length_bts] at this
  omega
end Go.Proofs.Ytiiaealbkimlfaa.Run
