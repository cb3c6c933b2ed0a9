/-
  Texts of earlier layers, as one.
-/
import Derived.Test.YthkbmmebfkaphaaDoorShelf
import Derived.Test.YthkbmmebfkaphaaDoorDskOwn
import Derived.Test.YthkbmmebfkaphaaDoorDskLow
import Derived.Test.YthkbmmebfkaphaaDoorRBase
import Derived.Deep.Cut
/- The program's isName: is a text a name? -/
namespace Go.Proofs.YthkbmmebfkaphaaDoor.Dsk
open Go.RowKit Mem

def letters : ByteArray := ⟨#[97, 98, 99, 100, 101, 102, 103, 104, 105, 106, 107, 108, 109, 110, 111, 112, 113, 114, 115, 116, 117, 118, 119, 120, 121, 122, 48, 49, 50, 51, 52, 53, 54, 55, 56, 57, 46, 45]⟩
set_option maxRecDepth 20000 in
theorem idx_all : ∀ b : Fin 256, decide (Lib.indexByte letters.data.toList b.val.toUInt8 < 0) = !letter b.val := by decide +kernel
theorem idx_letter (b : Nat) (h : b < 256) : decide (Lib.indexByte letters.data.toList (b : Int).toNat.toUInt8 < 0) = !letter b := by
  have := idx_all ⟨b, h⟩
  simpa using this
def IsRel (w : World) (l : List Nat) (i : Value) (wr : World) : Prop := ∃ k : Nat, k ≤ l.length ∧ i = .int .i64 (k : Int) ∧ (l.take k).all letter = true ∧ wr = w
set_option maxRecDepth 20000 in
set_option maxHeartbeats 4000000 in
theorem isname_any (s : ByteArray) (w : World) (hs : s.size ≤ 9223372036854775807) : Calls Tryd.prog 41 #[.string s] w (fun e w' => e = .returned (.bool (isName s)) ∧ w' = w) := by
  obtain ⟨T, hT⟩ : ∃ T, isName s = T := ⟨_, rfl⟩
  rw [hT]
  rw [name_bts] at hT
  obtain ⟨n, hn⟩ : ∃ n, s.size = n := ⟨_, rfl⟩
  obtain ⟨l, hl⟩ : ∃ l, bts s = l := ⟨_, rfl⟩
  have hln : l.length = n := by rw [← hl, length_bts, hn]
  have hlt := bts_lt s
  have hbyte := fun (i b : Nat) (hi : i < n) (hb : l[i]? = some b) (w : World) => byte_at s .i64 i (b := b) (by rw [hn]; exact hi) (by rw [hl, List.getD_eq_getElem?_getD, hb]; rfl) w
  rw [hl] at hT hlt
  rw [hn] at hT hs
  have HT := Lib.hid hT
  have HLN := Lib.hid hln
  have HLT := Lib.hid hlt
  have HBY := Lib.hid hbyte
  have HIX := Lib.hid (fun (c : Int) (u : World) => Tryd.strings_IndexByte letters c u)
  clear hT hln hlt hl hbyte
  go_enter Tryd.func41, Tryd.ntmps41
  by_cases hz : n = 0
  · have b0 : ((n : Int) == 0) = true := by rw [hz]; rfl
    have HZ := Lib.hid hz
    clear hz
    go_wp2_with fail
    go_ret
    refine ⟨?_, rfl⟩
    rw [← HT.out, HZ.out]
    simp
  have b0 : ((n : Int) == 0) = false := by
    cases e : ((n : Int) == 0)
    · rfl
    · simp at e; omega
  by_cases h16 : 16 < n
  · have b1 : decide ((16 : Int) < (n : Int)) = true := decide_eq_true (by omega)
    have HZ := Lib.hid h16
    clear h16 hz
    go_wp2_with fail
    go_ret
    refine ⟨?_, rfl⟩
    have := HZ.out
    rw [← HT.out, decide_eq_false (show ¬ n ≤ 16 by omega), Bool.and_false, Bool.and_false]
    rfl
  have b1 : decide ((16 : Int) < (n : Int)) = false := decide_eq_false (by omega)
  have HN1 := Lib.hid (show 1 ≤ n by omega)
  have HN16 := Lib.hid (show n ≤ 16 by omega)
  clear hz h16
  go_wp2_with fail
  go_loopw [14] (IsRel w l) (fun i _ => n - (intOf i).toNat)
  case atStart => exact ⟨0, Nat.zero_le _, rfl, rfl, rfl⟩
  case round =>
    obtain ⟨k, hk, rfl, hpre, rfl⟩ := hrel
    have HP := Lib.hid hpre
    have hkn : k ≤ n := by rw [← HLN.out]; exact hk
    clear hpre
    by_cases hlt : k < n
    · obtain ⟨b, hb⟩ : ∃ b, l[k]? = some b := ⟨_, List.getElem?_eq_getElem (by rw [HLN.out]; exact hlt)⟩
      have hix := HBY.out k b hlt hb
      have hb256 := HLT.out b (List.mem_of_getElem? hb)
      have hil := idx_letter b hb256
      have HC := Lib.hid (HIX.out (b : Int) wr)
      have HB := Lib.hid hb
      have c0 : decide ((k : Int) < (n : Int)) = true := decide_eq_true (by omega)
      obtain ⟨r, hr⟩ : ∃ r, Lib.indexByte letters.data.toList (b : Int).toNat.toUInt8 = r := ⟨_, rfl⟩
      rw [hr] at hil HC
      obtain ⟨bi, hbi⟩ : ∃ bi : Int, (b : Int) = bi := ⟨_, rfl⟩
      rw [hbi] at hix HC
      obtain ⟨t, ht⟩ : ∃ t, letter b = t := ⟨_, rfl⟩
      rw [ht] at hil
      have HTT := Lib.hid ht
      clear hr hbi ht hb
      cases t with
      | true =>
        have hil' : decide (r < 0) = false := hil
        clear hil
        go_wp2_with fail
        refine HC.out.mono ?_
        rintro e u ⟨rfl, hu⟩
        subst hu
        go_wp2_with fail
        exact ⟨⟨k + 1, by rw [HLN.out]; omega, by simp, all_take HP.out HB.out HTT.out, rfl⟩, by simp [intOf]; omega⟩
      | false =>
        have hil' : decide (r < 0) = true := hil
        clear hil
        go_wp2_with fail
        refine HC.out.mono ?_
        rintro e u ⟨rfl, hu⟩
        subst hu
        go_wp2_with fail
        go_ret
        refine ⟨?_, rfl⟩
        rw [← HT.out, not_all HB.out HTT.out]
        rfl
    · have hkn' : k = n := by omega
      subst hkn'
      have c0 : decide ((k : Int) < (k : Int)) = false := decide_eq_false (by omega)
      clear hlt
      go_wp2_with fail
      go_ret
      refine ⟨?_, rfl⟩
      have h := HP.out
      rw [List.take_of_length_le (by rw [HLN.out]; exact Nat.le_refl _)] at h
      rw [← HT.out, h, decide_eq_true HN1.out, decide_eq_true HN16.out]
      rfl
end Go.Proofs.YthkbmmebfkaphaaDoor.Dsk
