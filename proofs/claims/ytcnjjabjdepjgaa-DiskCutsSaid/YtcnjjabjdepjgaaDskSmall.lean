/-
  Texts of earlier layers, as one.
-/
import Derived.Test.YtcnjjabjdepjgaaChecked
import Derived.Test.YtcnjjabjdepjgaaDskBase
import Derived.Test.YtcnjjabjdepjgaaRBase
import Derived.Deep.Cut
/- The document's name, At, deed and Used of a disk. -/
namespace Go.Proofs.Ytcnjjabjdepjgaa.Dsk
open Go.RowKit Mem

/-- A text's byte. -/
theorem byte_at (s : ByteArray) (k : IntKind) (i : Nat) {b : Nat} (h : i < s.size) (hb : (bts s).getD i 0 = b) (w : World) : (Instr.index 9 (.string s) (.int k (i : Int))).run Try.prog w = .ok (.int .u8 (b : Int)) w := by
  rw [run_index_string w 9 _ k (i : Int) Try.underlying9, dif_pos (by omega), at_bts]
  rw [Int.toNat_natCast, hb]
theorem name_bts (s : ByteArray) : isName s = ((bts s).all letter && (decide (1 ≤ s.size) && decide (s.size ≤ 16))) := by
  unfold isName bts
  rw [List.all_map]
  rfl
def NameRel (w : World) (l : List Nat) (i : Value) (wr : World) : Prop := ∃ k : Nat, k ≤ l.length ∧ i = .int .i64 (k : Int) ∧ (l.take k).all letter = true ∧ wr = w
theorem all_take {l : List Nat} {k b : Nat} (h : (l.take k).all letter = true) (hb : l[k]? = some b) (hl : letter b = true) : (l.take (k + 1)).all letter = true := by
  rw [List.take_add_one, hb, List.all_append, h]
  simp [hl]
theorem not_all {l : List Nat} {k b : Nat} (hb : l[k]? = some b) (hl : letter b = false) : l.all letter = false := by
  rw [List.all_eq_false]
  exact ⟨b, List.mem_of_getElem? hb, by simp [hl]⟩
set_option maxRecDepth 20000 in
set_option maxHeartbeats 4000000 in
theorem name_any (s : ByteArray) (w : World) (hs : s.size ≤ 9223372036854775807) : Calls Try.prog 49 #[.string s] w (fun e w' => e = .returned (.bool (isName s)) ∧ w' = w) := by
  obtain ⟨T, hT⟩ : ∃ T, isName s = T := ⟨_, rfl⟩
  rw [hT]
  rw [name_bts] at hT
  obtain ⟨n, hn⟩ : ∃ n, s.size = n := ⟨_, rfl⟩
  obtain ⟨l, hl⟩ : ∃ l, bts s = l := ⟨_, rfl⟩
  have hln : l.length = n := by rw [← hl, length_bts, hn]
  have hlt := bts_lt s
  have hbyte := fun (i b : Nat) (hi : i < n) (hb : l[i]? = some b) (w : World) => byte_at s .i64 i (b := b) (by rw [hn]; exact hi) (by rw [hl, List.getD_eq_getElem?_getD, hb]; rfl) w
  rw [hl] at hT hlt
  rw [hn] at hT hs
  have HT := Lib.hid hT
  have HLN := Lib.hid hln
  have HLT := Lib.hid hlt
  have HBY := Lib.hid hbyte
  have HSN := Lib.hid hn
  clear hT hln hlt hl hbyte
  go_enter Try.func49, Try.ntmps49
  go_wp2_with fail
  go_loopw [3] (NameRel w l) (fun i _ => n - (intOf i).toNat)
  case atStart => exact ⟨0, Nat.zero_le _, rfl, rfl, rfl⟩
  case round =>
    obtain ⟨k, hk, rfl, hpre, rfl⟩ := hrel
    have HP := Lib.hid hpre
    have hkn : k ≤ n := by rw [← HLN.out]; exact hk
    clear hpre
    by_cases hlt : k < n
    · obtain ⟨b, hb⟩ : ∃ b, l[k]? = some b := ⟨_, List.getElem?_eq_getElem (by rw [HLN.out]; exact hlt)⟩
      have hix := HBY.out k b hlt hb
      have hb256 := HLT.out b (List.mem_of_getElem? hb)
      have HB := Lib.hid hb
      have c0 : decide ((k : Int) < (n : Int)) = true := decide_eq_true (by omega)
      have c1 : decide ((97 : Int) ≤ (b : Int)) = decide (97 ≤ b) := by rw [Bool.eq_iff_iff, decide_eq_true_iff, decide_eq_true_iff]; omega
      have c2 : decide ((b : Int) ≤ 122) = decide (b ≤ 122) := by rw [Bool.eq_iff_iff, decide_eq_true_iff, decide_eq_true_iff]; omega
      have c3 : decide ((48 : Int) ≤ (b : Int)) = decide (48 ≤ b) := by rw [Bool.eq_iff_iff, decide_eq_true_iff, decide_eq_true_iff]; omega
      have c4 : decide ((b : Int) ≤ 57) = decide (b ≤ 57) := by rw [Bool.eq_iff_iff, decide_eq_true_iff, decide_eq_true_iff]; omega
      have c5 : ((b : Int) == 46) = decide (b = 46) := by rw [Bool.eq_iff_iff, beq_iff_eq, decide_eq_true_iff]; omega
      have c6 : ((b : Int) == 45) = decide (b = 45) := by rw [Bool.eq_iff_iff, beq_iff_eq, decide_eq_true_iff]; omega
      have hle : letter b = ((decide (97 ≤ b) && decide (b ≤ 122)) || ((decide (48 ≤ b) && decide (b ≤ 57)) || (decide (b = 46) || decide (b = 45)))) := rfl
      obtain ⟨bi, hbi⟩ : ∃ bi : Int, (b : Int) = bi := ⟨_, rfl⟩
      rw [hbi] at hix c1 c2 c3 c4 c5 c6
      generalize decide (97 ≤ b) = t1 at c1 hle
      generalize decide (b ≤ 122) = t2 at c2 hle
      generalize decide (48 ≤ b) = t3 at c3 hle
      generalize decide (b ≤ 57) = t4 at c4 hle
      generalize decide (b = 46) = t5 at c5 hle
      generalize decide (b = 45) = t6 at c6 hle
      have HLE := Lib.hid hle
      clear hle hb hb256 hbi
      go_upto_region 5 with fail
      cases t1 with
      | true =>
        cases t2 with
        | true =>
          go_wp2_with fail
          exact ⟨⟨k + 1, by rw [HLN.out]; omega, by simp, all_take HP.out HB.out (HLE.out.trans rfl), rfl⟩, by simp [intOf]; omega⟩
        | false =>
          cases t3 with
          | true =>
            cases t4 with
            | true =>
              go_wp2_with fail
              exact ⟨⟨k + 1, by rw [HLN.out]; omega, by simp, all_take HP.out HB.out (HLE.out.trans rfl), rfl⟩, by simp [intOf]; omega⟩
            | false =>
              cases t5 with
              | true =>
                go_wp2_with fail
                exact ⟨⟨k + 1, by rw [HLN.out]; omega, by simp, all_take HP.out HB.out (HLE.out.trans rfl), rfl⟩, by simp [intOf]; omega⟩
              | false =>
                cases t6 with
                | true =>
                  go_wp2_with fail
                  exact ⟨⟨k + 1, by rw [HLN.out]; omega, by simp, all_take HP.out HB.out (HLE.out.trans rfl), rfl⟩, by simp [intOf]; omega⟩
                | false =>
                  go_wp2_with fail
                  go_ret
                  exact ⟨by rw [← HT.out, not_all HB.out (HLE.out.trans rfl)]; rfl, rfl⟩
          | false =>
            cases t5 with
            | true =>
              go_wp2_with fail
              exact ⟨⟨k + 1, by rw [HLN.out]; omega, by simp, all_take HP.out HB.out (HLE.out.trans rfl), rfl⟩, by simp [intOf]; omega⟩
            | false =>
              cases t6 with
              | true =>
                go_wp2_with fail
                exact ⟨⟨k + 1, by rw [HLN.out]; omega, by simp, all_take HP.out HB.out (HLE.out.trans rfl), rfl⟩, by simp [intOf]; omega⟩
              | false =>
                go_wp2_with fail
                go_ret
                exact ⟨by rw [← HT.out, not_all HB.out (HLE.out.trans rfl)]; rfl, rfl⟩
      | false =>
        cases t3 with
        | true =>
          cases t4 with
          | true =>
            go_wp2_with fail
            exact ⟨⟨k + 1, by rw [HLN.out]; omega, by simp, all_take HP.out HB.out (HLE.out.trans rfl), rfl⟩, by simp [intOf]; omega⟩
          | false =>
            cases t5 with
            | true =>
              go_wp2_with fail
              exact ⟨⟨k + 1, by rw [HLN.out]; omega, by simp, all_take HP.out HB.out (HLE.out.trans rfl), rfl⟩, by simp [intOf]; omega⟩
            | false =>
              cases t6 with
              | true =>
                go_wp2_with fail
                exact ⟨⟨k + 1, by rw [HLN.out]; omega, by simp, all_take HP.out HB.out (HLE.out.trans rfl), rfl⟩, by simp [intOf]; omega⟩
              | false =>
                go_wp2_with fail
                go_ret
                exact ⟨by rw [← HT.out, not_all HB.out (HLE.out.trans rfl)]; rfl, rfl⟩
        | false =>
          cases t5 with
          | true =>
            go_wp2_with fail
            exact ⟨⟨k + 1, by rw [HLN.out]; omega, by simp, all_take HP.out HB.out (HLE.out.trans rfl), rfl⟩, by simp [intOf]; omega⟩
          | false =>
            cases t6 with
            | true =>
              go_wp2_with fail
              exact ⟨⟨k + 1, by rw [HLN.out]; omega, by simp, all_take HP.out HB.out (HLE.out.trans rfl), rfl⟩, by simp [intOf]; omega⟩
            | false =>
              go_wp2_with fail
              go_ret
              exact ⟨by rw [← HT.out, not_all HB.out (HLE.out.trans rfl)]; rfl, rfl⟩
    · have hkn' : k = n := by omega
      subst hkn'
      have q0 : decide ((k : Int) < (k : Int)) = false := decide_eq_false (by omega)
      have q1 : decide ((1 : Int) ≤ (k : Int)) = decide (1 ≤ k) := by rw [Bool.eq_iff_iff, decide_eq_true_iff, decide_eq_true_iff]; omega
      have q2 : decide ((k : Int) ≤ 16) = decide (k ≤ 16) := by rw [Bool.eq_iff_iff, decide_eq_true_iff, decide_eq_true_iff]; omega
      have ht := HT.out
      have hal : l.all letter = true := by have h := HP.out; rwa [List.take_of_length_le (by rw [HLN.out]; exact Nat.le_refl _)] at h
      rw [hal, Bool.true_and] at ht
      generalize decide (1 ≤ k) = t1 at q1 ht
      generalize decide (k ≤ 16) = t2 at q2 ht
      have HT2 := Lib.hid ht
      clear ht hal hlt
      cases t1 with
      | true =>
        cases t2 with
        | true =>
          go_wp2_with fail
          go_ret
          exact ⟨by rw [← HT2.out]; rfl, rfl⟩
        | false =>
          go_wp2_with fail
          go_ret
          exact ⟨by rw [← HT2.out]; rfl, rfl⟩
      | false =>
        go_wp2_with fail
        go_ret
        exact ⟨by rw [← HT2.out]; rfl, rfl⟩
end Go.Proofs.Ytcnjjabjdepjgaa.Dsk
