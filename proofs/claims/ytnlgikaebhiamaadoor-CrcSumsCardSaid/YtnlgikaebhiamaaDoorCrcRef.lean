/-
  The document's sum of any bytes: it only reads.
-/
import Derived.Test.YtnlgikaebhiamaaDoorCrcSum
import Derived.Test.YtnlgikaebhiamaaDoorPick
namespace Go.Proofs.YtnlgikaebhiamaaDoor
open Go.RowKit Mem

def RefRel (w : World) (n : Nat) (bs : List Nat) (i s : Value) (wr : World) : Prop :=
  ∃ k : Nat, k ≤ n ∧ i = .int .i64 k ∧ s = .int .u32 ((Crc.run 4294967295 (bs.take k) : Nat) : Int) ∧ wr = w
def BitRel (w : World) (u : Nat) (i s x : Value) (wr : World) : Prop :=
  ∃ j v c : Nat, j ≤ 8 ∧ i = .int .i64 j ∧ s = .int .u32 (v : Int) ∧ x = .int .u32 (c : Int) ∧ v < 4294967296 ∧ c < 2 ^ (8 - j) ∧ v ^^^ c = Crc.sts j u ∧ wr = w

theorem bit_next {u v c j : Nat} (h : v ^^^ c = Crc.sts j u) : Crc.rd1 v c ^^^ c / 2 = Crc.sts (j + 1) u := by
  rw [Crc.rd1_st, h, Crc.sts_add]
  rfl
theorem bit_half {c j : Nat} (h : c < 2 ^ (8 - j)) (hj : j < 8) : c / 2 < 2 ^ (8 - (j + 1)) := by
  have : 8 - j = (8 - (j + 1)) + 1 := by omega
  rw [this, Nat.pow_succ] at h
  omega

set_option maxHeartbeats 1000000 in
theorem ref_any (A : Option Addr) (n c : Nat) (bs : List Nat) (w : World) (hr : Rd w A n c (cs bs)) (hb : ∀ b ∈ bs, b < 256) :
    Calls Tryd.prog 9 #[.slice A n c] w (SumIs (Crc.sum bs) w) := by
  have lx := hr.len
  rw [length_cs] at lx
  have bx := hr.le
  have cx := hr.cap
  unfold maxLen at cx
  have LX := Lib.hid lx
  have HB := Lib.hid hb
  have HR := Lib.hid hr
  clear lx hb hr
  go_enter Tryd.func9, Tryd.ntmps9
  go_wp2
  go_loopw [4, 3] (RefRel w n bs) (fun i _ _ => n - (intOf i).toNat)
  case atStart => exact ⟨0, Nat.zero_le _, rfl, rfl, rfl⟩
  case round =>
    obtain ⟨k, hk, rfl, rfl, rfl⟩ := hrel
    have hR : Crc.run 4294967295 (bs.take k) < 4294967296 := Crc.run_lt _ (by decide) fun x hx => HB.out x (List.mem_of_mem_take hx)
    by_cases hlt : k < n
    · obtain ⟨ad, b, rfl, hb, hc⟩ := HR.out.byte hlt
      have hb256 : b < 256 := HB.out b (List.mem_of_getElem? hb)
      have hn : Crc.run 4294967295 (bs.take (k + 1)) = Crc.sts 8 (Crc.run 4294967295 (bs.take k) ^^^ b) := by rw [List.take_add_one, hb]; exact Crc.run_snoc _ _ _
      have HN := Lib.hid hn
      clear hn
      generalize Crc.run 4294967295 (bs.take k) = R at hR HN ⊢
      have hm : ((b : Nat) : Int) % 4294967296 = (b : Int) := by omega
      go_wp2
      go_loopw [6, 3, 5] (BitRel wr (R ^^^ b)) (fun i _ _ _ => 8 - (intOf i).toNat)
      case atStart => exact ⟨0, R, b, by decide, rfl, rfl, rfl, hR, hb256, rfl, rfl⟩
      case round =>
        obtain ⟨j, v, x, hj, rfl, rfl, rfl, hv, hx, hvx, rfl⟩ := hrel
        have hx256 : x < 256 := Nat.lt_of_lt_of_le hx (show 2 ^ (8 - j) ≤ 2 ^ 8 from Nat.pow_le_pow_right (by decide) (by omega))
        have HX := Lib.hid hx
        have HVX := Lib.hid hvx
        clear hx hvx
        by_cases hj2 : j < 8
        · by_cases hd : v % 2 = x % 2
          · have hdf : (((v : Nat) : Int) % 2 != ((x : Nat) : Int) % 2) = false := by rw [bne_eq_false_iff_eq]; omega
            have h1 : Crc.rd1 v x = v / 2 := by unfold Crc.rd1; rw [if_neg (by omega)]
            have H1 := Lib.hid h1
            have HD := Lib.hid hd
            clear hd h1
            go_wp2
            exact ⟨⟨j + 1, v / 2, x / 2, by omega, by simp, by simp, by simp, by omega, bit_half HX.out hj2, by rw [← H1.out]; exact bit_next HVX.out, rfl⟩, by simp [intOf]; omega⟩
          · have hdf : (((v : Nat) : Int) % 2 != ((x : Nat) : Int) % 2) = true := by rw [bne_iff_ne]; omega
            have h1 : Crc.rd1 v x = v / 2 ^^^ 2197175160 := by unfold Crc.rd1; rw [if_pos (by omega)]
            have h2 : bits .xor .u32 ((v : Int) / 2) 2197175160 = ((v / 2 ^^^ 2197175160 : Nat) : Int) := by
              have := u32_xor_nat (v / 2) 2197175160 (by omega) (by decide)
              rwa [Int.natCast_ediv] at this
            have h3 : v / 2 ^^^ 2197175160 < 4294967296 := Crc.xor_lt (by omega) (by decide)
            have H1 := Lib.hid h1
            have H3 := Lib.hid h3
            have HD := Lib.hid hd
            clear hd h1 h3
            go_wp2
            exact ⟨⟨j + 1, _, x / 2, by omega, by simp, rfl, by simp, H3.out, bit_half HX.out hj2, by rw [← H1.out]; exact bit_next HVX.out, rfl⟩, by simp [intOf]; omega⟩
        · obtain rfl : j = 8 := by omega
          have hx0 : x = 0 := by have := HX.out; simpa using this
          subst hx0
          have hfin : v = Crc.run 4294967295 (bs.take (k + 1)) := by rw [HN.out, ← HVX.out, Nat.xor_zero]
          have HF := Lib.hid hfin
          clear hfin
          go_wp2
          exact ⟨⟨k + 1, by omega, by simp, by rw [← HF.out], rfl⟩, by simp [intOf]; omega⟩
    · obtain rfl : k = n := by omega
      rw [List.take_of_length_le (Nat.le_of_eq LX.out)] at hR ⊢
      have hs : Crc.sum bs = 4294967295 - Crc.run 4294967295 bs := Crc.not_xor hR
      have HS := Lib.hid hs
      clear hs
      generalize Crc.run 4294967295 bs = R at hR HS ⊢
      go_wp2
      go_ret
      exact ⟨ret_int (by rw [HS.out]; omega), rfl⟩
end Go.Proofs.YtnlgikaebhiamaaDoor
