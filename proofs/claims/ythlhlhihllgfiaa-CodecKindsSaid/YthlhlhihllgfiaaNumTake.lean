/-
  num.Take of any bytes answers what 'Num.take' says of them, and only reads. Pick answers 'pick'.
-/
import Derived.Test.YthlhlhihllgfiaaNumSize
namespace Go.Proofs.Ythlhlhihllgfiaa
open Go.RowKit Mem

/-- The ending of Take: a number, a count, an error; the world as it was. -/
def Took (r : Nat × Nat × Nat) (w : World) (e : Ending) (w' : World) : Prop :=
  e = .returned (.tuple #[.int .u64 (r.1 : Int), .int .i64 (r.2.1 : Int), .int .i64 (r.2.2 : Int)]) ∧ w = w'

def TakeRel (f : Nat) (r : List Nat) (v i : Value) : Prop :=
  ∃ k : Nat, k ≤ f ∧ i = .int .i64 k ∧ v = .int .u64 (Num.val (r.take k) : Int)

set_option maxHeartbeats 1000000 in
theorem take_none (A : Option Addr) (c : Nat) (w : World) : Calls Try.prog 48 #[.slice A 0 c] w (Took (Num.take []) w) := by
  go_enter Try.func48, Try.ntmps48
  go_wp2
  go_ret3
  exact ⟨rfl, rfl⟩

/-- The first byte, in the walk's own spelling. -/
theorem head_cell {w : World} {A : Option Addr} {n c b : Nat} {r : List Nat} (hr : Rd w A n c (cs (b :: r))) : ∃ ad, A = some ad ∧ w.cell? ad = some (.int .u8 (b : Int)) := by
  have hl := hr.len
  simp [cs] at hl
  obtain ⟨ad, b', e, hb', hc0⟩ := hr.byte (k := 0) (by omega)
  obtain rfl : b' = b := by simpa using hb'.symm
  exact ⟨ad, e, by simpa [Addr.add] using hc0⟩

set_option maxHeartbeats 1000000 in
theorem take_one (ad : Addr) (n c : Nat) (b : Int) (w : World) (h1 : 1 ≤ n) (hc : w.cell? ad = some (.int .u8 b)) (hb0 : 0 ≤ b) (hb : b < 248) :
    Calls Try.prog 48 #[.slice (some ad) n c] w fun e w' => e = .returned (.tuple #[.int .u64 b, .int .i64 1, .int .i64 0]) ∧ w = w' := by
  have hne : ((n : Int) == 0) = false := by simp; omega
  go_enter Try.func48, Try.ntmps48
  go_wp2
  go_ret3
  exact ⟨rfl, rfl⟩

set_option maxHeartbeats 1000000 in
theorem take_short (ad : Addr) (n c : Nat) (b : Int) (w : World) (h1 : 1 ≤ n) (hn : n ≤ 9223372036854775807) (hc : w.cell? ad = some (.int .u8 b)) (hb0 : 248 ≤ b) (hb : b ≤ 255) (hsh : (n : Int) - 1 < b - 247) :
    Calls Try.prog 48 #[.slice (some ad) n c] w fun e w' => e = .returned (.tuple #[.int .u64 0, .int .i64 0, .int .i64 2]) ∧ w = w' := by
  have hne : ((n : Int) == 0) = false := by simp; omega
  go_enter Try.func48, Try.ntmps48
  go_wp2
  go_ret3
  exact ⟨rfl, rfl⟩

theorem pow_lt {v k : Nat} (h : v < 256 ^ k) (hk : k < 8) : v < 72057594037927936 :=
  Nat.lt_of_lt_of_le h (Nat.le_trans (Nat.pow_le_pow_right (by omega) (show k ≤ 7 by omega)) (by decide))
theorem pow_le {v k : Nat} (h : v < 256 ^ k) (hk : k ≤ 8) : v ≤ 18446744073709551615 := by
  have := Nat.lt_of_lt_of_le h (Nat.le_trans (Nat.pow_le_pow_right (by omega) hk) (show 256 ^ 8 ≤ 18446744073709551616 by decide))
  omega

theorem shl_or (v : Nat) (x : Int) (hv : v < 72057594037927936) (hx0 : 0 ≤ x) (hx1 : x ≤ 255) : bits .or .u64 (IntKind.u64.wrap ((v : Int) * 256)) x = (v : Int) * 256 + x := by
  obtain ⟨y, rfl⟩ := Int.eq_ofNat_of_zero_le hx0
  have e : IntKind.u64.wrap ((v : Int) * 256) = ((v * 256 : Nat) : Int) := by rw [IntKind.wrap_u64]; omega
  rw [e, u64_or_nat _ _ (by omega) (by omega)]
  have h := Nat.shiftLeft_add_eq_or_of_lt (show y < 2 ^ 8 by omega) v
  rw [Nat.shiftLeft_eq] at h
  rw [← h]
  omega

def longRes (r : List Nat) (f : Nat) : Nat × Nat × Nat := if Num.size (Num.val (r.take f)) ≠ 1 + f then (0, 0, 4) else (Num.val (r.take f), 1 + f, 0)

set_option maxHeartbeats 1000000 in
theorem take_long (ad : Addr) (n c f : Nat) (b : Int) (r : List Nat) (w : World) (h1 : b - 246 ≤ (n : Int)) (hn : n ≤ 9223372036854775807) (hb0 : 248 ≤ b) (hb : b ≤ 255) (hf : b - 247 = (f : Int)) (hc : w.cell? ad = some (.int .u8 b))
    (hcell : ∀ k, k < f → ∃ x : Int, w.cell? (ad.add (1 + k)) = some (.int .u8 x) ∧ 0 ≤ x ∧ x ≤ 255 ∧ (Num.val (r.take (k + 1)) : Int) = Num.val (r.take k) * 256 + x) (hv : ∀ k, k ≤ f → Num.val (r.take k) < 256 ^ k) :
    Calls Try.prog 48 #[.slice (some ad) n c] w (Took (longRes r f) w) := by
  have hne : ((n : Int) == 0) = false := by simp; omega
  have hd1 : decide (b < 248) = false := by simp; omega
  have hd2 : decide ((n : Int) - 1 < b - 247) = false := by simp; omega
  have HC := Lib.hid hcell
  have HV := Lib.hid hv
  have HF := Lib.hid hf
  clear hcell hv hf
  go_enter Try.func48, Try.ntmps48
  go_wp2
  go_loop [2, 29] (TakeRel f r) (fun _ i => f - (intOf i).toNat)
  case atStart => exact ⟨0, Nat.zero_le _, rfl, rfl⟩
  case round =>
    obtain ⟨k, hk, rfl, rfl⟩ := hrel
    have hf := HF.out
    by_cases hlt : (k : Int) < b - 247
    · obtain ⟨x, hcx, hx0, hx1, hval⟩ := HC.out k (by omega)
      have hvk := HV.out k hk
      have HVAL := Lib.hid hval
      clear hval hf
      go_wp2
      have hf := HF.out
      refine ⟨⟨k + 1, by omega, by simp, ?_⟩, by simp [intOf]; omega⟩
      rw [HVAL.out, shl_or _ x (pow_lt hvk (by omega)) hx0 hx1]
    · obtain rfl : k = f := by omega
      clear hf
      have hV : ∃ V, Num.val (r.take k) = V := ⟨_, rfl⟩
      obtain ⟨V, hV⟩ := hV
      have hvk := HV.out k hk
      rw [hV] at hvk ⊢
      have h64 := pow_le hvk (show k ≤ 8 by have := HF.out; omega)
      have hsz : Calls Try.prog 38 #[.int .u64 (V : Int)] w fun e w' => e = .returned (.int .i64 (Num.size V : Int)) ∧ w = w' := by
        have := size_any (V : Int) w (by omega) (by omega)
        rw [Int.toNat_natCast] at this
        exact this
      have hs9 := Num.size_le V (by omega)
      have HV2 := Lib.hid hV
      have HS := Lib.hid hsz
      clear hV hsz hvk HC HV
      by_cases hs : Num.size V = 1 + k
      · have hfin : longRes r k = (V, 1 + k, 0) := by simp [longRes, HV2.out, hs]
        have HFIN := Lib.hid hfin
        have hs' := HF.out
        have hb : ((Num.size V : Int) != 1 + (b - 247)) = false := by rw [bne_eq_false_iff_eq]; omega
        have HSS := Lib.hid hs
        clear hfin hs' hs
        go_wp2_with (go_at_call 38; refine HS.out.mono ?_; rintro e w' ⟨rfl, rfl⟩)
        go_ret3
        rw [HFIN.out]
        refine ⟨?_, rfl⟩
        have hs' := HF.out
        rw [hs']
        rfl
      · have hfin : longRes r k = (0, 0, 4) := by simp [longRes, HV2.out, hs]
        have HFIN := Lib.hid hfin
        have hs' := HF.out
        have hb : ((Num.size V : Int) != 1 + (b - 247)) = true := by rw [bne_iff_ne]; omega
        have HSS := Lib.hid hs
        clear hfin hs' hs
        go_wp2_with (go_at_call 38; refine HS.out.mono ?_; rintro e w' ⟨rfl, rfl⟩)
        go_ret3
        rw [HFIN.out]
        exact ⟨rfl, rfl⟩

theorem take_any (A : Option Addr) (n c : Nat) (bs : List Nat) (w : World) (hr : Rd w A n c (cs bs)) (hlt : ∀ x ∈ bs, x < 256) :
    Calls Try.prog 48 #[.slice A n c] w (Took (Num.take bs) w) := by
  have hl := hr.len
  rw [length_cs] at hl
  have hle := hr.le
  have hm := hr.cap
  unfold maxLen at hm
  match bs, hl with
  | [], hl => obtain rfl : n = 0 := by simpa using hl.symm
              exact take_none A c w
  | b :: r, hl =>
    rw [List.length_cons] at hl
    obtain ⟨ad, rfl, hc⟩ := head_cell hr
    have hb := hlt b (by simp)
    by_cases h1 : b < 248
    · have e : Num.take (b :: r) = (b, 1, 0) := by simp [Num.take, h1]
      rw [e]
      exact take_one ad n c b w (by omega) hc (by omega) (by omega)
    · by_cases h2 : r.length < b - 247
      · have e : Num.take (b :: r) = (0, 0, 2) := by simp [Num.take, h1, h2]
        rw [e]
        exact take_short ad n c b w (by omega) (by omega) hc (by omega) (by omega) (by omega)
      · have e : Num.take (b :: r) = longRes r (b - 247) := by simp [Num.take, h1, h2, longRes]
        rw [e]
        refine take_long ad n c (b - 247) b r w (by omega) (by omega) (by omega) (by omega) (by omega) hc (fun k hk => ?_) (fun k hk => ?_)
        · obtain ⟨ad', x, e', hx, hcx⟩ := hr.byte (k := 1 + k) (by omega)
          cases e'
          rw [Nat.add_comm 1 k, List.getElem?_cons_succ] at hx
          have hx2 := hlt x (by simp [List.mem_of_getElem? hx])
          refine ⟨x, hcx, by omega, by omega, ?_⟩
          rw [List.take_add_one, hx]
          show ((Num.val (r.take k ++ [x]) : Nat) : Int) = _
          rw [Num.val_snoc]
          omega
        · have := Num.take_val_lt r k (fun b hb => hlt b (by simp [hb]))
          rw [List.length_take, Nat.min_eq_left (by omega)] at this
          exact this

set_option maxHeartbeats 400000 in
theorem pick_any (k n : Int) (w : World) (hn1 : 1 ≤ n) (hn2 : n ≤ 65536) :
    Calls Try.prog 17 #[.int .i64 k, .int .i64 n] w fun e w' => e = .returned (.int .i64 (pick k n)) ∧ w = w' := by
  have h1 := Int.tmod_lt_of_pos k (show 0 < n by omega)
  have h2 := Int.lt_tmod_of_pos k (show 0 < n by omega)
  have hn0 : ¬ n < 1 := by omega
  by_cases h : k.tmod n < 0
  · have hp : pick k n = k.tmod n + n := by unfold pick; rw [if_neg hn0, if_pos h]
    have HP := Lib.hid hp
    clear hp
    go_enter Try.func17, Try.ntmps17
    go_wp2
    go_ret
    exact ⟨ret_int (by rw [HP.out]), rfl⟩
  · have hp : pick k n = k.tmod n := by unfold pick; rw [if_neg hn0, if_neg h]
    have HP := Lib.hid hp
    clear hp
    go_enter Try.func17, Try.ntmps17
    go_wp2
    go_ret
    exact ⟨ret_int (by rw [HP.out]), rfl⟩

end Go.Proofs.Ythlhlhihllgfiaa
