/-
  Texts of earlier layers, as one.
-/
import Derived.WalkKit
import Derived.Test.YthkbmmebfkaphaaDoorProg
import Derived.Test.YthkbmmebfkaphaaDoorRBase
import Derived.Laws.BitsAllLaws
import Derived.Lib.SlBytesConst
/- Plain mathematics of the sum, of no program: one shift ('st') and what is linear about it; four shifts by a table of 16 words; a byte ('bt'), bytes ('run'); bytes that are mixed by exclusive or; bits that are turned. -/
namespace Go.Proofs.YthkbmmebfkaphaaDoor.Crc

/-- One shift of the remainder. -/
def st (v : Nat) : Nat := v >>> 1 ^^^ (if v.testBit 0 then 2197175160 else 0)
def sts : Nat → Nat → Nat
  | 0, v => v
  | n + 1, v => sts n (st v)
def bt (v b : Nat) : Nat := sts 8 (v ^^^ b)
def run (v : Nat) (bs : List Nat) : Nat := bs.foldl bt v
/-- The sum. -/
def sum (bs : List Nat) : Nat := 4294967295 ^^^ run 4294967295 bs

theorem xor_rc (a b c : Nat) : (a ^^^ b) ^^^ c = (a ^^^ c) ^^^ b := by rw [Nat.xor_assoc, Nat.xor_comm b c, ← Nat.xor_assoc]
theorem xor4 (a b c d : Nat) : (a ^^^ b) ^^^ (c ^^^ d) = (a ^^^ c) ^^^ (b ^^^ d) := by
  rw [Nat.xor_assoc, ← Nat.xor_assoc b, Nat.xor_comm b c, Nat.xor_assoc, ← Nat.xor_assoc]
theorem st_xor (a b : Nat) : st (a ^^^ b) = st a ^^^ st b := by
  unfold st
  rw [Nat.shiftRight_xor_distrib, Nat.testBit_xor, xor4]
  congr 1
  cases a.testBit 0 <;> cases b.testBit 0 <;> simp
theorem sts_xor (n : Nat) : ∀ a b, sts n (a ^^^ b) = sts n a ^^^ sts n b := by
  induction n with
  | zero => intro a b; rfl
  | succ n ih => intro a b; simp only [sts, st_xor, ih]
theorem sts_add (m : Nat) : ∀ n v, sts (m + n) v = sts n (sts m v) := by
  induction m with
  | zero => intro n v; simp [sts]
  | succ m ih => intro n v; rw [Nat.add_right_comm]; simp only [sts, ih]
theorem st_double (v : Nat) : st (v <<< 1) = v := by
  have h : (v <<< 1).testBit 0 = false := by simp
  unfold st
  rw [h, Nat.shiftLeft_shiftRight]
  simp
theorem sts_shl (n : Nat) : ∀ v, sts n (v <<< n) = v := by
  induction n with
  | zero => intro v; simp [sts]
  | succ n ih => intro v; rw [Nat.shiftLeft_add]; simp only [sts, st_double, ih]
theorem split (v n : Nat) : v = (v >>> n) <<< n ^^^ v % 2 ^ n := by
  apply Nat.eq_of_testBit_eq
  intro i
  rw [Nat.testBit_xor, Nat.testBit_shiftLeft, Nat.testBit_mod_two_pow, Nat.testBit_shiftRight]
  by_cases h : i < n
  · simp [h, Nat.not_le.2 h]
  · have h' : n ≤ i := Nat.le_of_not_lt h
    simp [h, h']
theorem sts_split (n v : Nat) : sts n v = v >>> n ^^^ sts n (v % 2 ^ n) := by
  conv => lhs; rw [split v n]
  rw [sts_xor, sts_shl]

/-- The table's words. -/
def tab : List Nat := [0, 274646895, 549293790, 820201905, 1098587580, 1361435347, 1640403810, 1905808397, 2197175160, 2460548119, 2722870694, 2987750089, 3280807620, 3553878443, 3811616794, 4084100981]
theorem tab_ok : ∀ i, i < 16 → tab[i]? = some (sts 4 i) := by decide +kernel
theorem sts4 (v : Nat) : v / 16 ^^^ sts 4 (v % 16) = sts 4 v := by
  rw [sts_split 4 v, Nat.shiftRight_eq_div_pow]

theorem st_lt {v : Nat} (h : v < 4294967296) : st v < 4294967296 := by
  unfold st
  refine @Nat.xor_lt_two_pow _ _ 32 ?_ ?_
  · rw [Nat.shiftRight_eq_div_pow]; omega
  · split <;> decide
theorem sts_lt (n : Nat) : ∀ {v}, v < 4294967296 → sts n v < 4294967296 := by
  induction n with
  | zero => intro v h; exact h
  | succ n ih => intro v h; exact ih (st_lt h)
theorem xor_lt {a b : Nat} (ha : a < 4294967296) (hb : b < 4294967296) : a ^^^ b < 4294967296 := @Nat.xor_lt_two_pow _ _ 32 ha hb
theorem bt_lt {v b : Nat} (h : v < 4294967296) (hb : b < 256) : bt v b < 4294967296 := sts_lt 8 (xor_lt h (by omega))
theorem run_lt : ∀ (bs : List Nat) {v : Nat}, v < 4294967296 → (∀ b ∈ bs, b < 256) → run v bs < 4294967296
  | [], _, h, _ => h
  | b :: bs, v, h, hb => run_lt bs (v := bt v b) (bt_lt h (hb b (by simp))) fun x hx => hb x (by simp [hx])
theorem sum_lt (bs : List Nat) (h : ∀ b ∈ bs, b < 256) : sum bs < 4294967296 := xor_lt (by decide) (run_lt bs (by decide) h)

theorem run_append (v : Nat) (a b : List Nat) : run v (a ++ b) = run (run v a) b := by simp [run, List.foldl_append]
theorem run_snoc (v : Nat) (a : List Nat) (b : Nat) : run v (a ++ [b]) = bt (run v a) b := by simp [run]
/-- A byte, as two rounds over the table. -/
theorem bt_two (v b : Nat) : bt v b = sts 4 (sts 4 (v ^^^ b)) := sts_add 4 4 _

/-- Texts of one length that are mixed. -/
def mix (a b : List Nat) : List Nat := List.zipWith (· ^^^ ·) a b
theorem run_mix : ∀ (a b : List Nat) (u v : Nat), a.length = b.length → run (u ^^^ v) (mix a b) = run u a ^^^ run v b
  | [], [], _, _, _ => rfl
  | x :: a, y :: b, u, v, h => by
    show run (bt (u ^^^ v) (x ^^^ y)) (mix a b) = run (bt u x) a ^^^ run (bt v y) b
    rw [show bt (u ^^^ v) (x ^^^ y) = bt u x ^^^ bt v y by unfold bt; rw [xor4, sts_xor]]
    exact run_mix a b _ _ (by simpa using h)
theorem sum_mix (a b c : List Nat) (h1 : b.length = a.length) (h2 : c.length = a.length) : sum (mix (mix a b) c) = sum a ^^^ sum b ^^^ sum c := by
  have hl : (mix a b).length = a.length := by simp [mix, h1]
  unfold sum
  have e : run 4294967295 (mix (mix a b) c) = run 4294967295 a ^^^ run 4294967295 b ^^^ run 4294967295 c := by
    have h := run_mix (mix a b) c (4294967295 ^^^ 4294967295) 4294967295 (by omega)
    rw [run_mix a b _ _ h1.symm] at h
    rwa [Nat.xor_self, Nat.zero_xor] at h
  rw [e, xor4 4294967295 _ 4294967295, Nat.xor_self, Nat.zero_xor]
  rw [← Nat.xor_assoc, ← Nat.xor_assoc, ← Nat.xor_assoc, Nat.xor_comm _ 4294967295, ← Nat.xor_assoc]

/- ! Turned bits. -/
theorem eq_of_xor {a b : Nat} (h : a ^^^ b = 0) : a = b := by
  have h2 : (a ^^^ b) ^^^ b = b := by rw [h, Nat.zero_xor]
  rwa [Nat.xor_assoc, Nat.xor_self, Nat.xor_zero] at h2
theorem st_ne {v : Nat} (h : v < 4294967296) (h0 : v ≠ 0) : st v ≠ 0 := by
  unfold st
  intro e
  have e' := eq_of_xor e
  rw [Nat.shiftRight_eq_div_pow] at e'
  by_cases hb : v.testBit 0 = true
  · rw [if_pos hb] at e'; omega
  · rw [if_neg hb] at e'
    have : v % 2 = 0 := by
      have := Nat.testBit_zero v
      rw [this] at hb
      simp at hb; omega
    omega
theorem sts_ne (n : Nat) : ∀ {v}, v < 4294967296 → v ≠ 0 → sts n v ≠ 0 := by
  induction n with
  | zero => intro v _ h; exact h
  | succ n ih => intro v h h0; exact ih (st_lt h) (st_ne h h0)
/-- The k lowest bytes of a number. -/
def low : Nat → Nat → List Nat
  | 0, _ => []
  | k + 1, L => L % 256 :: low k (L / 256)
theorem low_length : ∀ (k L : Nat), (low k L).length = k
  | 0, _ => rfl
  | k + 1, L => by simp [low, low_length k]
theorem low_lt : ∀ (k L : Nat), ∀ b ∈ low k L, b < 256
  | 0, _ => by simp [low]
  | k + 1, L => by
    intro b hb
    rcases List.mem_cons.1 hb with rfl | hb
    · exact Nat.mod_lt _ (by decide)
    · exact low_lt k _ b hb
theorem run_low : ∀ (k v L : Nat), L < 256 ^ k → run v (low k L) = sts (8 * k) (v ^^^ L)
  | 0, v, L, h => by
    have : L = 0 := by simpa using h
    subst this
    simp [low, run, sts]
  | k + 1, v, L, h => by
    show run (bt v (L % 256)) (low k (L / 256)) = _
    rw [run_low k _ _ (by rw [Nat.pow_succ] at h; exact Nat.div_lt_of_lt_mul (by omega)), show 8 * (k + 1) = 8 + 8 * k by omega, sts_add]
    congr 1
    unfold bt
    conv => rhs; rw [split L 8, Nat.xor_comm _ (L % 2 ^ 8), ← Nat.xor_assoc, sts_xor, sts_shl, Nat.shiftRight_eq_div_pow]
theorem run_zeros : ∀ (n : Nat) (v : Nat), run v (List.replicate n 0) = sts (8 * n) v
  | 0, v => rfl
  | n + 1, v => by
    show run (bt v 0) (List.replicate n 0) = _
    rw [run_zeros n, show 8 * (n + 1) = 8 + 8 * n by omega, sts_add]
    simp [bt]
theorem sts_zero (n : Nat) : sts n 0 = 0 := by
  induction n with
  | zero => rfl
  | succ n ih => exact ih
/-- What is turned: nothing ahead, five bytes, nothing behind. -/
theorem run_turn (i m s t : Nat) (hs : s ≤ 8) (ht : t < 4294967296) (h0 : t ≠ 0) : run 0 (List.replicate i 0 ++ low 5 (t * 2 ^ s) ++ List.replicate m 0) ≠ 0 := by
  have hp : 2 ^ s ≤ 2 ^ 8 := Nat.pow_le_pow_right (by decide) hs
  have hL : t * 2 ^ s < 256 ^ 5 := by
    have : t * 2 ^ s ≤ t * 2 ^ 8 := Nat.mul_le_mul_left _ hp
    omega
  rw [run_append, run_append, run_zeros, run_zeros, run_low 5 _ _ hL, sts_zero, Nat.zero_xor]
  rw [show 8 * 5 = s + (40 - s) by omega, sts_add, ← Nat.shiftLeft_eq, sts_shl, ← sts_add]
  exact sts_ne _ ht h0
theorem sum_turn (b e : List Nat) (hl : b.length = e.length) (h : run 0 e ≠ 0) : sum (mix b e) ≠ sum b := by
  unfold sum
  have hr : run 4294967295 (mix b e) = run 4294967295 b ^^^ run 0 e := by
    have := run_mix b e 4294967295 0 hl
    rwa [Nat.xor_zero] at this
  rw [hr]
  intro he
  apply h
  rw [← Nat.xor_assoc] at he
  have h2 : (4294967295 ^^^ run 4294967295 b) ^^^ ((4294967295 ^^^ run 4294967295 b) ^^^ run 0 e) = 0 := by rw [he, Nat.xor_self]
  rwa [← Nat.xor_assoc, Nat.xor_self, Nat.zero_xor] at h2

/-- The document's rounds: two numbers, whose mixture is shifted. -/
def rd1 (v c : Nat) : Nat := if v % 2 ≠ c % 2 then v / 2 ^^^ 2197175160 else v / 2
theorem rd1_st (v c : Nat) : rd1 v c ^^^ c / 2 = st (v ^^^ c) := by
  unfold st rd1
  rw [Nat.shiftRight_xor_distrib, Nat.testBit_xor, Nat.testBit_zero, Nat.testBit_zero, Nat.shiftRight_eq_div_pow, Nat.shiftRight_eq_div_pow]
  have h1 := Nat.mod_two_eq_zero_or_one v
  have h2 := Nat.mod_two_eq_zero_or_one c
  rcases h1 with h1 | h1 <;> rcases h2 with h2 | h2 <;> simp [h1, h2]
  · rw [xor_rc]
  · rw [xor_rc]
theorem rd1_lt {v c : Nat} (h : v < 4294967296) : rd1 v c < 4294967296 := by
  unfold rd1
  split
  · exact xor_lt (by omega) (by decide)
  · omega
theorem not_xor {v : Nat} (h : v < 4294967296) : 4294967295 ^^^ v = 4294967295 - v := by
  apply Nat.eq_of_testBit_eq
  intro i
  rw [Nat.testBit_xor, show 4294967295 - v = 2 ^ 32 - (v + 1) by omega, Nat.testBit_two_pow_sub_succ (by omega), show (4294967295 : Nat) = 2 ^ 32 - 1 by decide, Nat.testBit_two_pow_sub_one]
  by_cases hi : i < 32
  · simp [hi]
  · have : v.testBit i = false := Nat.testBit_lt_two_pow (Nat.lt_of_lt_of_le h (show 2 ^ 32 ≤ 2 ^ i from Nat.pow_le_pow_right (by decide) (by omega)))
    simp [hi, this]
theorem sum_awake : sum [49, 50, 51, 52, 53, 54, 55, 56, 57] = 3808858755 := by decide +kernel
end Go.Proofs.YthkbmmebfkaphaaDoor.Crc
/- Pick, of the document's answer: a place below n, by any number. -/
namespace Go.Proofs.YthkbmmebfkaphaaDoor.Cr
open Go.RowKit Mem

theorem ret_int {k : IntKind} {a b : Int} (h : a = b) : Ending.returned (.int k a) = .returned (.int k b) := by rw [h]
/-- A place below n, by any number. -/
def pick (k n : Int) : Int := if n < 1 then 0 else if k.tmod n < 0 then k.tmod n + n else k.tmod n

theorem pick_lt (k n : Int) (h : 1 ≤ n) : 0 ≤ pick k n ∧ pick k n < n := by
  unfold pick
  have h1 := Int.tmod_lt_of_pos k (show 0 < n by omega)
  have h2 := Int.lt_tmod_of_pos k (show 0 < n by omega)
  split
  · omega
  · split <;> omega

end Go.Proofs.YthkbmmebfkaphaaDoor.Cr
/- crc.through and crc.Sum of any parts: the remainder of their bytes, one behind the other; they only read. -/
namespace Go.Proofs.YthkbmmebfkaphaaDoor.Cr
open Go.RowKit Mem

/-- The table lies in the world. -/
def Tab (w : World) : Prop := ∀ i : Nat, i < 16 → w.cell? ⟨0, i, none⟩ = some (.int .u32 ((Crc.sts 4 i : Nat) : Int))

/-- The ending: a number of 32 bits; nothing has changed. -/
def SumIs (v : Nat) (w : World) (e : Ending) (w' : World) : Prop := e = .returned (.int .u32 (v : Int)) ∧ w' = w

def ThroughRel (w : World) (n v : Nat) (bs : List Nat) (i s : Value) (wr : World) : Prop :=
  ∃ k : Nat, k ≤ n ∧ i = .int .i64 k ∧ s = .int .u32 ((Crc.run v (bs.take k) : Nat) : Int) ∧ wr = w
def HalfRel (w : World) (u : Nat) (i s : Value) (wr : World) : Prop :=
  ∃ j : Nat, j ≤ 2 ∧ i = .int .i64 j ∧ s = .int .u32 ((Crc.sts (4 * j) u : Nat) : Int) ∧ wr = w

set_option maxRecDepth 20000 in
set_option maxHeartbeats 1000000 in
theorem through_any (v : Nat) (A : Option Addr) (n c : Nat) (bs : List Nat) (w : World) (hv : v < 4294967296) (ht : Tab w) (hr : Rd w A n c (cs bs)) (hb : ∀ b ∈ bs, b < 256) :
    Calls Tryd.prog 64 #[.int .u32 (v : Int), .slice A n c] w (SumIs (Crc.run v bs) w) := by
  have lx := hr.len
  rw [length_cs] at lx
  have bx := hr.le
  have cx := hr.cap
  unfold maxLen at cx
  have LX := Lib.hid lx
  have HB := Lib.hid hb
  have HT := Lib.hid ht
  have HR := Lib.hid hr
  have HV := Lib.hid hv
  clear lx hb ht hr hv
  go_enter Tryd.func64, Tryd.ntmps64
  go_wp2
  go_loopw [9, 0] (ThroughRel w n v bs) (fun i _ _ => n - (intOf i).toNat)
  case atStart => exact ⟨0, Nat.zero_le _, rfl, rfl, rfl⟩
  case round =>
    obtain ⟨k, hk, rfl, rfl, rfl⟩ := hrel
    by_cases hlt : k < n
    · obtain ⟨ad, b, rfl, hb, hc⟩ := HR.out.byte hlt
      have hb256 : b < 256 := HB.out b (List.mem_of_getElem? hb)
      have hR : Crc.run v (bs.take k) < 4294967296 := Crc.run_lt _ HV.out fun x hx => HB.out x (List.mem_of_mem_take hx)
      have hn : Crc.run v (bs.take (k + 1)) = Crc.sts 8 (Crc.run v (bs.take k) ^^^ b) := by rw [List.take_add_one, hb]; exact Crc.run_snoc _ _ _
      have HN := Lib.hid hn
      clear hn
      generalize Crc.run v (bs.take k) = R at hR HN ⊢
      have hm : ((b : Nat) : Int) % 4294967296 = (b : Int) := by omega
      have hx := u32_xor_nat R b hR (by omega)
      have hU : R ^^^ b < 4294967296 := Crc.xor_lt hR (by omega)
      generalize R ^^^ b = U at hx hU HN
      go_wp2
      go_loopw [17, 0] (HalfRel wr U) (fun i _ _ => 2 - (intOf i).toNat)
      case atStart => exact ⟨0, by decide, rfl, rfl, rfl⟩
      case round =>
        obtain ⟨j, hj, rfl, rfl, rfl⟩ := hrel
        by_cases hj2 : j < 2
        · have hX : Crc.sts (4 * j) U < 4294967296 := Crc.sts_lt _ hU
          have hn2 : Crc.sts (4 * (j + 1)) U = Crc.sts (4 * j) U / 16 ^^^ Crc.sts 4 (Crc.sts (4 * j) U % 16) := by
            rw [Crc.sts4, show 4 * (j + 1) = 4 * j + 4 by omega, Crc.sts_add]
          have HN2 := Lib.hid hn2
          clear hn2
          generalize Crc.sts (4 * j) U = X at hX HN2 ⊢
          have ha : bits .and .u32 (X : Int) 15 = ((X % 16 : Nat) : Int) := by
            rw [show (15 : Int) = ((15 : Nat) : Int) by rfl, u32_and_nat X 15 hX (by decide)]
            rw [show X &&& 15 = X % 2 ^ 4 from Nat.and_two_pow_sub_one_eq_mod X 4]
          have hcell := HT.out (X % 16) (Nat.mod_lt _ (by decide))
          have hT : Crc.sts 4 (X % 16) < 4294967296 := Crc.sts_lt _ (by omega)
          generalize Crc.sts 4 (X % 16) = T at hcell hT HN2
          have hx2 : bits .xor .u32 ((X : Int) / 16) (T : Int) = ((X / 16 ^^^ T : Nat) : Int) := by
            have := u32_xor_nat (X / 16) T (by omega) hT
            rwa [Int.natCast_ediv] at this
          go_wp2
          exact ⟨⟨j + 1, by omega, by simp, by rw [HN2.out], rfl⟩, by simp [intOf]; omega⟩
        · obtain rfl : j = 2 := by omega
          go_wp2
          exact ⟨⟨k + 1, by omega, by simp, by rw [HN.out], rfl⟩, by simp [intOf]; omega⟩
    · obtain rfl : k = n := by omega
      go_wp2
      go_ret
      refine ⟨?_, rfl⟩
      rw [List.take_of_length_le (Nat.le_of_eq LX.out)]
      rfl

/-- A part: a slice of bytes, with what it holds. -/
structure Part where
  A : Option Addr
  n : Nat
  c : Nat
  bs : List Nat
def pv (p : Part) : Value := .slice p.A p.n p.c
def bytes (ps : List Part) : List Nat := (ps.map (·.bs)).flatten
/-- The slice '.slice A n c' holds the parts ps. -/
structure Mat (w : World) (A : Option Addr) (n c : Nat) (ps : List Part) : Prop where
  row : Rd w A n c (ps.map pv)
  part : ∀ p ∈ ps, Rd w p.A p.n p.c (cs p.bs) ∧ ∀ b ∈ p.bs, b < 256
theorem Mat.below {w w' : World} {A : Option Addr} {n c : Nat} {ps : List Part} (h : Mat w A n c ps) (hb : Below w.heap.size w w') : Mat w' A n c ps :=
  ⟨h.row.below hb, fun p hp => ⟨(h.part p hp).1.below hb, (h.part p hp).2⟩⟩
theorem Tab.below {w w' : World} (h : Tab w) (hb : Below w.heap.size w w') : Tab w' := fun i hi => by
  have := h i hi
  exact (hb.cell (World.block_lt_of_cell? w _ this)).trans this
theorem bytes_append (a b : List Part) : bytes (a ++ b) = bytes a ++ bytes b := by simp [bytes]
theorem bytes_lt {ps : List Part} {w : World} {A : Option Addr} {n c : Nat} (h : Mat w A n c ps) : ∀ b ∈ bytes ps, b < 256 := by
  intro b hb
  simp only [bytes, List.mem_flatten, List.mem_map] at hb
  obtain ⟨_, ⟨p, hp, rfl⟩, hb⟩ := hb
  exact (h.part p hp).2 b hb
theorem bytes_take_lt {ps : List Part} {w : World} {A : Option Addr} {n c : Nat} (h : Mat w A n c ps) (k : Nat) : ∀ b ∈ bytes (ps.take k), b < 256 := by
  intro b hb
  simp only [bytes, List.mem_flatten, List.mem_map] at hb
  obtain ⟨_, ⟨p, hp, rfl⟩, hb⟩ := hb
  exact (h.part p (List.mem_of_mem_take hp)).2 b hb

def SumRel (w : World) (n : Nat) (ps : List Part) (i s : Value) (wr : World) : Prop :=
  ∃ k : Nat, k ≤ n ∧ i = .int .i64 k ∧ s = .int .u32 ((Crc.run 4294967295 (bytes (ps.take k)) : Nat) : Int) ∧ wr = w

set_option maxRecDepth 20000 in
set_option maxHeartbeats 1000000 in
theorem sum_any (A : Option Addr) (n c : Nat) (ps : List Part) (w : World) (ht : Tab w) (hm : Mat w A n c ps) :
    Calls Tryd.prog 52 #[.slice A n c] w (SumIs (Crc.sum (bytes ps)) w) := by
  have lx := hm.row.len
  rw [List.length_map] at lx
  have bx := hm.row.le
  have cx := hm.row.cap
  unfold maxLen at cx
  have LX := Lib.hid lx
  have HM := Lib.hid hm
  have HT := Lib.hid ht
  clear lx hm ht
  go_enter Tryd.func52, Tryd.ntmps52
  go_wp2
  go_loopw [8, 3] (SumRel w n ps) (fun i _ _ => n - (intOf i).toNat)
  case atStart => exact ⟨0, Nat.zero_le _, rfl, rfl, rfl⟩
  case round =>
    obtain ⟨k, hk, rfl, rfl, rfl⟩ := hrel
    have hR : Crc.run 4294967295 (bytes (ps.take k)) < 4294967296 := Crc.run_lt _ (by decide) (bytes_take_lt HM.out k)
    by_cases hlt : k < n
    · obtain ⟨ad, u, rfl, _, hx, hc⟩ := HM.out.row.at_ hlt
      rw [List.getElem?_map, Option.map_eq_some_iff] at hx
      obtain ⟨p, hp, rfl⟩ := hx
      have hn : Crc.run 4294967295 (bytes (ps.take (k + 1))) = Crc.run (Crc.run 4294967295 (bytes (ps.take k))) p.bs := by
        rw [List.take_add_one, hp, bytes_append, Crc.run_append]
        simp [bytes]
      have HN := Lib.hid hn
      obtain ⟨hr1, hr2⟩ := HM.out.part p (List.mem_of_getElem? hp)
      have hth := through_any (Crc.run 4294967295 (bytes (ps.take k))) p.A p.n p.c p.bs wr hR HT.out hr1 hr2
      have HTH := Lib.hid hth
      unfold pv at hc
      clear hn hth hr1 hr2 hp
      go_wp2_with (go_at_call 64; refine HTH.out.mono ?_; rintro e w' ⟨rfl, rfl⟩)
      exact ⟨⟨k + 1, by omega, by simp, by rw [HN.out], rfl⟩, by simp [intOf]; omega⟩
    · obtain rfl : k = n := by omega
      have hs : bits .xor .u32 IntKind.u32.max ((Crc.run 4294967295 (bytes (ps.take k)) : Nat) : Int) = ((Crc.sum (bytes ps) : Nat) : Int) := by
        rw [show IntKind.u32.max = ((4294967295 : Nat) : Int) by rfl, u32_xor_nat _ _ (by decide) hR, List.take_of_length_le (Nat.le_of_eq LX.out)]
        rfl
      go_wp2
      go_ret
      exact ⟨rfl, rfl⟩

/-- A row of parts that was just made. -/
theorem Mat.lit (w : World) (ps : List Part) (t : TypeId) (n : Nat) (hn : ps.length = n) (hm : n ≤ maxLen) (hp : ∀ p ∈ ps, Rd w p.A p.n p.c (cs p.bs) ∧ ∀ b ∈ p.bs, b < 256) :
    Mat (w.alloc (.cells (ps.map pv).toArray t)) (some ⟨w.heap.size, 0, none⟩) n n ps :=
  ⟨Rd.lit w _ t n (by rw [List.length_map, hn]) hm, fun p h => ⟨(hp p h).1.alloc _, (hp p h).2⟩⟩
theorem Tab.alloc {w : World} (h : Tab w) (o : Obj) : Tab (w.alloc o) := fun i hi => by
  have := h i hi
  exact (World.cell?_alloc_lt w o _ (World.block_lt_of_cell? w _ this)).trans this
theorem Tab.drewN {w : World} (h : Tab w) (k : Nat) : Tab (w.drewN k) := h
theorem Tab.drew {w : World} (h : Tab w) : Tab w.drew := h

/-- Sum of one part that was just laid in a row. -/
theorem sum_one {w : World} {A : Option Addr} {n c g : Nat} {bs : List Nat} (hg : g = w.heap.size) (ht : Tab w) (hr : Rd w A n c (cs bs)) (hb : ∀ b ∈ bs, b < 256) :
    Calls Tryd.prog 52 #[.slice (some ⟨g, 0, none⟩) 1 1] (w.alloc (.cells #[.slice A n c] 32)) (SumIs (Crc.sum bs) (w.alloc (.cells #[.slice A n c] 32))) := by
  subst hg
  have hm := Mat.lit w [⟨A, n, c, bs⟩] 32 1 rfl (by simp [maxLen]) (by intro p hp; simp at hp; subst hp; exact ⟨hr, hb⟩)
  have := sum_any _ 1 1 _ _ (ht.alloc _) hm
  have e : bytes [⟨A, n, c, bs⟩] = bs := by simp [bytes]
  rw [e] at this
  exact this

end Go.Proofs.YthkbmmebfkaphaaDoor.Cr
/- The document's sum of any bytes: it only reads. -/
namespace Go.Proofs.YthkbmmebfkaphaaDoor.Cr
open Go.RowKit Mem

def RefRel (w : World) (n : Nat) (bs : List Nat) (i s : Value) (wr : World) : Prop :=
  ∃ k : Nat, k ≤ n ∧ i = .int .i64 k ∧ s = .int .u32 ((Crc.run 4294967295 (bs.take k) : Nat) : Int) ∧ wr = w
def BitRel (w : World) (u : Nat) (i s x : Value) (wr : World) : Prop :=
  ∃ j v c : Nat, j ≤ 8 ∧ i = .int .i64 j ∧ s = .int .u32 (v : Int) ∧ x = .int .u32 (c : Int) ∧ v < 4294967296 ∧ c < 2 ^ (8 - j) ∧ v ^^^ c = Crc.sts j u ∧ wr = w

theorem bit_next {u v c j : Nat} (h : v ^^^ c = Crc.sts j u) : Crc.rd1 v c ^^^ c / 2 = Crc.sts (j + 1) u := by
  rw [Crc.rd1_st, h, Crc.sts_add]
  rfl
theorem bit_half {c j : Nat} (h : c < 2 ^ (8 - j)) (hj : j < 8) : c / 2 < 2 ^ (8 - (j + 1)) := by
  have : 8 - j = (8 - (j + 1)) + 1 := by omega
  rw [this, Nat.pow_succ] at h
  omega

set_option maxRecDepth 20000 in
set_option maxHeartbeats 1000000 in
theorem ref_any (A : Option Addr) (n c : Nat) (bs : List Nat) (w : World) (hr : Rd w A n c (cs bs)) (hb : ∀ b ∈ bs, b < 256) :
    Calls Tryd.prog 35 #[.slice A n c] w (SumIs (Crc.sum bs) w) := by
  have lx := hr.len
  rw [length_cs] at lx
  have bx := hr.le
  have cx := hr.cap
  unfold maxLen at cx
  have LX := Lib.hid lx
  have HB := Lib.hid hb
  have HR := Lib.hid hr
  clear lx hb hr
  go_enter Tryd.func35, Tryd.ntmps35
  go_wp2
  go_loopw [4, 3] (RefRel w n bs) (fun i _ _ => n - (intOf i).toNat)
  case atStart => exact ⟨0, Nat.zero_le _, rfl, rfl, rfl⟩
  case round =>
    obtain ⟨k, hk, rfl, rfl, rfl⟩ := hrel
    have hR : Crc.run 4294967295 (bs.take k) < 4294967296 := Crc.run_lt _ (by decide) fun x hx => HB.out x (List.mem_of_mem_take hx)
    by_cases hlt : k < n
    · obtain ⟨ad, b, rfl, hb, hc⟩ := HR.out.byte hlt
      have hb256 : b < 256 := HB.out b (List.mem_of_getElem? hb)
      have hn : Crc.run 4294967295 (bs.take (k + 1)) = Crc.sts 8 (Crc.run 4294967295 (bs.take k) ^^^ b) := by rw [List.take_add_one, hb]; exact Crc.run_snoc _ _ _
      have HN := Lib.hid hn
      clear hn
      generalize Crc.run 4294967295 (bs.take k) = R at hR HN ⊢
      have hm : ((b : Nat) : Int) % 4294967296 = (b : Int) := by omega
      go_wp2
      go_loopw [6, 3, 5] (BitRel wr (R ^^^ b)) (fun i _ _ _ => 8 - (intOf i).toNat)
      case atStart => exact ⟨0, R, b, by decide, rfl, rfl, rfl, hR, hb256, rfl, rfl⟩
      case round =>
        obtain ⟨j, v, x, hj, rfl, rfl, rfl, hv, hx, hvx, rfl⟩ := hrel
        have hx256 : x < 256 := Nat.lt_of_lt_of_le hx (show 2 ^ (8 - j) ≤ 2 ^ 8 from Nat.pow_le_pow_right (by decide) (by omega))
        have HX := Lib.hid hx
        have HVX := Lib.hid hvx
        clear hx hvx
        by_cases hj2 : j < 8
        · by_cases hd : v % 2 = x % 2
          · have hdf : (((v : Nat) : Int) % 2 != ((x : Nat) : Int) % 2) = false := by rw [bne_eq_false_iff_eq]; omega
            have h1 : Crc.rd1 v x = v / 2 := by unfold Crc.rd1; rw [if_neg (by omega)]
            have H1 := Lib.hid h1
            have HD := Lib.hid hd
            clear hd h1
            go_wp2
            exact ⟨⟨j + 1, v / 2, x / 2, by omega, by simp, by simp, by simp, by omega, bit_half HX.out hj2, by rw [← H1.out]; exact bit_next HVX.out, rfl⟩, by simp [intOf]; omega⟩
          · have hdf : (((v : Nat) : Int) % 2 != ((x : Nat) : Int) % 2) = true := by rw [bne_iff_ne]; omega
            have h1 : Crc.rd1 v x = v / 2 ^^^ 2197175160 := by unfold Crc.rd1; rw [if_pos (by omega)]
            have h2 : bits .xor .u32 ((v : Int) / 2) 2197175160 = ((v / 2 ^^^ 2197175160 : Nat) : Int) := by
              have := u32_xor_nat (v / 2) 2197175160 (by omega) (by decide)
              rwa [Int.natCast_ediv] at this
            have h3 : v / 2 ^^^ 2197175160 < 4294967296 := Crc.xor_lt (by omega) (by decide)
            have H1 := Lib.hid h1
            have H3 := Lib.hid h3
            have HD := Lib.hid hd
            clear hd h1 h3
            go_wp2
            exact ⟨⟨j + 1, _, x / 2, by omega, by simp, rfl, by simp, H3.out, bit_half HX.out hj2, by rw [← H1.out]; exact bit_next HVX.out, rfl⟩, by simp [intOf]; omega⟩
        · obtain rfl : j = 8 := by omega
          have hx0 : x = 0 := by have := HX.out; simpa using this
          subst hx0
          have hfin : v = Crc.run 4294967295 (bs.take (k + 1)) := by rw [HN.out, ← HVX.out, Nat.xor_zero]
          have HF := Lib.hid hfin
          clear hfin
          go_wp2
          exact ⟨⟨k + 1, by omega, by simp, by rw [← HF.out], rfl⟩, by simp [intOf]; omega⟩
    · obtain rfl : k = n := by omega
      rw [List.take_of_length_le (Nat.le_of_eq LX.out)] at hR ⊢
      have hs : Crc.sum bs = 4294967295 - Crc.run 4294967295 bs := Crc.not_xor hR
      have HS := Lib.hid hs
      clear hs
      generalize Crc.run 4294967295 bs = R at hR HS ⊢
      go_wp2
      go_ret
      exact ⟨ret_int (by rw [HS.out]; omega), rfl⟩
end Go.Proofs.YthkbmmebfkaphaaDoor.Cr
