/-
  Texts of earlier layers, as one.
-/
import Derived.Lib.BitFns
import Derived.Test.YtcnjjabjdepjgaaShelf
import Derived.Test.YtcnjjabjdepjgaaRBase
/- Plain mathematics of layer 1 (num), without any program: the form of a number as a list of bytes, and how it is read back. Every fact is for numbers below 2^64 where it says so. -/
namespace Go.Proofs.Ytcnjjabjdepjgaa.Num

/-- How many bytes a number takes. -/
def nby (v : Nat) : Nat := (Lib.bitLen v + 7) / 8

/-- The size of a number's form. -/
def size (v : Nat) : Nat := if v < 248 then 1 else 1 + nby v

/-- The first i of the k bytes of v, the highest first. -/
def beTo (k v i : Nat) : List Nat := (List.range i).map fun j => v / 256 ^ (k - 1 - j) % 256

/-- A number's form. -/
def put (v : Nat) : List Nat := if v < 248 then [v] else (247 + nby v) :: beTo (nby v) v (nby v)

/-- The number of bytes that are read as digits to the base 256. -/
def val (l : List Nat) : Nat := l.foldl (fun a b => a * 256 + b) 0

/-- What the bytes begin with: the number, how many bytes, the error. -/
def take (l : List Nat) : Nat × Nat × Nat :=
  match l with
  | [] => (0, 0, 2)
  | b :: r => if b < 248 then (b, 1, 0) else if r.length < b - 247 then (0, 0, 2)
    else if size (val (r.take (b - 247))) ≠ 1 + (b - 247) then (0, 0, 4) else (val (r.take (b - 247)), 1 + (b - 247), 0)

theorem bitLen_pos (v : Nat) (h : 1 ≤ v) (hv : v < 2 ^ 64) : 1 ≤ Lib.bitLen v := by
  rw [Lib.bitLen_half v (by omega) hv]; omega

theorem bitLen_lt : ∀ (k v : Nat), v < 2 ^ 64 → Lib.bitLen v ≤ k → v < 2 ^ k
  | 0, v, hv, h => by
    rcases Nat.eq_zero_or_pos v with h0 | h0
    · subst h0; simp
    · have := bitLen_pos v h0 hv; omega
  | k + 1, v, hv, h => by
    rcases Nat.eq_zero_or_pos v with h0 | h0
    · subst h0; exact Nat.two_pow_pos _
    · rw [Lib.bitLen_half v (by omega) hv] at h
      have := bitLen_lt k (v / 2) (by omega) (by omega)
      rw [Nat.pow_succ]; omega

theorem pow256 (k : Nat) : 256 ^ k = 2 ^ (8 * k) := by rw [Nat.pow_mul]

theorem nby_le (v : Nat) (hv : v < 2 ^ 64) : nby v ≤ 8 := by
  have := Lib.bitLen_le v 64 (by omega) hv
  unfold nby; omega

theorem nby_pos (v : Nat) (h : 1 ≤ v) (hv : v < 2 ^ 64) : 1 ≤ nby v := by
  have := bitLen_pos v h hv
  unfold nby; omega

theorem lt_nby (v : Nat) (hv : v < 2 ^ 64) : v < 256 ^ nby v := by
  rw [pow256]
  exact bitLen_lt _ v hv (by unfold nby; omega)

/-- The least number of bytes. -/
theorem nby_least (v k : Nat) (hk : k ≤ 8) (h : v < 256 ^ k) : nby v ≤ k := by
  rw [pow256] at h
  have := Lib.bitLen_le v (8 * k) (by omega) h
  unfold nby; omega

theorem nby_eq (v k : Nat) (h1 : 1 ≤ k) (hk : k ≤ 8) (hl : 256 ^ (k - 1) ≤ v) (hv : v < 256 ^ k) : nby v = k := by
  have a := nby_least v k hk hv
  have hv64 : v < 2 ^ 64 := Nat.lt_of_lt_of_le hv (by rw [pow256]; exact Nat.pow_le_pow_right (by omega) (by omega))
  have b := lt_nby v hv64
  rcases Nat.lt_or_ge (nby v) k with h | h
  · have : 256 ^ nby v ≤ 256 ^ (k - 1) := Nat.pow_le_pow_right (by omega) (by omega)
    omega
  · omega

theorem nby_mono (a b : Nat) (hb : b < 2 ^ 64) (h : a ≤ b) : nby a ≤ nby b :=
  nby_least a _ (nby_le b hb) (Nat.lt_of_le_of_lt h (lt_nby b hb))

theorem length_beTo (k v i : Nat) : (beTo k v i).length = i := by simp [beTo]

theorem beTo_succ (k v i : Nat) : beTo k v (i + 1) = beTo k v i ++ [v / 256 ^ (k - 1 - i) % 256] := by
  simp [beTo, List.range_succ]

theorem beTo_lt (k v i : Nat) : ∀ b ∈ beTo k v i, b < 256 := by
  intro b hb
  obtain ⟨j, _, rfl⟩ := List.mem_map.1 hb
  exact Nat.mod_lt _ (by omega)

theorem val_snoc (l : List Nat) (b : Nat) : val (l ++ [b]) = val l * 256 + b := by simp [val]

theorem snoc_ind {α : Type} {P : List α → Prop} (h0 : P []) (h1 : ∀ l a, P l → P (l ++ [a])) : ∀ l, P l := by
  intro l
  rw [← List.reverse_reverse l]
  induction l.reverse with
  | nil => exact h0
  | cons a l ih => rw [List.reverse_cons]; exact h1 _ _ ih

theorem val_lt : ∀ (l : List Nat), (∀ b ∈ l, b < 256) → val l < 256 ^ l.length := by
  refine snoc_ind (fun _ => by simp [val]) ?_
  · intro l b ih h
    have h1 := ih (fun x hx => h x (by simp [hx]))
    have h2 := h b (by simp)
    rw [val_snoc, List.length_append, List.length_singleton, Nat.pow_succ]
    omega

theorem val_beTo (k v : Nat) : ∀ i, i ≤ k → val (beTo k v i) = v / 256 ^ (k - i) % 256 ^ i
  | 0, _ => by simp [beTo, val, Nat.mod_one]
  | i + 1, h => by
    rw [beTo_succ, val_snoc, val_beTo k v i (by omega)]
    have e : k - i = (k - (i + 1)) + 1 := by omega
    have e2 : k - 1 - i = k - (i + 1) := by omega
    rw [e, e2, Nat.pow_succ, ← Nat.div_div_eq_div_mul, Nat.pow_succ, Nat.mul_comm (256 ^ i) 256, Nat.mod_mul]
    omega

theorem val_be (k v : Nat) (h : v < 256 ^ k) : val (beTo k v k) = v := by
  rw [val_beTo k v k (Nat.le_refl _)]
  simp [Nat.mod_eq_of_lt h]

theorem length_put (v : Nat) : (put v).length = size v := by
  unfold put size
  split
  · rfl
  · simp [length_beTo]; omega

theorem size_pos (v : Nat) : 1 ≤ size v := by unfold size; split <;> omega
theorem size_le (v : Nat) (hv : v < 2 ^ 64) : size v ≤ 9 := by
  have := nby_le v hv
  unfold size; split <;> omega

theorem put_lt (v : Nat) (hv : v < 2 ^ 64) : ∀ b ∈ put v, b < 256 := by
  have := nby_le v hv
  intro b hb
  unfold put at hb
  split at hb
  · simp at hb; omega
  · rcases List.mem_cons.1 hb with h | h
    · omega
    · exact beTo_lt _ _ _ b h

/-- What is put is taken as it was, whatever stands behind. -/
theorem take_put (v : Nat) (hv : v < 2 ^ 64) (r : List Nat) : take (put v ++ r) = (v, size v, 0) := by
  unfold put
  by_cases h : v < 248
  · simp [take, h, size]
  · have h1 := nby_pos v (by omega) hv
    have h2 := nby_le v hv
    have e : (beTo (nby v) v (nby v) ++ r).take (nby v) = beTo (nby v) v (nby v) := by
      rw [List.take_append_of_le_length (by rw [length_beTo]; exact Nat.le_refl _), List.take_of_length_le (by rw [length_beTo]; exact Nat.le_refl _)]
    have e2 : 247 + nby v - 247 = nby v := by omega
    have e3 : ¬ 247 + nby v < 248 := by omega
    have e4 : ¬ (beTo (nby v) v (nby v) ++ r).length < nby v := by rw [List.length_append, length_beTo]; omega
    rw [if_neg h]
    simp only [List.cons_append, take, if_neg e3, e2, if_neg e4, e, val_be _ _ (lt_nby v hv)]
    have e5 : size v = 1 + nby v := by simp [size, h]
    rw [if_neg (by simpa using e5), e5]

/-- Cut off it is short. -/
theorem take_cut (v : Nat) (hv : v < 2 ^ 64) (j : Nat) (hj : j < size v) : take ((put v).take j) = (0, 0, 2) := by
  rcases Nat.eq_zero_or_pos j with h0 | h0
  · subst h0; simp [take]
  · obtain ⟨i, rfl⟩ : ∃ i, j = i + 1 := ⟨j - 1, by omega⟩
    have h : ¬ v < 248 := by
      intro h
      simp [size, h] at hj
    have h1 := nby_pos v (by omega) hv
    have e3 : ¬ 247 + nby v < 248 := by omega
    simp only [size, if_neg h] at hj
    unfold put
    rw [if_neg h, List.take_succ_cons]
    simp only [take, if_neg e3]
    rw [if_pos]
    rw [List.length_take, length_beTo]
    omega

theorem size_mono (a b : Nat) (hb : b < 2 ^ 64) (h : a ≤ b) : size a ≤ size b := by
  have := nby_mono a b hb h
  have p := size_pos b
  unfold size at *
  split <;> split <;> omega

/-- No form is the beginning of another number's. -/
theorem put_apart (a b : Nat) (ha : a < 2 ^ 64) (hb : b < 2 ^ 64) (hne : a ≠ b) : put a ≠ (put b).take (size a) := by
  intro h
  have e : put b = put a ++ (put b).drop (size a) := by
    conv => lhs; rw [← List.take_append_drop (size a) (put b)]
    rw [← h]
  have t1 := take_put a ha ((put b).drop (size a))
  have t2 := take_put b hb []
  rw [List.append_nil, e] at t2
  rw [t2] at t1
  exact hne (Prod.mk.inj t1).1.symm

/-- What take answers when all is well. -/
theorem take_val_lt (r : List Nat) (k : Nat) (h : ∀ b ∈ r, b < 256) : val (r.take k) < 256 ^ (r.take k).length :=
  val_lt _ fun b hb => h b (List.mem_of_mem_take hb)

/-- The document's answer: the digits of a number. -/
def digits (v : Nat) : List Nat := if v < 256 then [v] else digits (v / 256) ++ [v % 256]
decreasing_by omega

theorem nby_div (v : Nat) (h : 256 ≤ v) (hv : v < 2 ^ 64) : nby v = nby (v / 256) + 1 := by
  unfold nby
  rw [Lib.bitLen_shift8 v h (by omega)]
  omega

theorem beTo_div (k v : Nat) : ∀ i, i ≤ k → beTo (k + 1) v i = beTo k (v / 256) i
  | 0, _ => rfl
  | i + 1, h => by
    rw [beTo_succ, beTo_succ, beTo_div k v i (by omega)]
    have e : k + 1 - 1 - i = (k - 1 - i) + 1 := by omega
    rw [e, Nat.pow_succ, Nat.mul_comm, ← Nat.div_div_eq_div_mul]

theorem digits_eq (v : Nat) (h : 1 ≤ v) (hv : v < 2 ^ 64) : digits v = beTo (nby v) v (nby v) := by
  rw [digits]
  by_cases h2 : v < 256
  · rw [if_pos h2, nby_eq v 1 (by omega) (by omega) (by simpa using h) (by simpa using h2)]
    simp [beTo, List.range_succ]
    omega
  · rw [if_neg h2, nby_div v (by omega) hv, beTo_succ, beTo_div _ _ _ (Nat.le_refl _), digits_eq (v / 256) (by omega) (by omega)]
    simp
termination_by v
decreasing_by omega

theorem beTo_val : ∀ (l : List Nat), (∀ b ∈ l, b < 256) → beTo l.length (val l) l.length = l := by
  refine snoc_ind (fun _ => rfl) ?_
  · intro l b ih h
    have hb := h b (by simp)
    have e := ih (fun x hx => h x (by simp [hx]))
    rw [List.length_append, List.length_singleton, beTo_succ, beTo_div _ _ _ (Nat.le_refl _), val_snoc]
    have e1 : (val l * 256 + b) / 256 = val l := by omega
    rw [e1, e]
    simp
    omega

/-- The document's answer: a number read, and put anew, is the same bytes just if its size is theirs. -/
theorem put_same (b : Nat) (r : List Nat) (hb : 248 ≤ b) (hb2 : b < 256) (hl : b - 247 ≤ r.length) (h : ∀ x ∈ r, x < 256) :
    (put (val (r.take (b - 247))) = (b :: r).take (1 + (b - 247)) ↔ size (val (r.take (b - 247))) = 1 + (b - 247)) := by
  have hlen : (r.take (b - 247)).length = b - 247 := by rw [List.length_take]; omega
  have hlt : ∀ x ∈ r.take (b - 247), x < 256 := fun x hx => h x (List.mem_of_mem_take hx)
  have e : (b :: r).take (1 + (b - 247)) = b :: r.take (b - 247) := by rw [Nat.add_comm, List.take_succ_cons]
  rw [e]
  constructor
  · intro hp
    have := congrArg List.length hp
    rw [length_put, List.length_cons, hlen] at this
    omega
  · intro hs
    generalize hv : val (r.take (b - 247)) = v at *
    have h248 : ¬ v < 248 := by
      intro h; simp [size, h] at hs; omega
    have hn : nby v = b - 247 := by simp [size, h248] at hs; omega
    rw [put, if_neg h248, hn]
    have := beTo_val (r.take (b - 247)) hlt
    rw [hlen, hv] at this
    rw [this, show 247 + (b - 247) = b from by omega]

end Go.Proofs.Ytcnjjabjdepjgaa.Num
/- num.Size of any uint64 is the size of its form ('Num.size'); the world stays as it was. Pick, of the document's answer, gives a place below n. -/
namespace Go.Proofs.Ytcnjjabjdepjgaa
open Go.RowKit

theorem ret_int {k : IntKind} {a b : Int} (h : a = b) : Ending.returned (.int k a) = .returned (.int k b) := by rw [h]

/-- A place below n, by any number. -/
def pick (k n : Int) : Int := if n < 1 then 0 else if k.tmod n < 0 then k.tmod n + n else k.tmod n

theorem pick_lt (k n : Int) (h : 1 ≤ n) : 0 ≤ pick k n ∧ pick k n < n := by
  unfold pick
  have h1 := Int.tmod_lt_of_pos k (show 0 < n by omega)
  have h2 := Int.lt_tmod_of_pos k (show 0 < n by omega)
  split
  · omega
  · split <;> omega

end Go.Proofs.Ytcnjjabjdepjgaa
/- Same, of the document's answer, of any two slices of bytes says whether they hold the same bytes; it only reads. -/
namespace Go.Proofs.Ytcnjjabjdepjgaa
open Go.RowKit Mem

/-- The ending: a bool; only draws. -/
def Says (b : Bool) (w : World) (e : Ending) (w' : World) : Prop := e = .returned (.bool b) ∧ ∃ q, w' = w.drewN q

def SameRel (w : World) (n : Nat) (xs ys : List Nat) (i : Value) (wr : World) : Prop :=
  ∃ k : Nat, k ≤ n ∧ i = .int .i64 k ∧ xs.take k = ys.take k ∧ ∃ q, wr = w.drewN q

theorem take_step {xs ys : List Nat} {k b : Nat} (h : xs.take k = ys.take k) (hx : xs[k]? = some b) (hy : ys[k]? = some b) : xs.take (k + 1) = ys.take (k + 1) := by
  rw [List.take_add_one, List.take_add_one, h, hx, hy]
theorem take_part {xs ys : List Nat} {k a b : Nat} (hx : xs[k]? = some a) (hy : ys[k]? = some b) (h : a ≠ b) : decide (xs = ys) = false := by
  rw [decide_eq_false_iff_not]
  rintro rfl
  rw [hx] at hy
  cases hy
  exact h rfl

set_option maxHeartbeats 1000000 in
theorem same_any (A B : Option Addr) (n m c d : Nat) (xs ys : List Nat) (w : World) (hx : Rd w A n c (cs xs)) (hy : Rd w B m d (cs ys)) :
    Calls Try.prog 14 #[.slice A n c, .slice B m d] w (Says (decide (xs = ys)) w) := by
  have lx := hx.len
  have ly := hy.len
  rw [length_cs] at lx ly
  have bx := hx.le
  have cx := hx.cap
  unfold maxLen at cx
  by_cases hnm : n = m
  · subst hnm
    have LX := Lib.hid lx
    have LY := Lib.hid ly
    clear lx ly
    go_enter Try.func14, Try.ntmps14
    go_wp2
    go_loopw [5] (SameRel w n xs ys) (fun i _ => n - (intOf i).toNat)
    case atStart => exact ⟨0, Nat.zero_le _, rfl, rfl, 0, rfl⟩
    case round =>
      obtain ⟨k, hk, rfl, hpre, q, rfl⟩ := hrel
      have HP := Lib.hid hpre
      clear hpre
      by_cases hlt : k < n
      · obtain ⟨ad, a, rfl, ha, hca⟩ := hx.byte hlt
        obtain ⟨bd, b, rfl, hb, hcb⟩ := hy.byte hlt
        have HA := Lib.hid ha
        have HB := Lib.hid hb
        clear ha hb
        by_cases hab : a = b
        · have hne : ((a : Int) != (b : Int)) = false := by simp [hab]
          have HAB := Lib.hid hab
          clear hab
          go_wp2
          go_quiet (fail)
          go_wp2
          exact ⟨⟨k + 1, by omega, by simp, take_step HP.out HA.out (by rw [HB.out, HAB.out]), q + nq, rfl⟩, by simp [intOf]; omega⟩
        · have hne : ((a : Int) != (b : Int)) = true := by rw [bne_iff_ne]; omega
          have HAB := Lib.hid hab
          clear hab
          go_wp2
          go_quiet (fail)
          go_wp2
          go_ret
          exact ⟨by rw [take_part HA.out HB.out HAB.out]; rfl, q + nq, by rw [World.drewN_drewN]⟩
      · go_wp2
        go_ret
        refine ⟨?_, q, rfl⟩
        have h1 := LX.out
        have h2 := LY.out
        have h3 := HP.out
        rw [List.take_of_length_le (by omega), List.take_of_length_le (by omega)] at h3
        rw [h3, decide_eq_true rfl]
        rfl
  · have hne : ((n : Int) != (m : Int)) = true := by rw [bne_iff_ne]; omega
    go_enter Try.func14, Try.ntmps14
    go_wp2
    go_ret
    refine ⟨?_, 0, rfl⟩
    rw [show decide (xs = ys) = false from by rw [decide_eq_false_iff_not]; rintro rfl; omega]
    rfl

end Go.Proofs.Ytcnjjabjdepjgaa
/- What other layers ask of num and of the document's own answers of layer 1: a number put behind nothing, two slices of bytes held against each other, as contracts that tell 'what was there stays'. -/
namespace Go.Proofs.Ytcnjjabjdepjgaa
open Go.RowKit Mem

/-- The document's Same. -/
theorem same_tells (A B : Option Addr) (n m c d : Nat) (xs ys : List Nat) (b : Bool) (w : World) (hx : Rd w A n c (cs xs)) (hy : Rd w B m d (cs ys)) (hb : decide (xs = ys) = b) :
    Calls Try.prog 14 #[.slice A n c, .slice B m d] w (Tells b w) := by
  refine (same_any A B n m c d xs ys w hx hy).mono fun e w' ⟨he, q, hq⟩ => ?_
  subst hb
  subst hq
  exact ⟨he, below_drewN (Below.refl _ _) q⟩

end Go.Proofs.Ytcnjjabjdepjgaa
