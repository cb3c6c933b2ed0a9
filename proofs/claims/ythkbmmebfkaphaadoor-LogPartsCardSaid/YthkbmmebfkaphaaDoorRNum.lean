/-
  Texts of earlier layers, as one.
-/
import Derived.Lib.BitFns
import Derived.Test.YthkbmmebfkaphaaDoorShelf
import Derived.Test.YthkbmmebfkaphaaDoorRBase
/- Plain mathematics of layer 1 (num), without any program: the form of a number as a list of bytes, and how it is read back. Every fact is for numbers below 2^64 where it says so. -/
namespace Go.Proofs.YthkbmmebfkaphaaDoor.Num

/-- How many bytes a number takes. -/
def nby (v : Nat) : Nat := (Lib.bitLen v + 7) / 8

/-- The size of a number's form. -/
def size (v : Nat) : Nat := if v < 248 then 1 else 1 + nby v

/-- The first i of the k bytes of v, the highest first. -/
def beTo (k v i : Nat) : List Nat := (List.range i).map fun j => v / 256 ^ (k - 1 - j) % 256

/-- A number's form. -/
def put (v : Nat) : List Nat := if v < 248 then [v] else (247 + nby v) :: beTo (nby v) v (nby v)

/-- The number of bytes that are read as digits to the base 256. -/
def val (l : List Nat) : Nat := l.foldl (fun a b => a * 256 + b) 0

/-- What the bytes begin with: the number, how many bytes, the error. -/
def take (l : List Nat) : Nat × Nat × Nat :=
  match l with
  | [] => (0, 0, 2)
  | b :: r => if b < 248 then (b, 1, 0) else if r.length < b - 247 then (0, 0, 2)
    else if size (val (r.take (b - 247))) ≠ 1 + (b - 247) then (0, 0, 4) else (val (r.take (b - 247)), 1 + (b - 247), 0)

theorem bitLen_pos (v : Nat) (h : 1 ≤ v) (hv : v < 2 ^ 64) : 1 ≤ Lib.bitLen v := by
  rw [Lib.bitLen_half v (by omega) hv]; omega

theorem bitLen_lt : ∀ (k v : Nat), v < 2 ^ 64 → Lib.bitLen v ≤ k → v < 2 ^ k
  | 0, v, hv, h => by
    rcases Nat.eq_zero_or_pos v with h0 | h0
    · subst h0; simp
    · have := bitLen_pos v h0 hv; omega
  | k + 1, v, hv, h => by
    rcases Nat.eq_zero_or_pos v with h0 | h0
    · subst h0; exact Nat.two_pow_pos _
    · rw [Lib.bitLen_half v (by omega) hv] at h
      have := bitLen_lt k (v / 2) (by omega) (by omega)
      rw [Nat.pow_succ]; omega

theorem pow256 (k : Nat) : 256 ^ k = 2 ^ (8 * k) := by rw [Nat.pow_mul]

theorem nby_le (v : Nat) (hv : v < 2 ^ 64) : nby v ≤ 8 := by
  have := Lib.bitLen_le v 64 (by omega) hv
  unfold nby; omega

theorem nby_pos (v : Nat) (h : 1 ≤ v) (hv : v < 2 ^ 64) : 1 ≤ nby v := by
  have := bitLen_pos v h hv
  unfold nby; omega

theorem lt_nby (v : Nat) (hv : v < 2 ^ 64) : v < 256 ^ nby v := by
  rw [pow256]
  exact bitLen_lt _ v hv (by unfold nby; omega)

/-- The least number of bytes. -/
theorem nby_least (v k : Nat) (hk : k ≤ 8) (h : v < 256 ^ k) : nby v ≤ k := by
  rw [pow256] at h
  have := Lib.bitLen_le v (8 * k) (by omega) h
  unfold nby; omega

theorem nby_eq (v k : Nat) (h1 : 1 ≤ k) (hk : k ≤ 8) (hl : 256 ^ (k - 1) ≤ v) (hv : v < 256 ^ k) : nby v = k := by
  have a := nby_least v k hk hv
  have hv64 : v < 2 ^ 64 := Nat.lt_of_lt_of_le hv (by rw [pow256]; exact Nat.pow_le_pow_right (by omega) (by omega))
  have b := lt_nby v hv64
  rcases Nat.lt_or_ge (nby v) k with h | h
  · have : 256 ^ nby v ≤ 256 ^ (k - 1) := Nat.pow_le_pow_right (by omega) (by omega)
    omega
  · omega

theorem nby_mono (a b : Nat) (hb : b < 2 ^ 64) (h : a ≤ b) : nby a ≤ nby b :=
  nby_least a _ (nby_le b hb) (Nat.lt_of_le_of_lt h (lt_nby b hb))

theorem length_beTo (k v i : Nat) : (beTo k v i).length = i := by simp [beTo]

theorem beTo_succ (k v i : Nat) : beTo k v (i + 1) = beTo k v i ++ [v / 256 ^ (k - 1 - i) % 256] := by
  simp [beTo, List.range_succ]

theorem beTo_lt (k v i : Nat) : ∀ b ∈ beTo k v i, b < 256 := by
  intro b hb
  obtain ⟨j, _, rfl⟩ := List.mem_map.1 hb
  exact Nat.mod_lt _ (by omega)

theorem val_snoc (l : List Nat) (b : Nat) : val (l ++ [b]) = val l * 256 + b := by simp [val]

theorem snoc_ind {α : Type} {P : List α → Prop} (h0 : P []) (h1 : ∀ l a, P l → P (l ++ [a])) : ∀ l, P l := by
  intro l
  rw [← List.reverse_reverse l]
  induction l.reverse with
  | nil => exact h0
  | cons a l ih => rw [List.reverse_cons]; exact h1 _ _ ih

theorem val_lt : ∀ (l : List Nat), (∀ b ∈ l, b < 256) → val l < 256 ^ l.length := by
  refine snoc_ind (fun _ => by simp [val]) ?_
  · intro l b ih h
    have h1 := ih (fun x hx => h x (by simp [hx]))
    have h2 := h b (by simp)
    rw [val_snoc, List.length_append, List.length_singleton, Nat.pow_succ]
    omega

theorem val_beTo (k v : Nat) : ∀ i, i ≤ k → val (beTo k v i) = v / 256 ^ (k - i) % 256 ^ i
  | 0, _ => by simp [beTo, val, Nat.mod_one]
  | i + 1, h => by
    rw [beTo_succ, val_snoc, val_beTo k v i (by omega)]
    have e : k - i = (k - (i + 1)) + 1 := by omega
    have e2 : k - 1 - i = k - (i + 1) := by omega
    rw [e, e2, Nat.pow_succ, ← Nat.div_div_eq_div_mul, Nat.pow_succ, Nat.mul_comm (256 ^ i) 256, Nat.mod_mul]
    omega

theorem val_be (k v : Nat) (h : v < 256 ^ k) : val (beTo k v k) = v := by
  rw [val_beTo k v k (Nat.le_refl _)]
  simp [Nat.mod_eq_of_lt h]

theorem length_put (v : Nat) : (put v).length = size v := by
  unfold put size
  split
  · rfl
  · simp [length_beTo]; omega

theorem size_pos (v : Nat) : 1 ≤ size v := by unfold size; split <;> omega
theorem size_le (v : Nat) (hv : v < 2 ^ 64) : size v ≤ 9 := by
  have := nby_le v hv
  unfold size; split <;> omega

theorem put_lt (v : Nat) (hv : v < 2 ^ 64) : ∀ b ∈ put v, b < 256 := by
  have := nby_le v hv
  intro b hb
  unfold put at hb
  split at hb
  · simp at hb; omega
  · rcases List.mem_cons.1 hb with h | h
    · omega
    · exact beTo_lt _ _ _ b h

/-- What is put is taken as it was, whatever stands behind. -/
theorem take_put (v : Nat) (hv : v < 2 ^ 64) (r : List Nat) : take (put v ++ r) = (v, size v, 0) := by
  unfold put
  by_cases h : v < 248
  · simp [take, h, size]
  · have h1 := nby_pos v (by omega) hv
    have h2 := nby_le v hv
    have e : (beTo (nby v) v (nby v) ++ r).take (nby v) = beTo (nby v) v (nby v) := by
      rw [List.take_append_of_le_length (by rw [length_beTo]; exact Nat.le_refl _), List.take_of_length_le (by rw [length_beTo]; exact Nat.le_refl _)]
    have e2 : 247 + nby v - 247 = nby v := by omega
    have e3 : ¬ 247 + nby v < 248 := by omega
    have e4 : ¬ (beTo (nby v) v (nby v) ++ r).length < nby v := by rw [List.length_append, length_beTo]; omega
    rw [if_neg h]
    simp only [List.cons_append, take, if_neg e3, e2, if_neg e4, e, val_be _ _ (lt_nby v hv)]
    have e5 : size v = 1 + nby v := by simp [size, h]
    rw [if_neg (by simpa using e5), e5]

/-- Cut off it is short. -/
theorem take_cut (v : Nat) (hv : v < 2 ^ 64) (j : Nat) (hj : j < size v) : take ((put v).take j) = (0, 0, 2) := by
  rcases Nat.eq_zero_or_pos j with h0 | h0
  · subst h0; simp [take]
  · obtain ⟨i, rfl⟩ : ∃ i, j = i + 1 := ⟨j - 1, by omega⟩
    have h : ¬ v < 248 := by
      intro h
      simp [size, h] at hj
    have h1 := nby_pos v (by omega) hv
    have e3 : ¬ 247 + nby v < 248 := by omega
    simp only [size, if_neg h] at hj
    unfold put
    rw [if_neg h, List.take_succ_cons]
    simp only [take, if_neg e3]
    rw [if_pos]
    rw [List.length_take, length_beTo]
    omega

theorem size_mono (a b : Nat) (hb : b < 2 ^ 64) (h : a ≤ b) : size a ≤ size b := by
  have := nby_mono a b hb h
  have p := size_pos b
  unfold size at *
  split <;> split <;> omega

/-- No form is the beginning of another number's. -/
theorem put_apart (a b : Nat) (ha : a < 2 ^ 64) (hb : b < 2 ^ 64) (hne : a ≠ b) : put a ≠ (put b).take (size a) := by
  intro h
  have e : put b = put a ++ (put b).drop (size a) := by
    conv => lhs; rw [← List.take_append_drop (size a) (put b)]
    rw [← h]
  have t1 := take_put a ha ((put b).drop (size a))
  have t2 := take_put b hb []
  rw [List.append_nil, e] at t2
  rw [t2] at t1
  exact hne (Prod.mk.inj t1).1.symm

/-- What take answers when all is well. -/
theorem take_val_lt (r : List Nat) (k : Nat) (h : ∀ b ∈ r, b < 256) : val (r.take k) < 256 ^ (r.take k).length :=
  val_lt _ fun b hb => h b (List.mem_of_mem_take hb)

/-- The document's answer: the digits of a number. -/
def digits (v : Nat) : List Nat := if v < 256 then [v] else digits (v / 256) ++ [v % 256]
decreasing_by omega

theorem nby_div (v : Nat) (h : 256 ≤ v) (hv : v < 2 ^ 64) : nby v = nby (v / 256) + 1 := by
  unfold nby
  rw [Lib.bitLen_shift8 v h (by omega)]
  omega

theorem beTo_div (k v : Nat) : ∀ i, i ≤ k → beTo (k + 1) v i = beTo k (v / 256) i
  | 0, _ => rfl
  | i + 1, h => by
    rw [beTo_succ, beTo_succ, beTo_div k v i (by omega)]
    have e : k + 1 - 1 - i = (k - 1 - i) + 1 := by omega
    rw [e, Nat.pow_succ, Nat.mul_comm, ← Nat.div_div_eq_div_mul]

theorem digits_eq (v : Nat) (h : 1 ≤ v) (hv : v < 2 ^ 64) : digits v = beTo (nby v) v (nby v) := by
  rw [digits]
  by_cases h2 : v < 256
  · rw [if_pos h2, nby_eq v 1 (by omega) (by omega) (by simpa using h) (by simpa using h2)]
    simp [beTo, List.range_succ]
    omega
  · rw [if_neg h2, nby_div v (by omega) hv, beTo_succ, beTo_div _ _ _ (Nat.le_refl _), digits_eq (v / 256) (by omega) (by omega)]
    simp
termination_by v
decreasing_by omega

theorem beTo_val : ∀ (l : List Nat), (∀ b ∈ l, b < 256) → beTo l.length (val l) l.length = l := by
  refine snoc_ind (fun _ => rfl) ?_
  · intro l b ih h
    have hb := h b (by simp)
    have e := ih (fun x hx => h x (by simp [hx]))
    rw [List.length_append, List.length_singleton, beTo_succ, beTo_div _ _ _ (Nat.le_refl _), val_snoc]
    have e1 : (val l * 256 + b) / 256 = val l := by omega
    rw [e1, e]
    simp
    omega

/-- The document's answer: a number read, and put anew, is the same bytes just if its size is theirs. -/
theorem put_same (b : Nat) (r : List Nat) (hb : 248 ≤ b) (hb2 : b < 256) (hl : b - 247 ≤ r.length) (h : ∀ x ∈ r, x < 256) :
    (put (val (r.take (b - 247))) = (b :: r).take (1 + (b - 247)) ↔ size (val (r.take (b - 247))) = 1 + (b - 247)) := by
  have hlen : (r.take (b - 247)).length = b - 247 := by rw [List.length_take]; omega
  have hlt : ∀ x ∈ r.take (b - 247), x < 256 := fun x hx => h x (List.mem_of_mem_take hx)
  have e : (b :: r).take (1 + (b - 247)) = b :: r.take (b - 247) := by rw [Nat.add_comm, List.take_succ_cons]
  rw [e]
  constructor
  · intro hp
    have := congrArg List.length hp
    rw [length_put, List.length_cons, hlen] at this
    omega
  · intro hs
    generalize hv : val (r.take (b - 247)) = v at *
    have h248 : ¬ v < 248 := by
      intro h; simp [size, h] at hs; omega
    have hn : nby v = b - 247 := by simp [size, h248] at hs; omega
    rw [put, if_neg h248, hn]
    have := beTo_val (r.take (b - 247)) hlt
    rw [hlen, hv] at this
    rw [this, show 247 + (b - 247) = b from by omega]

end Go.Proofs.YthkbmmebfkaphaaDoor.Num
/- num.Size of any uint64 is the size of its form ('Num.size'); the world stays as it was. Pick, of the document's answer, gives a place below n. -/
namespace Go.Proofs.YthkbmmebfkaphaaDoor
open Go.RowKit

theorem ret_int {k : IntKind} {a b : Int} (h : a = b) : Ending.returned (.int k a) = .returned (.int k b) := by rw [h]

set_option maxRecDepth 20000 in
set_option maxHeartbeats 400000 in
theorem size_any (x : Int) (w : World) (h0 : 0 ≤ x) (h1 : x ≤ 18446744073709551615) :
    Calls Tryd.prog 51 #[.int .u64 x] w fun e w' => e = .returned (.int .i64 (Num.size x.toNat)) ∧ w = w' := by
  have hb := Lib.bitLen_le x.toNat 64 (by omega) (by omega)
  by_cases hx : x < 248
  · have hn : Num.size x.toNat = 1 := by unfold Num.size; rw [if_pos (by omega)]
    have H := Lib.hid hn
    clear hn
    go_enter Tryd.func51, Tryd.ntmps51
    go_wp2
    go_ret
    exact ⟨ret_int (by rw [H.out]; rfl), rfl⟩
  · have hn : (Num.size x.toNat : Int) = 1 + ((Lib.bitLen x.toNat : Int) + 7) / 8 := by unfold Num.size Num.nby; rw [if_neg (by omega)]; omega
    have H := Lib.hid hn
    clear hn
    go_enter Tryd.func51, Tryd.ntmps51
    go_wp2_with (go_at_call 63; refine (Tryd.bits_Len64 _ _ h0 h1).mono ?_; rintro e w' ⟨rfl, rfl⟩)
    go_ret
    exact ⟨ret_int (by rw [H.out]), rfl⟩

/-- A place below n, by any number. -/
def pick (k n : Int) : Int := if n < 1 then 0 else if k.tmod n < 0 then k.tmod n + n else k.tmod n

theorem pick_lt (k n : Int) (h : 1 ≤ n) : 0 ≤ pick k n ∧ pick k n < n := by
  unfold pick
  have h1 := Int.tmod_lt_of_pos k (show 0 < n by omega)
  have h2 := Int.lt_tmod_of_pos k (show 0 < n by omega)
  split
  · omega
  · split <;> omega

end Go.Proofs.YthkbmmebfkaphaaDoor
/- num.Put of any bytes and any uint64 answers new memory that holds the bytes and the number's form behind them; what was there stays. -/
namespace Go.Proofs.YthkbmmebfkaphaaDoor
open Go.RowKit Mem

theorem info5 : (Tryd.prog.info? 5).map (fun i => (i.zero, i.size, i.bytes)) = some (some (.int .u8 0), 1, 1) := by kernel_rfl

/-- The ending: a slice in memory of the call's own that holds bs. -/
def Own (w : World) (bs : List Nat) (e : Ending) (w' : World) : Prop :=
  ∃ v, e = .returned v ∧ w'.ownsRow w.heap.size 5 1 v bs.length (cs bs) ∧ Below w.heap.size w w'

theorem put_small_end {A : Option Addr} {n c : Nat} {bs : List Nat} {x : Int} {w w1 w2 w3 : World} {o : Obj} (hr : Rd w A n c (cs bs)) (h0 : 0 ≤ x) (h1 : x < 248)
    (hg1 : w.grownBy w1 none) (hg2 : w1.grownBy w2 (some w.heap.size)) (hg3 : (w2.alloc o).grownBy w3 (some w.heap.size))
    (hown : w3.ownsRow w.heap.size 5 1 (.slice (some ⟨w.heap.size, 0, none⟩) (n + 1) (n + 1)) (n + 1) (cs bs ++ [.int .u8 x])) :
    Own w (bs ++ Num.put x.toNat) (.returned (.slice (some ⟨w.heap.size, 0, none⟩) (n + 1) (n + 1))) w3 := by
  have hp : Num.put x.toNat = [x.toNat] := by unfold Num.put; rw [if_pos (by omega)]
  have hl : (bs ++ Num.put x.toNat).length = n + 1 := by rw [hp, List.length_append, ← hr.len, length_cs]; rfl
  have hb1 : Below w.heap.size w w1 := (Below.refl _ _).grown hg1 (Nat.le_refl _) (fun k h => by cases h)
  have hb2 : Below w.heap.size w w2 := hb1.grown hg2 hb1.size (fun k h => by cases h; exact Nat.le_refl _)
  have hb3 : Below w.heap.size w w3 := (hb2.alloc hb2.size o).grown hg3 (by have := hb2.size; simp; omega) (fun k h => by cases h; exact Nat.le_refl _)
  refine ⟨_, rfl, ?_, hb3⟩
  rw [hl, cs_append, hp]
  have : cs [x.toNat] = [.int .u8 x] := by simp [cs, Int.toNat_of_nonneg h0]
  rw [this]
  exact hown

set_option maxRecDepth 20000 in
set_option maxHeartbeats 400000 in
theorem put_small (A : Option Addr) (n c : Nat) (bs : List Nat) (x : Int) (w : World) (hr : Rd w A n c (cs bs)) (h0 : 0 ≤ x) (h1 : x < 248) (hn : n ≤ 70368744177664) :
    Calls Tryd.prog 31 #[.slice A n c, .int .u64 x] w (Own w (bs ++ Num.put x.toNat)) := by
  obtain ⟨i0, hi, hz0, hz1, hz2⟩ := info_parts info5
  have hs : Num.size x.toNat = 1 := by unfold Num.size; rw [if_pos (by omega)]
  have hsz : ∀ W : World, Calls Tryd.prog 51 #[.int .u64 x] W fun e w' => e = .returned (.int .i64 1) ∧ W = w' := by
    intro W
    have := size_any x W h0 (by omega)
    rw [hs] at this
    exact this
  have HS := Lib.hid hsz
  clear hsz hs
  go_enter Tryd.func31, Tryd.ntmps31
  go_wp2_with (first
    | (go_at_call 51; refine (HS.out _).mono ?_; rintro e w' ⟨rfl, rfl⟩)
    | (at_make; refine wpList_make_own _ rfl _ _ 32 rfl w.heap.size 5 i0 _ 1 Tryd.underlying32 hi hz0 hz1 .i64 .i64 _ (n + 1) rfl rfl (by omega) (by rw [hz2]; omega) (by unfold maxLen; omega) (Nat.le_refl _) ?_; intro w1 hown1 hg1)
    | (at_builtin; refine wpList_append_fits_rd rfl (.tmp 16) (.tmp 17) 32 rfl w.heap.size 5 i0 Tryd.underlying32 hi hz1 _ 0 (n + 1) [] rfl hown1 A n c (cs bs) rfl (hr.below ((Below.refl _ _).grown hg1 (Nat.le_refl _) (fun k h => by cases h))) (cs_one bs) (by omega) ?_; intro w2 hown2 hg2; simp only [Nat.zero_add, List.nil_append] at hown2)
    | (at_builtin; refine wpList_append_fits_rd rfl (.tmp 21) (.tmp 24) 32 rfl w.heap.size 5 i0 Tryd.underlying32 hi hz1 _ n (n + 1) (cs bs) rfl (hown2.alloc _) _ 1 1 [.int .u8 x] rfl (Rd.one _ _ _) (by intro u hu; simp at hu; subst hu; rfl) (by omega) ?_; intro w3 hown3 hg3))
  go_ret
  exact put_small_end hr h0 h1 hg1 hg2 hg3 hown3

theorem put_below {w w1 w2 w3 : World} {o : Obj} (hg1 : w.grownBy w1 none) (hg2 : w1.grownBy w2 (some w.heap.size)) (hg3 : (w2.alloc o).grownBy w3 (some w.heap.size)) : Below w.heap.size w w3 := by
  have hb1 : Below w.heap.size w w1 := (Below.refl _ _).grown hg1 (Nat.le_refl _) (fun k h => by cases h)
  have hb2 : Below w.heap.size w w2 := hb1.grown hg2 hb1.size (fun k h => by cases h; exact Nat.le_refl _)
  exact (hb2.alloc hb2.size o).grown hg3 (by have := hb2.size; simp; omega) (fun k h => by cases h; exact Nat.le_refl _)

/-- What holds at each round's head: j bytes of the number are behind. -/
def PutRel (w : World) (n k v : Nat) (bs : List Nat) (o i : Value) (wr : World) : Prop :=
  ∃ j : Nat, j ≤ k ∧ i = .int .i64 j ∧ o = .slice (some ⟨w.heap.size, 0, none⟩) (n + 1 + j) (n + (k + 1)) ∧
    wr.ownsRow w.heap.size 5 1 (.slice (some ⟨w.heap.size, 0, none⟩) (n + 1 + j) (n + (k + 1))) (n + 1 + j) (cs (bs ++ (247 + k) :: Num.beTo k v j)) ∧ Below w.heap.size w wr

theorem put_start {n k : Nat} {bs : List Nat} {x : Int} {w w3 : World}
    (hown : w3.ownsRow w.heap.size 5 1 (.slice (some ⟨w.heap.size, 0, none⟩) (n + 1) (n + (k + 1))) (n + 1) (cs bs ++ [.int .u8 (247 + (k : Int))])) (hb : Below w.heap.size w w3) :
    PutRel w n k x.toNat bs (.slice (some ⟨w.heap.size, 0, none⟩) (n + 1) (n + (k + 1))) (.int .i64 0) w3 := by
  refine ⟨0, Nat.zero_le _, rfl, rfl, ?_, hb⟩
  have : cs (bs ++ (247 + k) :: Num.beTo k x.toNat 0) = cs bs ++ [.int .u8 (247 + (k : Int))] := by
    rw [cs_append]; simp [cs, Num.beTo]
  rw [this]
  exact hown

theorem put_step {n k j : Nat} {bs : List Nat} {x : Int} {w wr w4 : World} {o : Obj} (h0 : 0 ≤ x) (hj : j < k)
    (hown : w4.ownsRow w.heap.size 5 1 (.slice (some ⟨w.heap.size, 0, none⟩) (n + 1 + j + 1) (n + (k + 1))) (n + 1 + j + 1)
      (cs (bs ++ (247 + k) :: Num.beTo k x.toNat j) ++ [.int .u8 (x / 2 ^ (8 * (k - 1 - j)) % 256)]))
    (hb : Below w.heap.size w wr) (hg : (wr.alloc o).grownBy w4 (some w.heap.size)) :
    PutRel w n k x.toNat bs (.slice (some ⟨w.heap.size, 0, none⟩) (n + 1 + j + 1) (n + (k + 1))) (.int .i64 ((j : Int) + 1)) w4 := by
  refine ⟨j + 1, hj, by simp, by rw [Nat.add_assoc (n + 1) j 1], ?_, (hb.alloc hb.size o).grown hg (by have := hb.size; simp; omega) (fun k h => by cases h; exact Nat.le_refl _)⟩
  have e : (x / 2 ^ (8 * (k - 1 - j)) % 256) = ((x.toNat / 256 ^ (k - 1 - j) % 256 : Nat) : Int) := by
    obtain ⟨v, rfl⟩ := Int.eq_ofNat_of_zero_le h0
    rw [Int.toNat_natCast, Num.pow256]
    generalize 8 * (k - 1 - j) = m
    rw [Int.natCast_emod, Int.natCast_ediv, Int.natCast_pow]
    rfl
  have : cs (bs ++ (247 + k) :: Num.beTo k x.toNat (j + 1)) = cs (bs ++ (247 + k) :: Num.beTo k x.toNat j) ++ [.int .u8 (x / 2 ^ (8 * (k - 1 - j)) % 256)] := by
    rw [e, Num.beTo_succ]; simp [cs]
  rw [this, ← Nat.add_assoc (n + 1) j 1]
  exact hown

theorem put_end {A : Option Addr} {n c k : Nat} {bs : List Nat} {x : Int} {w wr : World} (hr : Rd w A n c (cs bs)) (h0 : 248 ≤ x) (hk : Num.nby x.toNat = k)
    (hown : wr.ownsRow w.heap.size 5 1 (.slice (some ⟨w.heap.size, 0, none⟩) (n + 1 + k) (n + (k + 1))) (n + 1 + k) (cs (bs ++ (247 + k) :: Num.beTo k x.toNat k)))
    (hb : Below w.heap.size w wr) : Own w (bs ++ Num.put x.toNat) (.returned (.slice (some ⟨w.heap.size, 0, none⟩) (n + 1 + k) (n + (k + 1)))) wr := by
  have hp : Num.put x.toNat = (247 + k) :: Num.beTo k x.toNat k := by unfold Num.put; rw [if_neg (by omega), hk]
  have hl : (bs ++ Num.put x.toNat).length = n + 1 + k := by
    have := hr.len
    rw [length_cs] at this
    rw [hp, List.length_append, this, List.length_cons, Num.length_beTo]; omega
  refine ⟨_, rfl, ?_, hb⟩
  rw [hl, hp]
  exact hown

set_option maxRecDepth 20000 in
set_option maxHeartbeats 1000000 in
theorem put_big (A : Option Addr) (n c k : Nat) (bs : List Nat) (x : Int) (w : World) (hr : Rd w A n c (cs bs)) (h0 : 248 ≤ x) (h1 : x ≤ 18446744073709551615) (hn : n ≤ 70368744177664)
    (hk : Num.nby x.toNat = k) (hk1 : 1 ≤ k) (hk8 : k ≤ 8) :
    Calls Tryd.prog 31 #[.slice A n c, .int .u64 x] w (Own w (bs ++ Num.put x.toNat)) := by
  obtain ⟨i0, hi, hz0, hz1, hz2⟩ := info_parts info5
  have hs : Num.size x.toNat = k + 1 := by unfold Num.size; rw [if_neg (by omega), hk]; omega
  have hsz : ∀ W : World, Calls Tryd.prog 51 #[.int .u64 x] W fun e w' => e = .returned (.int .i64 ((k : Int) + 1)) ∧ W = w' := by
    intro W
    have := size_any x W (by omega) h1
    rw [hs] at this
    exact this
  have HS := Lib.hid hsz
  have HK := Lib.hid hk
  clear hsz hs hk
  have hne : ((k : Int) + 1 == 1) = false := by simp; omega
  go_enter Tryd.func31, Tryd.ntmps31
  go_wp2_with (first
    | (go_at_call 51; refine (HS.out _).mono ?_; rintro e w' ⟨rfl, rfl⟩)
    | (at_make; refine wpList_make_own _ rfl _ _ 32 rfl w.heap.size 5 i0 _ 1 Tryd.underlying32 hi hz0 hz1 .i64 .i64 _ (n + (k + 1)) rfl rfl (by omega) (by rw [hz2]; omega) (by unfold maxLen; omega) (Nat.le_refl _) ?_; intro w1 hown1 hg1)
    | (at_builtin; refine wpList_append_fits_rd rfl (.tmp 16) (.tmp 17) 32 rfl w.heap.size 5 i0 Tryd.underlying32 hi hz1 _ 0 (n + (k + 1)) [] rfl hown1 A n c (cs bs) rfl (hr.below ((Below.refl _ _).grown hg1 (Nat.le_refl _) (fun k h => by cases h))) (cs_one bs) (by omega) ?_; intro w2 hown2 hg2; simp only [Nat.zero_add, List.nil_append] at hown2)
    | (at_builtin; refine wpList_append_fits_rd rfl (.tmp 28) (.tmp 32) 32 rfl w.heap.size 5 i0 Tryd.underlying32 hi hz1 _ n (n + (k + 1)) (cs bs) rfl (hown2.alloc _) _ 1 1 [_] rfl (Rd.one _ _ _) (by intro u hu; simp at hu; subst hu; rfl) (by omega) ?_; intro w3 hown3 hg3))
  have hb3 := put_below hg1 hg2 hg3
  have hrel := put_start (x := x) hown3 hb3
  clear hown1 hown2 hown3 hg1 hg2 hg3 hb3
  go_loopw [6, 35] (PutRel w n k x.toNat bs) (fun _ i _ => k - (intOf i).toNat)
  case atStart => exact hrel
  case round =>
    obtain ⟨j, hj, rfl, rfl, hown, hbel⟩ := hrel
    by_cases hlt : j < k
    · go_wp2_with (at_builtin; refine wpList_append_fits_rd rfl (.tmp 38) (.tmp 47) 32 rfl w.heap.size 5 i0 Tryd.underlying32 hi hz1 _ (n + 1 + j) (n + (k + 1)) _ rfl (hown.alloc _) _ 1 1 [_] rfl (Rd.one _ _ _) (by intro u hu; simp at hu; subst hu; rfl) (by omega) ?_; intro w4 hown4 hg4)
      exact ⟨put_step (by omega) hlt hown4 hbel hg4, by simp [intOf]; omega⟩
    · go_wp2
      go_ret
      obtain rfl : j = k := by omega
      exact put_end hr h0 HK.out hown hbel

theorem put_any (A : Option Addr) (n c : Nat) (bs : List Nat) (x : Int) (w : World) (hr : Rd w A n c (cs bs)) (h0 : 0 ≤ x) (h1 : x ≤ 18446744073709551615) (hn : n ≤ 70368744177664) :
    Calls Tryd.prog 31 #[.slice A n c, .int .u64 x] w (Own w (bs ++ Num.put x.toNat)) := by
  by_cases h : x < 248
  · exact put_small A n c bs x w hr h0 h hn
  · exact put_big A n c _ bs x w hr (by omega) h1 hn rfl (Num.nby_pos _ (by omega) (by omega)) (Num.nby_le _ (by omega))

end Go.Proofs.YthkbmmebfkaphaaDoor
/- Same, of the document's answer, of any two slices of bytes says whether they hold the same bytes; it only reads. -/
namespace Go.Proofs.YthkbmmebfkaphaaDoor
open Go.RowKit Mem

/-- The ending: a bool; only draws. -/
def Says (b : Bool) (w : World) (e : Ending) (w' : World) : Prop := e = .returned (.bool b) ∧ ∃ q, w' = w.drewN q

def SameRel (w : World) (n : Nat) (xs ys : List Nat) (i : Value) (wr : World) : Prop :=
  ∃ k : Nat, k ≤ n ∧ i = .int .i64 k ∧ xs.take k = ys.take k ∧ ∃ q, wr = w.drewN q

theorem take_step {xs ys : List Nat} {k b : Nat} (h : xs.take k = ys.take k) (hx : xs[k]? = some b) (hy : ys[k]? = some b) : xs.take (k + 1) = ys.take (k + 1) := by
  rw [List.take_add_one, List.take_add_one, h, hx, hy]
theorem take_part {xs ys : List Nat} {k a b : Nat} (hx : xs[k]? = some a) (hy : ys[k]? = some b) (h : a ≠ b) : decide (xs = ys) = false := by
  rw [decide_eq_false_iff_not]
  rintro rfl
  rw [hx] at hy
  cases hy
  exact h rfl

set_option maxRecDepth 20000 in
set_option maxHeartbeats 1000000 in
theorem same_any (A B : Option Addr) (n m c d : Nat) (xs ys : List Nat) (w : World) (hx : Rd w A n c (cs xs)) (hy : Rd w B m d (cs ys)) :
    Calls Tryd.prog 18 #[.slice A n c, .slice B m d] w (Says (decide (xs = ys)) w) := by
  have lx := hx.len
  have ly := hy.len
  rw [length_cs] at lx ly
  have bx := hx.le
  have cx := hx.cap
  unfold maxLen at cx
  by_cases hnm : n = m
  · subst hnm
    have LX := Lib.hid lx
    have LY := Lib.hid ly
    clear lx ly
    go_enter Tryd.func18, Tryd.ntmps18
    go_wp2
    go_loopw [5] (SameRel w n xs ys) (fun i _ => n - (intOf i).toNat)
    case atStart => exact ⟨0, Nat.zero_le _, rfl, rfl, 0, rfl⟩
    case round =>
      obtain ⟨k, hk, rfl, hpre, q, rfl⟩ := hrel
      have HP := Lib.hid hpre
      clear hpre
      by_cases hlt : k < n
      · obtain ⟨ad, a, rfl, ha, hca⟩ := hx.byte hlt
        obtain ⟨bd, b, rfl, hb, hcb⟩ := hy.byte hlt
        have HA := Lib.hid ha
        have HB := Lib.hid hb
        clear ha hb
        by_cases hab : a = b
        · have hne : ((a : Int) != (b : Int)) = false := by simp [hab]
          have HAB := Lib.hid hab
          clear hab
          go_wp2
          go_quiet (fail)
          go_wp2
          exact ⟨⟨k + 1, by omega, by simp, take_step HP.out HA.out (by rw [HB.out, HAB.out]), q + nq, rfl⟩, by simp [intOf]; omega⟩
        · have hne : ((a : Int) != (b : Int)) = true := by rw [bne_iff_ne]; omega
          have HAB := Lib.hid hab
          clear hab
          go_wp2
          go_quiet (fail)
          go_wp2
          go_ret
          exact ⟨by rw [take_part HA.out HB.out HAB.out]; rfl, q + nq, by rw [World.drewN_drewN]⟩
      · go_wp2
        go_ret
        refine ⟨?_, q, rfl⟩
        have h1 := LX.out
        have h2 := LY.out
        have h3 := HP.out
        rw [List.take_of_length_le (by omega), List.take_of_length_le (by omega)] at h3
        rw [h3, decide_eq_true rfl]
        rfl
  · have hne : ((n : Int) != (m : Int)) = true := by rw [bne_iff_ne]; omega
    go_enter Tryd.func18, Tryd.ntmps18
    go_wp2
    go_ret
    refine ⟨?_, 0, rfl⟩
    rw [show decide (xs = ys) = false from by rw [decide_eq_false_iff_not]; rintro rfl; omega]
    rfl

end Go.Proofs.YthkbmmebfkaphaaDoor
/- num.Take of any bytes answers what 'Num.take' says of them, and only reads. Pick answers 'pick'. -/
namespace Go.Proofs.YthkbmmebfkaphaaDoor
open Go.RowKit Mem

/-- The ending of Take: a number, a count, an error; the world as it was. -/
def Took (r : Nat × Nat × Nat) (w : World) (e : Ending) (w' : World) : Prop :=
  e = .returned (.tuple #[.int .u64 (r.1 : Int), .int .i64 (r.2.1 : Int), .int .i64 (r.2.2 : Int)]) ∧ w = w'

def TakeRel (f : Nat) (r : List Nat) (v i : Value) : Prop :=
  ∃ k : Nat, k ≤ f ∧ i = .int .i64 k ∧ v = .int .u64 (Num.val (r.take k) : Int)

set_option maxRecDepth 20000 in
set_option maxHeartbeats 1000000 in
theorem take_none (A : Option Addr) (c : Nat) (w : World) : Calls Tryd.prog 62 #[.slice A 0 c] w (Took (Num.take []) w) := by
  go_enter Tryd.func62, Tryd.ntmps62
  go_wp2
  go_ret3
  exact ⟨rfl, rfl⟩

/-- The first byte, in the walk's own spelling. -/
theorem head_cell {w : World} {A : Option Addr} {n c b : Nat} {r : List Nat} (hr : Rd w A n c (cs (b :: r))) : ∃ ad, A = some ad ∧ w.cell? ad = some (.int .u8 (b : Int)) := by
  have hl := hr.len
  simp [cs] at hl
  obtain ⟨ad, b', e, hb', hc0⟩ := hr.byte (k := 0) (by omega)
  obtain rfl : b' = b := by simpa using hb'.symm
  exact ⟨ad, e, by simpa [Addr.add] using hc0⟩

set_option maxRecDepth 20000 in
set_option maxHeartbeats 1000000 in
theorem take_one (ad : Addr) (n c : Nat) (b : Int) (w : World) (h1 : 1 ≤ n) (hc : w.cell? ad = some (.int .u8 b)) (hb0 : 0 ≤ b) (hb : b < 248) :
    Calls Tryd.prog 62 #[.slice (some ad) n c] w fun e w' => e = .returned (.tuple #[.int .u64 b, .int .i64 1, .int .i64 0]) ∧ w = w' := by
  have hne : ((n : Int) == 0) = false := by simp; omega
  go_enter Tryd.func62, Tryd.ntmps62
  go_wp2
  go_ret3
  exact ⟨rfl, rfl⟩

set_option maxRecDepth 20000 in
set_option maxHeartbeats 1000000 in
theorem take_short (ad : Addr) (n c : Nat) (b : Int) (w : World) (h1 : 1 ≤ n) (hn : n ≤ 9223372036854775807) (hc : w.cell? ad = some (.int .u8 b)) (hb0 : 248 ≤ b) (hb : b ≤ 255) (hsh : (n : Int) - 1 < b - 247) :
    Calls Tryd.prog 62 #[.slice (some ad) n c] w fun e w' => e = .returned (.tuple #[.int .u64 0, .int .i64 0, .int .i64 2]) ∧ w = w' := by
  have hne : ((n : Int) == 0) = false := by simp; omega
  go_enter Tryd.func62, Tryd.ntmps62
  go_wp2
  go_ret3
  exact ⟨rfl, rfl⟩

theorem pow_lt {v k : Nat} (h : v < 256 ^ k) (hk : k < 8) : v < 72057594037927936 :=
  Nat.lt_of_lt_of_le h (Nat.le_trans (Nat.pow_le_pow_right (by omega) (show k ≤ 7 by omega)) (by decide))
theorem pow_le {v k : Nat} (h : v < 256 ^ k) (hk : k ≤ 8) : v ≤ 18446744073709551615 := by
  have := Nat.lt_of_lt_of_le h (Nat.le_trans (Nat.pow_le_pow_right (by omega) hk) (show 256 ^ 8 ≤ 18446744073709551616 by decide))
  omega

theorem shl_or (v : Nat) (x : Int) (hv : v < 72057594037927936) (hx0 : 0 ≤ x) (hx1 : x ≤ 255) : bits .or .u64 (IntKind.u64.wrap ((v : Int) * 256)) x = (v : Int) * 256 + x := by
  obtain ⟨y, rfl⟩ := Int.eq_ofNat_of_zero_le hx0
  have e : IntKind.u64.wrap ((v : Int) * 256) = ((v * 256 : Nat) : Int) := by rw [IntKind.wrap_u64]; omega
  rw [e, u64_or_nat _ _ (by omega) (by omega)]
  have h := Nat.shiftLeft_add_eq_or_of_lt (show y < 2 ^ 8 by omega) v
  rw [Nat.shiftLeft_eq] at h
  rw [← h]
  omega

def longRes (r : List Nat) (f : Nat) : Nat × Nat × Nat := if Num.size (Num.val (r.take f)) ≠ 1 + f then (0, 0, 4) else (Num.val (r.take f), 1 + f, 0)

set_option maxRecDepth 20000 in
set_option maxHeartbeats 1000000 in
theorem take_long (ad : Addr) (n c f : Nat) (b : Int) (r : List Nat) (w : World) (h1 : b - 246 ≤ (n : Int)) (hn : n ≤ 9223372036854775807) (hb0 : 248 ≤ b) (hb : b ≤ 255) (hf : b - 247 = (f : Int)) (hc : w.cell? ad = some (.int .u8 b))
    (hcell : ∀ k, k < f → ∃ x : Int, w.cell? (ad.add (1 + k)) = some (.int .u8 x) ∧ 0 ≤ x ∧ x ≤ 255 ∧ (Num.val (r.take (k + 1)) : Int) = Num.val (r.take k) * 256 + x) (hv : ∀ k, k ≤ f → Num.val (r.take k) < 256 ^ k) :
    Calls Tryd.prog 62 #[.slice (some ad) n c] w (Took (longRes r f) w) := by
  have hne : ((n : Int) == 0) = false := by simp; omega
  have hd1 : decide (b < 248) = false := by simp; omega
  have hd2 : decide ((n : Int) - 1 < b - 247) = false := by simp; omega
  have HC := Lib.hid hcell
  have HV := Lib.hid hv
  have HF := Lib.hid hf
  clear hcell hv hf
  go_enter Tryd.func62, Tryd.ntmps62
  go_wp2
  go_loop [2, 29] (TakeRel f r) (fun _ i => f - (intOf i).toNat)
  case atStart => exact ⟨0, Nat.zero_le _, rfl, rfl⟩
  case round =>
    obtain ⟨k, hk, rfl, rfl⟩ := hrel
    have hf := HF.out
    by_cases hlt : (k : Int) < b - 247
    · obtain ⟨x, hcx, hx0, hx1, hval⟩ := HC.out k (by omega)
      have hvk := HV.out k hk
      have HVAL := Lib.hid hval
      clear hval hf
      go_wp2
      have hf := HF.out
      refine ⟨⟨k + 1, by omega, by simp, ?_⟩, by simp [intOf]; omega⟩
      rw [HVAL.out, shl_or _ x (pow_lt hvk (by omega)) hx0 hx1]
    · obtain rfl : k = f := by omega
      clear hf
      have hV : ∃ V, Num.val (r.take k) = V := ⟨_, rfl⟩
      obtain ⟨V, hV⟩ := hV
      have hvk := HV.out k hk
      rw [hV] at hvk ⊢
      have h64 := pow_le hvk (show k ≤ 8 by have := HF.out; omega)
      have hsz : Calls Tryd.prog 51 #[.int .u64 (V : Int)] w fun e w' => e = .returned (.int .i64 (Num.size V : Int)) ∧ w = w' := by
        have := size_any (V : Int) w (by omega) (by omega)
        rw [Int.toNat_natCast] at this
        exact this
      have hs9 := Num.size_le V (by omega)
      have HV2 := Lib.hid hV
      have HS := Lib.hid hsz
      clear hV hsz hvk HC HV
      by_cases hs : Num.size V = 1 + k
      · have hfin : longRes r k = (V, 1 + k, 0) := by simp [longRes, HV2.out, hs]
        have HFIN := Lib.hid hfin
        have hs' := HF.out
        have hb : ((Num.size V : Int) != 1 + (b - 247)) = false := by rw [bne_eq_false_iff_eq]; omega
        have HSS := Lib.hid hs
        clear hfin hs' hs
        go_wp2_with (go_at_call 51; refine HS.out.mono ?_; rintro e w' ⟨rfl, rfl⟩)
        go_ret3
        rw [HFIN.out]
        refine ⟨?_, rfl⟩
        have hs' := HF.out
        rw [hs']
        rfl
      · have hfin : longRes r k = (0, 0, 4) := by simp [longRes, HV2.out, hs]
        have HFIN := Lib.hid hfin
        have hs' := HF.out
        have hb : ((Num.size V : Int) != 1 + (b - 247)) = true := by rw [bne_iff_ne]; omega
        have HSS := Lib.hid hs
        clear hfin hs' hs
        go_wp2_with (go_at_call 51; refine HS.out.mono ?_; rintro e w' ⟨rfl, rfl⟩)
        go_ret3
        rw [HFIN.out]
        exact ⟨rfl, rfl⟩

theorem take_any (A : Option Addr) (n c : Nat) (bs : List Nat) (w : World) (hr : Rd w A n c (cs bs)) (hlt : ∀ x ∈ bs, x < 256) :
    Calls Tryd.prog 62 #[.slice A n c] w (Took (Num.take bs) w) := by
  have hl := hr.len
  rw [length_cs] at hl
  have hle := hr.le
  have hm := hr.cap
  unfold maxLen at hm
  match bs, hl with
  | [], hl => obtain rfl : n = 0 := by simpa using hl.symm
              exact take_none A c w
  | b :: r, hl =>
    rw [List.length_cons] at hl
    obtain ⟨ad, rfl, hc⟩ := head_cell hr
    have hb := hlt b (by simp)
    by_cases h1 : b < 248
    · have e : Num.take (b :: r) = (b, 1, 0) := by simp [Num.take, h1]
      rw [e]
      exact take_one ad n c b w (by omega) hc (by omega) (by omega)
    · by_cases h2 : r.length < b - 247
      · have e : Num.take (b :: r) = (0, 0, 2) := by simp [Num.take, h1, h2]
        rw [e]
        exact take_short ad n c b w (by omega) (by omega) hc (by omega) (by omega) (by omega)
      · have e : Num.take (b :: r) = longRes r (b - 247) := by simp [Num.take, h1, h2, longRes]
        rw [e]
        refine take_long ad n c (b - 247) b r w (by omega) (by omega) (by omega) (by omega) (by omega) hc (fun k hk => ?_) (fun k hk => ?_)
        · obtain ⟨ad', x, e', hx, hcx⟩ := hr.byte (k := 1 + k) (by omega)
          cases e'
          rw [Nat.add_comm 1 k, List.getElem?_cons_succ] at hx
          have hx2 := hlt x (by simp [List.mem_of_getElem? hx])
          refine ⟨x, hcx, by omega, by omega, ?_⟩
          rw [List.take_add_one, hx]
          show ((Num.val (r.take k ++ [x]) : Nat) : Int) = _
          rw [Num.val_snoc]
          omega
        · have := Num.take_val_lt r k (fun b hb => hlt b (by simp [hb]))
          rw [List.length_take, Nat.min_eq_left (by omega)] at this
          exact this

end Go.Proofs.YthkbmmebfkaphaaDoor
/- What other layers ask of num and of the document's own answers of layer 1: a number put behind nothing, two slices of bytes held against each other, as contracts that tell 'what was there stays'. -/
namespace Go.Proofs.YthkbmmebfkaphaaDoor
open Go.RowKit Mem

/-- num.Put behind any bytes, as a slice that can be read. -/
theorem put_gives (A : Option Addr) (n c m : Nat) (bs rs : List Nat) (x : Int) (w : World) (hr : Rd w A n c (cs bs)) (h0 : 0 ≤ x) (h1 : x ≤ 18446744073709551615) (hn : n ≤ 70368744177664)
    (he : bs ++ Num.put x.toNat = rs) (hm : rs.length = m) : Calls Tryd.prog 31 #[.slice A n c, .int .u64 x] w (Gives w m rs) := by
  refine (put_any A n c bs x w hr h0 h1 hn).mono fun e w' ⟨v, hv, hown, hb⟩ => ?_
  rw [he] at hown
  obtain ⟨A', c', rfl, hr'⟩ := Rd.of_own hown
  rw [hm] at hv hr'
  exact ⟨A', c', hv, hr', hb⟩

/-- The document's Same. -/
theorem same_tells (A B : Option Addr) (n m c d : Nat) (xs ys : List Nat) (b : Bool) (w : World) (hx : Rd w A n c (cs xs)) (hy : Rd w B m d (cs ys)) (hb : decide (xs = ys) = b) :
    Calls Tryd.prog 18 #[.slice A n c, .slice B m d] w (Tells b w) := by
  refine (same_any A B n m c d xs ys w hx hy).mono fun e w' ⟨he, q, hq⟩ => ?_
  subst hb
  subst hq
  exact ⟨he, below_drewN (Below.refl _ _) q⟩

end Go.Proofs.YthkbmmebfkaphaaDoor
/- The document's own digits and Put, of any uint64, answer new memory that holds the number's digits, and its form ('Num.put'); what was there stays. -/
namespace Go.Proofs.YthkbmmebfkaphaaDoor
open Go.RowKit Mem

/-- The ending: a slice of n bytes of the call's own. -/
def OwnS (w : World) (n : Nat) (bs : List Nat) (e : Ending) (w' : World) : Prop :=
  ∃ V c, e = .returned (.slice V n c) ∧ w'.ownsRow w.heap.size 5 1 (.slice V n c) n (cs bs) ∧ Below w.heap.size w w'

theorem digits_le (v : Nat) : ∀ k, v < 256 ^ (k + 1) → (Num.digits v).length ≤ k + 1 := by
  intro k
  induction k generalizing v with
  | zero => intro h; rw [Num.digits, if_pos (by simpa using h)]; simp
  | succ k ih =>
    intro h
    rw [Num.digits]
    split
    · simp
    · have := ih (v / 256) (by rw [Nat.pow_succ] at h; omega)
      simp; omega

set_option maxRecDepth 20000 in
theorem digits_small (x : Int) (w : World) (h0 : 0 ≤ x) (h1 : x < 256) : Calls Tryd.prog 54 #[.int .u64 x] w (OwnS w 1 [x.toNat]) := by
  go_enter Tryd.func54, Tryd.ntmps54
  go_wp2
  go_ret
  have e : cs [x.toNat] = [.int .u8 x] := by simp [cs, Int.toNat_of_nonneg h0]
  exact ⟨_, 1, rfl, by rw [e]; exact World.ownsRow_lit _ _ 1 (Nat.le_refl _) (by simp [maxLen]) rfl, bel_alloc (Below.refl _ _) _⟩

set_option maxRecDepth 20000 in
set_option maxHeartbeats 1000000 in
theorem digits_step (x : Int) (n : Nat) (ds : List Nat) (w : World) (h0 : 256 ≤ x) (h1 : x ≤ 18446744073709551615) (hn : n ≤ 8)
    (ih : Calls Tryd.prog 54 #[.int .u64 (x / 256)] w (OwnS w n ds)) :
    Calls Tryd.prog 54 #[.int .u64 x] w (OwnS w (n + 1) (ds ++ [(x % 256).toNat])) := by
  obtain ⟨i0, hi, hz0, hz1, hz2⟩ := info_parts info5
  have IH := Lib.hid ih
  clear ih
  go_enter Tryd.func54, Tryd.ntmps54
  go_wp2_with fail
  refine IH.out.mono ?_
  rintro e w1 ⟨V1, c1, rfl, hown1, hb1⟩
  go_wp2_with (at_builtin; refine wpList_append_rd rfl (.tmp 10) (.tmp 14) 32 rfl w.heap.size 5 i0 _ 1 Tryd.underlying32 hi hz0 hz1 hz2 rfl V1 n c1 (cs ds) rfl (hown1.alloc _) _ 1 1 [_] rfl (Rd.one _ _ _) (by intro u hu; simp at hu; subst hu; rfl) (by unfold maxLen; omega) (by omega) (bel_alloc hb1 _).size ?_; intro V2 c2 w2 hown2 hb2)
  go_ret
  refine ⟨V2, c2, rfl, ?_, (bel_alloc hb1 _).trans hb2⟩
  have e : cs (ds ++ [(x % 256).toNat]) = cs ds ++ [.int .u8 (x % 256)] := by
    rw [cs_append]; simp [cs]; omega
  rw [e]
  exact hown2

theorem digits_cut (x : Int) (h : 256 ≤ x) : Num.digits x.toNat = Num.digits (x / 256).toNat ++ [(x % 256).toNat] := by
  rw [Num.digits, if_neg (by omega), show (x / 256).toNat = x.toNat / 256 from by omega, show (x % 256).toNat = x.toNat % 256 from by omega]

theorem pow_cut (v k : Nat) (h : v < 256 ^ (k + 1 + 1)) : v / 256 < 256 ^ (k + 1) := by
  rw [Nat.pow_succ] at h
  generalize 256 ^ (k + 1) = y at *
  omega

theorem digits_any (k : Nat) : ∀ (x : Int) (w : World), 0 ≤ x → x ≤ 18446744073709551615 → k ≤ 7 → x.toNat < 256 ^ (k + 1) →
    Calls Tryd.prog 54 #[.int .u64 x] w (OwnS w (Num.digits x.toNat).length (Num.digits x.toNat)) := by
  induction k with
  | zero =>
    intro x w h0 h1 _ hx
    have h : x.toNat < 256 := by simpa using hx
    have e : Num.digits x.toNat = [x.toNat] := by rw [Num.digits, if_pos h]
    rw [e]
    exact digits_small x w h0 (by omega)
  | succ k ih =>
    intro x w h0 h1 hk hx
    by_cases h : x < 256
    · have e : Num.digits x.toNat = [x.toNat] := by rw [Num.digits, if_pos (by omega)]
      rw [e]
      exact digits_small x w h0 h
    · have hx2 : (x / 256).toNat < 256 ^ (k + 1) := by
        rw [show (x / 256).toNat = x.toNat / 256 from by omega]; exact pow_cut _ _ hx
      have ih' := ih (x / 256) w (by omega) (by omega) (by omega) hx2
      have hl := digits_le (x / 256).toNat k hx2
      rw [digits_cut x (by omega), List.length_append]
      exact digits_step x _ _ w (by omega) h1 (by omega) ih'

set_option maxRecDepth 20000 in
theorem refput_small (x : Int) (w : World) (h0 : 0 ≤ x) (h1 : x < 248) : Calls Tryd.prog 34 #[.int .u64 x] w (Gives w 1 [x.toNat]) := by
  go_enter Tryd.func34, Tryd.ntmps34
  go_wp2
  go_ret
  have e : cs [x.toNat] = [.int .u8 x] := by simp [cs, Int.toNat_of_nonneg h0]
  exact ⟨_, 1, rfl, by rw [e]; exact Rd.one _ _ _, bel_alloc (Below.refl _ _) _⟩

set_option maxRecDepth 20000 in
set_option maxHeartbeats 1000000 in
theorem refput_big (x : Int) (n : Nat) (ds : List Nat) (w : World) (h0 : 248 ≤ x) (hn1 : 1 ≤ n) (hn : n ≤ 8)
    (hd : Calls Tryd.prog 54 #[.int .u64 x] w (OwnS w n ds)) : Calls Tryd.prog 34 #[.int .u64 x] w (Gives w (n + 1) ((247 + n) :: ds)) := by
  obtain ⟨i0, hi, hz0, hz1, hz2⟩ := info_parts info5
  have IH := Lib.hid hd
  clear hd
  go_enter Tryd.func34, Tryd.ntmps34
  go_wp2_with fail
  refine IH.out.mono ?_
  rintro e w1 ⟨V1, c1, rfl, hown1, hb1⟩
  go_wp2_with (at_builtin; refine wpList_append_rd rfl (.tmp 15) (.tmp 16) 32 rfl w.heap.size 5 i0 _ 1 Tryd.underlying32 hi hz0 hz1 hz2 rfl _ 1 1 _ rfl (World.ownsRow_lit _ _ 1 hb1.size (by simp [maxLen]) rfl) V1 n c1 (cs ds) rfl ((Rd.own hown1).alloc _) (cs_one _) (by unfold maxLen; omega) (by omega) (bel_alloc hb1 _).size ?_; intro V2 c2 w2 hown2 hb2)
  go_ret
  refine ⟨V2, c2, by rw [Nat.add_comm n 1]; rfl, ?_, (bel_alloc hb1 _).trans hb2⟩
  have := Rd.own hown2
  rw [Nat.add_comm 1 n] at this
  simpa [cs] using this

theorem refput_any (x : Int) (w : World) (h0 : 0 ≤ x) (h1 : x ≤ 18446744073709551615) (m : Nat) (p : List Nat) (hp : Num.put x.toNat = p) (hm : p.length = m) :
    Calls Tryd.prog 34 #[.int .u64 x] w (Gives w m p) := by
  subst hm
  subst hp
  by_cases h : x < 248
  · have e : Num.put x.toNat = [x.toNat] := by unfold Num.put; rw [if_pos (by omega)]
    rw [e]
    exact refput_small x w h0 h
  · have hd := digits_any 7 x w h0 h1 (by omega) (by omega)
    have h2 := Num.nby_le x.toNat (by omega)
    have h3 := Num.nby_pos x.toNat (by omega) (by omega)
    rw [Num.digits_eq _ (by omega) (by omega), Num.length_beTo] at hd
    have e : Num.put x.toNat = (247 + Num.nby x.toNat) :: Num.beTo (Num.nby x.toNat) x.toNat (Num.nby x.toNat) := by unfold Num.put; rw [if_neg (by omega)]
    rw [e, List.length_cons, Num.length_beTo]
    exact refput_big x _ _ w (by omega) h3 h2 hd

end Go.Proofs.YthkbmmebfkaphaaDoor
