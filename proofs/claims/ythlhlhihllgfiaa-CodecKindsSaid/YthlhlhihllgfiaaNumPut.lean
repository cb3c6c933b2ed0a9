/-
  num.Put of any bytes and any uint64 answers new memory that holds the bytes and the number's form behind them; what was there stays.
-/
import Derived.Test.YthlhlhihllgfiaaNumSize
namespace Go.Proofs.Ythlhlhihllgfiaa
open Go.RowKit Mem

theorem info5 : (Try.prog.info? 5).map (fun i => (i.zero, i.size, i.bytes)) = some (some (.int .u8 0), 1, 1) := by kernel_rfl

/-- The ending: a slice in memory of the call's own that holds bs. -/
def Own (w : World) (bs : List Nat) (e : Ending) (w' : World) : Prop :=
  ∃ v, e = .returned v ∧ w'.ownsRow w.heap.size 5 1 v bs.length (cs bs) ∧ Below w.heap.size w w'

theorem put_small_end {A : Option Addr} {n c : Nat} {bs : List Nat} {x : Int} {w w1 w2 w3 : World} {o : Obj} (hr : Rd w A n c (cs bs)) (h0 : 0 ≤ x) (h1 : x < 248)
    (hg1 : w.grownBy w1 none) (hg2 : w1.grownBy w2 (some w.heap.size)) (hg3 : (w2.alloc o).grownBy w3 (some w.heap.size))
    (hown : w3.ownsRow w.heap.size 5 1 (.slice (some ⟨w.heap.size, 0, none⟩) (n + 1) (n + 1)) (n + 1) (cs bs ++ [.int .u8 x])) :
    Own w (bs ++ Num.put x.toNat) (.returned (.slice (some ⟨w.heap.size, 0, none⟩) (n + 1) (n + 1))) w3 := by
  have hp : Num.put x.toNat = [x.toNat] := by unfold Num.put; rw [if_pos (by omega)]
  have hl : (bs ++ Num.put x.toNat).length = n + 1 := by rw [hp, List.length_append, ← hr.len, length_cs]; rfl
  have hb1 : Below w.heap.size w w1 := (Below.refl _ _).grown hg1 (Nat.le_refl _) (fun k h => by cases h)
  have hb2 : Below w.heap.size w w2 := hb1.grown hg2 hb1.size (fun k h => by cases h; exact Nat.le_refl _)
  have hb3 : Below w.heap.size w w3 := (hb2.alloc hb2.size o).grown hg3 (by have := hb2.size; simp; omega) (fun k h => by cases h; exact Nat.le_refl _)
  refine ⟨_, rfl, ?_, hb3⟩
  rw [hl, cs_append, hp]
  have : cs [x.toNat] = [.int .u8 x] := by simp [cs, Int.toNat_of_nonneg h0]
  rw [this]
  exact hown

set_option maxHeartbeats 400000 in
theorem put_small (A : Option Addr) (n c : Nat) (bs : List Nat) (x : Int) (w : World) (hr : Rd w A n c (cs bs)) (h0 : 0 ≤ x) (h1 : x < 248) (hn : n ≤ 70368744177664) :
    Calls Try.prog 46 #[.slice A n c, .int .u64 x] w (Own w (bs ++ Num.put x.toNat)) := by
  obtain ⟨i0, hi, hz0, hz1, hz2⟩ := info_parts info5
  have hs : Num.size x.toNat = 1 := by unfold Num.size; rw [if_pos (by omega)]
  have hsz : ∀ W : World, Calls Try.prog 38 #[.int .u64 x] W fun e w' => e = .returned (.int .i64 1) ∧ W = w' := by
    intro W
    have := size_any x W h0 (by omega)
    rw [hs] at this
    exact this
  have HS := Lib.hid hsz
  clear hsz hs
  go_enter Try.func46, Try.ntmps46
  go_wp2_with (first
    | (go_at_call 38; refine (HS.out _).mono ?_; rintro e w' ⟨rfl, rfl⟩)
    | (at_make; refine wpList_make_own _ rfl _ _ 28 rfl w.heap.size 5 i0 _ 1 Try.underlying28 hi hz0 hz1 .i64 .i64 _ (n + 1) rfl rfl (by omega) (by rw [hz2]; omega) (by unfold maxLen; omega) (Nat.le_refl _) ?_; intro w1 hown1 hg1)
    | (at_builtin; refine wpList_append_fits_rd rfl (.tmp 16) (.tmp 17) 28 rfl w.heap.size 5 i0 Try.underlying28 hi hz1 _ 0 (n + 1) [] rfl hown1 A n c (cs bs) rfl (hr.below ((Below.refl _ _).grown hg1 (Nat.le_refl _) (fun k h => by cases h))) (cs_one bs) (by omega) ?_; intro w2 hown2 hg2; simp only [Nat.zero_add, List.nil_append] at hown2)
    | (at_builtin; refine wpList_append_fits_rd rfl (.tmp 21) (.tmp 24) 28 rfl w.heap.size 5 i0 Try.underlying28 hi hz1 _ n (n + 1) (cs bs) rfl (hown2.alloc _) _ 1 1 [.int .u8 x] rfl (Rd.one _ _ _) (by intro u hu; simp at hu; subst hu; rfl) (by omega) ?_; intro w3 hown3 hg3))
  go_ret
  exact put_small_end hr h0 h1 hg1 hg2 hg3 hown3

theorem put_below {w w1 w2 w3 : World} {o : Obj} (hg1 : w.grownBy w1 none) (hg2 : w1.grownBy w2 (some w.heap.size)) (hg3 : (w2.alloc o).grownBy w3 (some w.heap.size)) : Below w.heap.size w w3 := by
  have hb1 : Below w.heap.size w w1 := (Below.refl _ _).grown hg1 (Nat.le_refl _) (fun k h => by cases h)
  have hb2 : Below w.heap.size w w2 := hb1.grown hg2 hb1.size (fun k h => by cases h; exact Nat.le_refl _)
  exact (hb2.alloc hb2.size o).grown hg3 (by have := hb2.size; simp; omega) (fun k h => by cases h; exact Nat.le_refl _)

/-- What holds at each round's head: j bytes of the number are behind. -/
def PutRel (w : World) (n k v : Nat) (bs : List Nat) (o i : Value) (wr : World) : Prop :=
  ∃ j : Nat, j ≤ k ∧ i = .int .i64 j ∧ o = .slice (some ⟨w.heap.size, 0, none⟩) (n + 1 + j) (n + (k + 1)) ∧
    wr.ownsRow w.heap.size 5 1 (.slice (some ⟨w.heap.size, 0, none⟩) (n + 1 + j) (n + (k + 1))) (n + 1 + j) (cs (bs ++ (247 + k) :: Num.beTo k v j)) ∧ Below w.heap.size w wr

theorem put_start {n k : Nat} {bs : List Nat} {x : Int} {w w3 : World}
    (hown : w3.ownsRow w.heap.size 5 1 (.slice (some ⟨w.heap.size, 0, none⟩) (n + 1) (n + (k + 1))) (n + 1) (cs bs ++ [.int .u8 (247 + (k : Int))])) (hb : Below w.heap.size w w3) :
    PutRel w n k x.toNat bs (.slice (some ⟨w.heap.size, 0, none⟩) (n + 1) (n + (k + 1))) (.int .i64 0) w3 := by
  refine ⟨0, Nat.zero_le _, rfl, rfl, ?_, hb⟩
  have : cs (bs ++ (247 + k) :: Num.beTo k x.toNat 0) = cs bs ++ [.int .u8 (247 + (k : Int))] := by
    rw [cs_append]; simp [cs, Num.beTo]
  rw [this]
  exact hown

theorem put_step {n k j : Nat} {bs : List Nat} {x : Int} {w wr w4 : World} {o : Obj} (h0 : 0 ≤ x) (hj : j < k)
    (hown : w4.ownsRow w.heap.size 5 1 (.slice (some ⟨w.heap.size, 0, none⟩) (n + 1 + j + 1) (n + (k + 1))) (n + 1 + j + 1)
      (cs (bs ++ (247 + k) :: Num.beTo k x.toNat j) ++ [.int .u8 (x / 2 ^ (8 * (k - 1 - j)) % 256)]))
    (hb : Below w.heap.size w wr) (hg : (wr.alloc o).grownBy w4 (some w.heap.size)) :
    PutRel w n k x.toNat bs (.slice (some ⟨w.heap.size, 0, none⟩) (n + 1 + j + 1) (n + (k + 1))) (.int .i64 ((j : Int) + 1)) w4 := by
  refine ⟨j + 1, hj, by simp, by rw [Nat.add_assoc (n + 1) j 1], ?_, (hb.alloc hb.size o).grown hg (by have := hb.size; simp; omega) (fun k h => by cases h; exact Nat.le_refl _)⟩
  have e : (x / 2 ^ (8 * (k - 1 - j)) % 256) = ((x.toNat / 256 ^ (k - 1 - j) % 256 : Nat) : Int) := by
    obtain ⟨v, rfl⟩ := Int.eq_ofNat_of_zero_le h0
    rw [Int.toNat_natCast, Num.pow256]
    generalize 8 * (k - 1 - j) = m
    rw [Int.natCast_emod, Int.natCast_ediv, Int.natCast_pow]
    rfl
  have : cs (bs ++ (247 + k) :: Num.beTo k x.toNat (j + 1)) = cs (bs ++ (247 + k) :: Num.beTo k x.toNat j) ++ [.int .u8 (x / 2 ^ (8 * (k - 1 - j)) % 256)] := by
    rw [e, Num.beTo_succ]; simp [cs]
  rw [this, ← Nat.add_assoc (n + 1) j 1]
  exact hown

theorem put_end {A : Option Addr} {n c k : Nat} {bs : List Nat} {x : Int} {w wr : World} (hr : Rd w A n c (cs bs)) (h0 : 248 ≤ x) (hk : Num.nby x.toNat = k)
    (hown : wr.ownsRow w.heap.size 5 1 (.slice (some ⟨w.heap.size, 0, none⟩) (n + 1 + k) (n + (k + 1))) (n + 1 + k) (cs (bs ++ (247 + k) :: Num.beTo k x.toNat k)))
    (hb : Below w.heap.size w wr) : Own w (bs ++ Num.put x.toNat) (.returned (.slice (some ⟨w.heap.size, 0, none⟩) (n + 1 + k) (n + (k + 1)))) wr := by
  have hp : Num.put x.toNat = (247 + k) :: Num.beTo k x.toNat k := by unfold Num.put; rw [if_neg (by omega), hk]
  have hl : (bs ++ Num.put x.toNat).length = n + 1 + k := by
    have := hr.len
    rw [length_cs] at this
    rw [hp, List.length_append, this, List.length_cons, Num.length_beTo]; omega
  refine ⟨_, rfl, ?_, hb⟩
  rw [hl, hp]
  exact hown

set_option maxHeartbeats 1000000 in
theorem put_big (A : Option Addr) (n c k : Nat) (bs : List Nat) (x : Int) (w : World) (hr : Rd w A n c (cs bs)) (h0 : 248 ≤ x) (h1 : x ≤ 18446744073709551615) (hn : n ≤ 70368744177664)
    (hk : Num.nby x.toNat = k) (hk1 : 1 ≤ k) (hk8 : k ≤ 8) :
    Calls Try.prog 46 #[.slice A n c, .int .u64 x] w (Own w (bs ++ Num.put x.toNat)) := by
  obtain ⟨i0, hi, hz0, hz1, hz2⟩ := info_parts info5
  have hs : Num.size x.toNat = k + 1 := by unfold Num.size; rw [if_neg (by omega), hk]; omega
  have hsz : ∀ W : World, Calls Try.prog 38 #[.int .u64 x] W fun e w' => e = .returned (.int .i64 ((k : Int) + 1)) ∧ W = w' := by
    intro W
    have := size_any x W (by omega) h1
    rw [hs] at this
    exact this
  have HS := Lib.hid hsz
  have HK := Lib.hid hk
  clear hsz hs hk
  have hne : ((k : Int) + 1 == 1) = false := by simp; omega
  go_enter Try.func46, Try.ntmps46
  go_wp2_with (first
    | (go_at_call 38; refine (HS.out _).mono ?_; rintro e w' ⟨rfl, rfl⟩)
    | (at_make; refine wpList_make_own _ rfl _ _ 28 rfl w.heap.size 5 i0 _ 1 Try.underlying28 hi hz0 hz1 .i64 .i64 _ (n + (k + 1)) rfl rfl (by omega) (by rw [hz2]; omega) (by unfold maxLen; omega) (Nat.le_refl _) ?_; intro w1 hown1 hg1)
    | (at_builtin; refine wpList_append_fits_rd rfl (.tmp 16) (.tmp 17) 28 rfl w.heap.size 5 i0 Try.underlying28 hi hz1 _ 0 (n + (k + 1)) [] rfl hown1 A n c (cs bs) rfl (hr.below ((Below.refl _ _).grown hg1 (Nat.le_refl _) (fun k h => by cases h))) (cs_one bs) (by omega) ?_; intro w2 hown2 hg2; simp only [Nat.zero_add, List.nil_append] at hown2)
    | (at_builtin; refine wpList_append_fits_rd rfl (.tmp 28) (.tmp 32) 28 rfl w.heap.size 5 i0 Try.underlying28 hi hz1 _ n (n + (k + 1)) (cs bs) rfl (hown2.alloc _) _ 1 1 [_] rfl (Rd.one _ _ _) (by intro u hu; simp at hu; subst hu; rfl) (by omega) ?_; intro w3 hown3 hg3))
  have hb3 := put_below hg1 hg2 hg3
  have hrel := put_start (x := x) hown3 hb3
  clear hown1 hown2 hown3 hg1 hg2 hg3 hb3
  go_loopw [6, 35] (PutRel w n k x.toNat bs) (fun _ i _ => k - (intOf i).toNat)
  case atStart => exact hrel
  case round =>
    obtain ⟨j, hj, rfl, rfl, hown, hbel⟩ := hrel
    by_cases hlt : j < k
    · go_wp2_with (at_builtin; refine wpList_append_fits_rd rfl (.tmp 38) (.tmp 47) 28 rfl w.heap.size 5 i0 Try.underlying28 hi hz1 _ (n + 1 + j) (n + (k + 1)) _ rfl (hown.alloc _) _ 1 1 [_] rfl (Rd.one _ _ _) (by intro u hu; simp at hu; subst hu; rfl) (by omega) ?_; intro w4 hown4 hg4)
      exact ⟨put_step (by omega) hlt hown4 hbel hg4, by simp [intOf]; omega⟩
    · go_wp2
      go_ret
      obtain rfl : j = k := by omega
      exact put_end hr h0 HK.out hown hbel

theorem put_any (A : Option Addr) (n c : Nat) (bs : List Nat) (x : Int) (w : World) (hr : Rd w A n c (cs bs)) (h0 : 0 ≤ x) (h1 : x ≤ 18446744073709551615) (hn : n ≤ 70368744177664) :
    Calls Try.prog 46 #[.slice A n c, .int .u64 x] w (Own w (bs ++ Num.put x.toNat)) := by
  by_cases h : x < 248
  · exact put_small A n c bs x w hr h0 h hn
  · exact put_big A n c _ bs x w hr (by omega) h1 hn rfl (Num.nby_pos _ (by omega) (by omega)) (Num.nby_le _ (by omega))

end Go.Proofs.Ythlhlhihllgfiaa
