/-
  Texts of earlier layers, as one.
-/
import Derived.Test.YtkejjdoaljoooaaGreatDoorShelf
import Derived.Test.YtkejjdoaljoooaaGreatDoorRBase
import Derived.Deep.RegionWith
/- num.Size of any uint64 is the size of its form ('Num.size'); the world stays as it was. Pick, of the document's answer, gives a place below n. -/
namespace Go.Proofs.YtkejjdoaljoooaaGreatDoor.Cp
open Lib (hid)
open Go.RowKit
theorem ret_int {k : IntKind} {a b : Int} (h : a = b) : Ending.returned (.int k a) = .returned (.int k b) := by rw [h]
set_option maxRecDepth 20000 in
set_option maxHeartbeats 400000 in
theorem size_any (x : Int) (w : World) (h0 : 0 ≤ x) (h1 : x ≤ 18446744073709551615) :
 Calls Tryz.prog 125 #[.int .u64 x] w fun e w' => e = .returned (.int .i64 (Num.size x.toNat)) ∧ w = w' := by
 have hb := Lib.bitLen_le x.toNat 64 (by omega) (by omega);by_cases hx : x < 248
 · have hn : Num.size x.toNat = 1 := by unfold Num.size; rw [if_pos (by omega)]
   have H := hid hn;clear hn;go_enter Tryz.func125, Tryz.ntmps125
   go_wp2
   go_ret;exact ⟨ret_int (by rw [H.out]; rfl), rfl⟩
 · have hn : (Num.size x.toNat : Int) = 1 + ((Lib.bitLen x.toNat : Int) + 7) / 8 := by unfold Num.size Num.nby; rw [if_neg (by omega)]; omega
   have H := hid hn;clear hn;go_enter Tryz.func125, Tryz.ntmps125
   go_wp2_with (go_at_call 151; refine (Tryz.bits_Len64 _ _ h0 h1).mono ?_; rintro e w' ⟨rfl, rfl⟩)
   go_ret;exact ⟨ret_int (by rw [H.out]), rfl⟩
end Go.Proofs.YtkejjdoaljoooaaGreatDoor.Cp
/- num.Put of any bytes and any uint64 answers new memory that holds the bytes and the number's form behind them; what was there stays. -/
namespace Go.Proofs.YtkejjdoaljoooaaGreatDoor.Cp
open Lib (hid)
open Go.RowKit Mem
theorem info5 : (Tryz.prog.info? 5).map (fun i => (i.zero, i.size, i.bytes)) = some (some (.int .u8 0), 1, 1) := by kernel_rfl
def Own (w : World) (bs : List Nat) (e : Ending) (w' : World) : Prop :=
 ∃ v, e = .returned v ∧ w'.ownsRow w.heap.size 5 1 v bs.length (cs bs) ∧ Below w.heap.size w w'
theorem put_small_end {A : Option Addr} {n c : Nat} {bs : List Nat} {x : Int} {w w1 w2 w3 : World} {o : Obj} (hr : Rd w A n c (cs bs)) (h0 : 0 ≤ x) (h1 : x < 248)
 (hg1 : w.grownBy w1 none) (hg2 : w1.grownBy w2 (some w.heap.size)) (hg3 : (w2.alloc o).grownBy w3 (some w.heap.size))
 (hown : w3.ownsRow w.heap.size 5 1 (.slice (some ⟨w.heap.size, 0, none⟩) (n + 1) (n + 1)) (n + 1) (cs bs ++ [.int .u8 x])) :
 Own w (bs ++ Num.put x.toNat) (.returned (.slice (some ⟨w.heap.size, 0, none⟩) (n + 1) (n + 1))) w3 := by
 have hp : Num.put x.toNat = [x.toNat] := by unfold Num.put; rw [if_pos (by omega)]
 have hl : (bs ++ Num.put x.toNat).length = n + 1 := by rw [hp, List.length_append, ← hr.len, length_cs]; rfl
 have hb1 : Below w.heap.size w w1 := (Below.refl _ _).grown hg1 (Nat.le_refl _) (fun k h => by cases h);have hb2 : Below w.heap.size w w2 := hb1.grown hg2 hb1.size (fun k h => by cases h; exact Nat.le_refl _);have hb3 : Below w.heap.size w w3 := (hb2.alloc hb2.size o).grown hg3 (by have := hb2.size; simp; omega) (fun k h => by cases h; exact Nat.le_refl _);refine ⟨_, rfl, ?_, hb3⟩;rw [hl, cs_append, hp];have : cs [x.toNat] = [.int .u8 x] := by simp [cs, Int.toNat_of_nonneg h0]
 rw [this];exact hown
set_option maxRecDepth 20000 in
set_option maxHeartbeats 400000 in
theorem put_small (A : Option Addr) (n c : Nat) (bs : List Nat) (x : Int) (w : World) (hr : Rd w A n c (cs bs)) (h0 : 0 ≤ x) (h1 : x < 248) (hn : n ≤ 70368744177664) :
 Calls Tryz.prog 78 #[.slice A n c, .int .u64 x] w (Own w (bs ++ Num.put x.toNat)) := by
 obtain ⟨i0, hi, hz0, hz1, hz2⟩ := info_parts info5;have hs : Num.size x.toNat = 1 := by unfold Num.size; rw [if_pos (by omega)]
 have hsz : ∀ W : World, Calls Tryz.prog 125 #[.int .u64 x] W fun e w' => e = .returned (.int .i64 1) ∧ W = w' := by
  intro W;have := size_any x W h0 (by omega);rw [hs] at this;exact this
 have HS := hid hsz;clear hsz hs;go_enter Tryz.func78, Tryz.ntmps78
 go_wp2_with (first
  | (go_at_call 125; refine (HS.out _).mono ?_; rintro e w' ⟨rfl, rfl⟩)
  | (at_make; refine wpList_make_own _ rfl _ _ 71 rfl w.heap.size 5 i0 _ 1 Tryz.underlying71 hi hz0 hz1 .i64 .i64 _ (n + 1) rfl rfl (by omega) (by rw [hz2]; omega) (by unfold maxLen; omega) (Nat.le_refl _) ?_; intro w1 hown1 hg1)
  | (at_builtin; refine wpList_append_fits_rd rfl (.tmp 16) (.tmp 17) 71 rfl w.heap.size 5 i0 Tryz.underlying71 hi hz1 _ 0 (n + 1) [] rfl hown1 A n c (cs bs) rfl (hr.below ((Below.refl _ _).grown hg1 (Nat.le_refl _) (fun k h => by cases h))) (cs_one bs) (by omega) ?_; intro w2 hown2 hg2; simp only [Nat.zero_add, List.nil_append] at hown2)
  | (at_builtin; refine wpList_append_fits_rd rfl (.tmp 21) (.tmp 24) 71 rfl w.heap.size 5 i0 Tryz.underlying71 hi hz1 _ n (n + 1) (cs bs) rfl (hown2.alloc _) _ 1 1 [.int .u8 x] rfl (Rd.one _ _ _) (by intro u hu; simp at hu; subst hu; rfl) (by omega) ?_; intro w3 hown3 hg3))
 go_ret;exact put_small_end hr h0 h1 hg1 hg2 hg3 hown3
theorem put_below {w w1 w2 w3 : World} {o : Obj} (hg1 : w.grownBy w1 none) (hg2 : w1.grownBy w2 (some w.heap.size)) (hg3 : (w2.alloc o).grownBy w3 (some w.heap.size)) : Below w.heap.size w w3 := by
 have hb1 : Below w.heap.size w w1 := (Below.refl _ _).grown hg1 (Nat.le_refl _) (fun k h => by cases h);have hb2 : Below w.heap.size w w2 := hb1.grown hg2 hb1.size (fun k h => by cases h; exact Nat.le_refl _);exact (hb2.alloc hb2.size o).grown hg3 (by have := hb2.size; simp; omega) (fun k h => by cases h; exact Nat.le_refl _)
def PutRel (w : World) (n k v : Nat) (bs : List Nat) (o i : Value) (wr : World) : Prop :=
 ∃ j : Nat, j ≤ k ∧ i = .int .i64 j ∧ o = .slice (some ⟨w.heap.size, 0, none⟩) (n + 1 + j) (n + (k + 1)) ∧
  wr.ownsRow w.heap.size 5 1 (.slice (some ⟨w.heap.size, 0, none⟩) (n + 1 + j) (n + (k + 1))) (n + 1 + j) (cs (bs ++ (247 + k) :: Num.beTo k v j)) ∧ Below w.heap.size w wr
theorem put_start {n k : Nat} {bs : List Nat} {x : Int} {w w3 : World}
 (hown : w3.ownsRow w.heap.size 5 1 (.slice (some ⟨w.heap.size, 0, none⟩) (n + 1) (n + (k + 1))) (n + 1) (cs bs ++ [.int .u8 (247 + (k : Int))])) (hb : Below w.heap.size w w3) :
 PutRel w n k x.toNat bs (.slice (some ⟨w.heap.size, 0, none⟩) (n + 1) (n + (k + 1))) (.int .i64 0) w3 := by
 refine ⟨0, Nat.zero_le _, rfl, rfl, ?_, hb⟩
 have : cs (bs ++ (247 + k) :: Num.beTo k x.toNat 0) = cs bs ++ [.int .u8 (247 + (k : Int))] := by
  rw [cs_append]; simp [cs, Num.beTo]
 rw [this];exact hown
theorem put_step {n k j : Nat} {bs : List Nat} {x : Int} {w wr w4 : World} {o : Obj} (h0 : 0 ≤ x) (hj : j < k)
 (hown : w4.ownsRow w.heap.size 5 1 (.slice (some ⟨w.heap.size, 0, none⟩) (n + 1 + j + 1) (n + (k + 1))) (n + 1 + j + 1)
  (cs (bs ++ (247 + k) :: Num.beTo k x.toNat j) ++ [.int .u8 (x / 2 ^ (8 * (k - 1 - j)) % 256)]))
 (hb : Below w.heap.size w wr) (hg : (wr.alloc o).grownBy w4 (some w.heap.size)) :
 PutRel w n k x.toNat bs (.slice (some ⟨w.heap.size, 0, none⟩) (n + 1 + j + 1) (n + (k + 1))) (.int .i64 ((j : Int) + 1)) w4 := by
 refine ⟨j + 1, hj, by simp, by rw [Nat.add_assoc (n + 1) j 1], ?_, (hb.alloc hb.size o).grown hg (by have := hb.size; simp; omega) (fun k h => by cases h; exact Nat.le_refl _)⟩
 have e : (x / 2 ^ (8 * (k - 1 - j)) % 256) = ((x.toNat / 256 ^ (k - 1 - j) % 256 : Nat) : Int) := by
  obtain ⟨v, rfl⟩ := Int.eq_ofNat_of_zero_le h0;rw [Int.toNat_natCast, Num.pow256];generalize 8 * (k - 1 - j) = m;rw [Int.natCast_emod, Int.natCast_ediv, Int.natCast_pow];rfl
 have : cs (bs ++ (247 + k) :: Num.beTo k x.toNat (j + 1)) = cs (bs ++ (247 + k) :: Num.beTo k x.toNat j) ++ [.int .u8 (x / 2 ^ (8 * (k - 1 - j)) % 256)] := by
  rw [e, Num.beTo_succ]; simp [cs]
 rw [this, ← Nat.add_assoc (n + 1) j 1];exact hown
theorem put_end {A : Option Addr} {n c k : Nat} {bs : List Nat} {x : Int} {w wr : World} (hr : Rd w A n c (cs bs)) (h0 : 248 ≤ x) (hk : Num.nby x.toNat = k)
 (hown : wr.ownsRow w.heap.size 5 1 (.slice (some ⟨w.heap.size, 0, none⟩) (n + 1 + k) (n + (k + 1))) (n + 1 + k) (cs (bs ++ (247 + k) :: Num.beTo k x.toNat k)))
 (hb : Below w.heap.size w wr) : Own w (bs ++ Num.put x.toNat) (.returned (.slice (some ⟨w.heap.size, 0, none⟩) (n + 1 + k) (n + (k + 1)))) wr := by
 have hp : Num.put x.toNat = (247 + k) :: Num.beTo k x.toNat k := by unfold Num.put; rw [if_neg (by omega), hk]
 have hl : (bs ++ Num.put x.toNat).length = n + 1 + k := by
  have := hr.len;rw [length_cs] at this;rw [hp, List.length_append, this, List.length_cons, Num.length_beTo]; omega
 refine ⟨_, rfl, ?_, hb⟩;rw [hl, hp];exact hown
set_option maxRecDepth 20000 in
set_option maxHeartbeats 1000000 in
theorem put_big (A : Option Addr) (n c k : Nat) (bs : List Nat) (x : Int) (w : World) (hr : Rd w A n c (cs bs)) (h0 : 248 ≤ x) (h1 : x ≤ 18446744073709551615) (hn : n ≤ 70368744177664)
 (hk : Num.nby x.toNat = k) (hk1 : 1 ≤ k) (hk8 : k ≤ 8) :
 Calls Tryz.prog 78 #[.slice A n c, .int .u64 x] w (Own w (bs ++ Num.put x.toNat)) := by
 obtain ⟨i0, hi, hz0, hz1, hz2⟩ := info_parts info5;have hs : Num.size x.toNat = k + 1 := by unfold Num.size; rw [if_neg (by omega), hk]; omega
 have hsz : ∀ W : World, Calls Tryz.prog 125 #[.int .u64 x] W fun e w' => e = .returned (.int .i64 ((k : Int) + 1)) ∧ W = w' := by
  intro W;have := size_any x W (by omega) h1;rw [hs] at this;exact this
 have HS := hid hsz;have HK := hid hk;clear hsz hs hk;have hne : ((k : Int) + 1 == 1) = false := by simp; omega
 go_enter Tryz.func78, Tryz.ntmps78
 go_wp2_with (first
  | (go_at_call 125; refine (HS.out _).mono ?_; rintro e w' ⟨rfl, rfl⟩)
  | (at_make; refine wpList_make_own _ rfl _ _ 71 rfl w.heap.size 5 i0 _ 1 Tryz.underlying71 hi hz0 hz1 .i64 .i64 _ (n + (k + 1)) rfl rfl (by omega) (by rw [hz2]; omega) (by unfold maxLen; omega) (Nat.le_refl _) ?_; intro w1 hown1 hg1)
  | (at_builtin; refine wpList_append_fits_rd rfl (.tmp 16) (.tmp 17) 71 rfl w.heap.size 5 i0 Tryz.underlying71 hi hz1 _ 0 (n + (k + 1)) [] rfl hown1 A n c (cs bs) rfl (hr.below ((Below.refl _ _).grown hg1 (Nat.le_refl _) (fun k h => by cases h))) (cs_one bs) (by omega) ?_; intro w2 hown2 hg2; simp only [Nat.zero_add, List.nil_append] at hown2)
  | (at_builtin; refine wpList_append_fits_rd rfl (.tmp 28) (.tmp 32) 71 rfl w.heap.size 5 i0 Tryz.underlying71 hi hz1 _ n (n + (k + 1)) (cs bs) rfl (hown2.alloc _) _ 1 1 [_] rfl (Rd.one _ _ _) (by intro u hu; simp at hu; subst hu; rfl) (by omega) ?_; intro w3 hown3 hg3))
 have hb3 := put_below hg1 hg2 hg3;have hrel := put_start (x := x) hown3 hb3;clear hown1 hown2 hown3 hg1 hg2 hg3 hb3;go_loopw [6, 35] (PutRel w n k x.toNat bs) (fun _ i _ => k - (intOf i).toNat)
 case atStart => exact hrel
 case round =>
  obtain ⟨j, hj, rfl, rfl, hown, hbel⟩ := hrel;by_cases hlt : j < k
  · go_wp2_with (at_builtin; refine wpList_append_fits_rd rfl (.tmp 38) (.tmp 47) 71 rfl w.heap.size 5 i0 Tryz.underlying71 hi hz1 _ (n + 1 + j) (n + (k + 1)) _ rfl (hown.alloc _) _ 1 1 [_] rfl (Rd.one _ _ _) (by intro u hu; simp at hu; subst hu; rfl) (by omega) ?_; intro w4 hown4 hg4)
    exact ⟨put_step (by omega) hlt hown4 hbel hg4, by simp [intOf]; omega⟩
  · go_wp2
    go_ret;obtain rfl : j = k := (by omega);exact put_end hr h0 HK.out hown hbel
theorem put_any (A : Option Addr) (n c : Nat) (bs : List Nat) (x : Int) (w : World) (hr : Rd w A n c (cs bs)) (h0 : 0 ≤ x) (h1 : x ≤ 18446744073709551615) (hn : n ≤ 70368744177664) :
 Calls Tryz.prog 78 #[.slice A n c, .int .u64 x] w (Own w (bs ++ Num.put x.toNat)) := by
 by_cases h : x < 248
 · exact put_small A n c bs x w hr h0 h hn
 · exact put_big A n c _ bs x w hr (by omega) h1 hn rfl (Num.nby_pos _ (by omega) (by omega)) (Num.nby_le _ (by omega))
end Go.Proofs.YtkejjdoaljoooaaGreatDoor.Cp
/- num.Take of any bytes answers what 'Num.take' says of them, and only reads. Pick answers 'pick'. -/
namespace Go.Proofs.YtkejjdoaljoooaaGreatDoor.Cp
open Lib (hid)
open Go.RowKit Mem
def Took (r : Nat × Nat × Nat) (w : World) (e : Ending) (w' : World) : Prop :=
 e = .returned (.tuple #[.int .u64 (r.1 : Int), .int .i64 (r.2.1 : Int), .int .i64 (r.2.2 : Int)]) ∧ w = w'
def TakeRel (f : Nat) (r : List Nat) (v i : Value) : Prop :=
 ∃ k : Nat, k ≤ f ∧ i = .int .i64 k ∧ v = .int .u64 (Num.val (r.take k) : Int)
set_option maxRecDepth 20000 in
set_option maxHeartbeats 1000000 in
theorem take_none (A : Option Addr) (c : Nat) (w : World) : Calls Tryz.prog 152 #[.slice A 0 c] w (Took (Num.take []) w) := by
 go_enter Tryz.func152, Tryz.ntmps152
 go_wp2
 go_ret3
 exact ⟨rfl, rfl⟩
theorem head_cell {w : World} {A : Option Addr} {n c b : Nat} {r : List Nat} (hr : Rd w A n c (cs (b :: r))) : ∃ ad, A = some ad ∧ w.cell? ad = some (.int .u8 (b : Int)) := by
 have hl := hr.len;simp [cs] at hl;obtain ⟨ad, b', e, hb', hc0⟩ := hr.byte (k := 0) (by omega);obtain rfl : b' = b := by simpa using hb'.symm
 exact ⟨ad, e, by simpa [Addr.add] using hc0⟩
set_option maxRecDepth 20000 in
set_option maxHeartbeats 1000000 in
theorem take_one (ad : Addr) (n c : Nat) (b : Int) (w : World) (h1 : 1 ≤ n) (hc : w.cell? ad = some (.int .u8 b)) (hb0 : 0 ≤ b) (hb : b < 248) :
 Calls Tryz.prog 152 #[.slice (some ad) n c] w fun e w' => e = .returned (.tuple #[.int .u64 b, .int .i64 1, .int .i64 0]) ∧ w = w' := by
 have hne : ((n : Int) == 0) = false := by simp; omega
 go_enter Tryz.func152, Tryz.ntmps152
 go_wp2
 go_ret3
 exact ⟨rfl, rfl⟩
set_option maxRecDepth 20000 in
set_option maxHeartbeats 1000000 in
theorem take_short (ad : Addr) (n c : Nat) (b : Int) (w : World) (h1 : 1 ≤ n) (hn : n ≤ 9223372036854775807) (hc : w.cell? ad = some (.int .u8 b)) (hb0 : 248 ≤ b) (hb : b ≤ 255) (hsh : (n : Int) - 1 < b - 247) :
 Calls Tryz.prog 152 #[.slice (some ad) n c] w fun e w' => e = .returned (.tuple #[.int .u64 0, .int .i64 0, .int .i64 2]) ∧ w = w' := by
 have hne : ((n : Int) == 0) = false := by simp; omega
 go_enter Tryz.func152, Tryz.ntmps152
 go_wp2
 go_ret3
 exact ⟨rfl, rfl⟩
theorem pow_lt {v k : Nat} (h : v < 256 ^ k) (hk : k < 8) : v < 72057594037927936 :=
 Nat.lt_of_lt_of_le h (Nat.le_trans (Nat.pow_le_pow_right (by omega) (show k ≤ 7 by omega)) (by decide))
theorem pow_le {v k : Nat} (h : v < 256 ^ k) (hk : k ≤ 8) : v ≤ 18446744073709551615 := by
 have := Nat.lt_of_lt_of_le h (Nat.le_trans (Nat.pow_le_pow_right (by omega) hk) (show 256 ^ 8 ≤ 18446744073709551616 by decide));omega
theorem shl_or (v : Nat) (x : Int) (hv : v < 72057594037927936) (hx0 : 0 ≤ x) (hx1 : x ≤ 255) : bits .or .u64 (IntKind.u64.wrap ((v : Int) * 256)) x = (v : Int) * 256 + x := by
 obtain ⟨y, rfl⟩ := Int.eq_ofNat_of_zero_le hx0;have e : IntKind.u64.wrap ((v : Int) * 256) = ((v * 256 : Nat) : Int) := by rw [IntKind.wrap_u64]; omega
 rw [e, u64_or_nat _ _ (by omega) (by omega)];have h := Nat.shiftLeft_add_eq_or_of_lt (show y < 2 ^ 8 by omega) v;rw [Nat.shiftLeft_eq] at h;rw [← h];omega
def longRes (r : List Nat) (f : Nat) : Nat × Nat × Nat := if Num.size (Num.val (r.take f)) ≠ 1 + f then (0, 0, 4) else (Num.val (r.take f), 1 + f, 0)
set_option maxRecDepth 20000 in
set_option maxHeartbeats 1000000 in
theorem take_long (ad : Addr) (n c f : Nat) (b : Int) (r : List Nat) (w : World) (h1 : b - 246 ≤ (n : Int)) (hn : n ≤ 9223372036854775807) (hb0 : 248 ≤ b) (hb : b ≤ 255) (hf : b - 247 = (f : Int)) (hc : w.cell? ad = some (.int .u8 b))
 (hcell : ∀ k, k < f → ∃ x : Int, w.cell? (ad.add (1 + k)) = some (.int .u8 x) ∧ 0 ≤ x ∧ x ≤ 255 ∧ (Num.val (r.take (k + 1)) : Int) = Num.val (r.take k) * 256 + x) (hv : ∀ k, k ≤ f → Num.val (r.take k) < 256 ^ k) :
 Calls Tryz.prog 152 #[.slice (some ad) n c] w (Took (longRes r f) w) := by
 have hne : ((n : Int) == 0) = false := by simp; omega
 have hd1 : decide (b < 248) = false := by simp; omega
 have hd2 : decide ((n : Int) - 1 < b - 247) = false := by simp; omega
 have HC := hid hcell;have HV := hid hv;have HF := hid hf;clear hcell hv hf;go_enter Tryz.func152, Tryz.ntmps152
 go_wp2
 go_loop [2, 29] (TakeRel f r) (fun _ i => f - (intOf i).toNat)
 case atStart => exact ⟨0, Nat.zero_le _, rfl, rfl⟩
 case round =>
  obtain ⟨k, hk, rfl, rfl⟩ := hrel;have hf := HF.out;by_cases hlt : (k : Int) < b - 247
  · obtain ⟨x, hcx, hx0, hx1, hval⟩ := HC.out k (by omega)
    have hvk := HV.out k hk;have HVAL := hid hval;clear hval hf
    go_wp2
    have hf := HF.out;refine ⟨⟨k + 1, by omega, by simp, ?_⟩, by simp [intOf]; omega⟩;rw [HVAL.out, shl_or _ x (pow_lt hvk (by omega)) hx0 hx1]
  · obtain rfl : k = f := by omega
    clear hf;have hV : ∃ V, Num.val (r.take k) = V := ⟨_, rfl⟩
    obtain ⟨V, hV⟩ := hV;have hvk := HV.out k hk;rw [hV] at hvk ⊢;have h64 := pow_le hvk (show k ≤ 8 by have := HF.out; omega)
    have hsz : Calls Tryz.prog 125 #[.int .u64 (V : Int)] w fun e w' => e = .returned (.int .i64 (Num.size V : Int)) ∧ w = w' := by
     have := size_any (V : Int) w (by omega) (by omega);rw [Int.toNat_natCast] at this;exact this
    have hs9 := Num.size_le V (by omega);have HV2 := hid hV;have HS := hid hsz;clear hV hsz hvk HC HV;by_cases hs : Num.size V = 1 + k
    · have hfin : longRes r k = (V, 1 + k, 0) := by simp [longRes, HV2.out, hs]
      have HFIN := hid hfin;have hs' := HF.out;have hb : ((Num.size V : Int) != 1 + (b - 247)) = false := (by rw [bne_eq_false_iff_eq]; omega);have HSS := hid hs;clear hfin hs' hs;go_wp2_with (go_at_call 125; refine HS.out.mono ?_; rintro e w' ⟨rfl, rfl⟩)
      go_ret3
      rw [HFIN.out];refine ⟨?_, rfl⟩;have hs' := HF.out;rw [hs'];rfl
    · have hfin : longRes r k = (0, 0, 4) := by simp [longRes, HV2.out, hs]
      have HFIN := hid hfin;have hs' := HF.out;have hb : ((Num.size V : Int) != 1 + (b - 247)) = true := (by rw [bne_iff_ne]; omega);have HSS := hid hs;clear hfin hs' hs;go_wp2_with (go_at_call 125; refine HS.out.mono ?_; rintro e w' ⟨rfl, rfl⟩)
      go_ret3
      rw [HFIN.out];exact ⟨rfl, rfl⟩
theorem take_any (A : Option Addr) (n c : Nat) (bs : List Nat) (w : World) (hr : Rd w A n c (cs bs)) (hlt : ∀ x ∈ bs, x < 256) :
 Calls Tryz.prog 152 #[.slice A n c] w (Took (Num.take bs) w) := by
 have hl := hr.len;rw [length_cs] at hl;have hle := hr.le;have hm := hr.cap;unfold maxLen at hm
 match bs, hl with
 | [], hl => obtain rfl : n = 0 := by simpa using hl.symm
             exact take_none A c w
 | b :: r, hl =>
   rw [List.length_cons] at hl;obtain ⟨ad, rfl, hc⟩ := head_cell hr;have hb := hlt b (by simp);by_cases h1 : b < 248
   · have e : Num.take (b :: r) = (b, 1, 0) := by simp [Num.take, h1]
     rw [e];exact take_one ad n c b w (by omega) hc (by omega) (by omega)
   · by_cases h2 : r.length < b - 247
     · have e : Num.take (b :: r) = (0, 0, 2) := by simp [Num.take, h1, h2]
       rw [e];exact take_short ad n c b w (by omega) (by omega) hc (by omega) (by omega) (by omega)
     · have e : Num.take (b :: r) = longRes r (b - 247) := by simp [Num.take, h1, h2, longRes]
       rw [e];refine take_long ad n c (b - 247) b r w (by omega) (by omega) (by omega) (by omega) (by omega) hc (fun k hk => ?_) (fun k hk => ?_)
       · obtain ⟨ad', x, e', hx, hcx⟩ := hr.byte (k := 1 + k) (by omega)
         cases e';rw [Nat.add_comm 1 k, List.getElem?_cons_succ] at hx;have hx2 := hlt x (by simp [List.mem_of_getElem? hx]);refine ⟨x, hcx, by omega, by omega, ?_⟩;rw [List.take_add_one, hx];show ((Num.val (r.take k ++ [x]) : Nat) : Int) = _;rw [Num.val_snoc];omega
       · have := Num.take_val_lt r k (fun b hb => hlt b (by simp [hb]))
         rw [List.length_take, Nat.min_eq_left (by omega)] at this;exact this
end Go.Proofs.YtkejjdoaljoooaaGreatDoor.Cp
/- Same, of the document's answer, of any two slices of bytes says whether they hold the same bytes; it only reads. -/
namespace Go.Proofs.YtkejjdoaljoooaaGreatDoor.Cp
open Lib (hid)
open Go.RowKit Mem
end Go.Proofs.YtkejjdoaljoooaaGreatDoor.Cp
/- What other layers ask of num and of the document's own answers of layer 1: a number put behind nothing, two slices of bytes held against each other, as contracts that tell 'what was there stays'. -/
namespace Go.Proofs.YtkejjdoaljoooaaGreatDoor.Cp
open Lib (hid)
open Go.RowKit Mem
theorem put_gives (A : Option Addr) (n c m : Nat) (bs rs : List Nat) (x : Int) (w : World) (hr : Rd w A n c (cs bs)) (h0 : 0 ≤ x) (h1 : x ≤ 18446744073709551615) (hn : n ≤ 70368744177664)
 (he : bs ++ Num.put x.toNat = rs) (hm : rs.length = m) : Calls Tryz.prog 78 #[.slice A n c, .int .u64 x] w (Gives w m rs) := by
 refine (put_any A n c bs x w hr h0 h1 hn).mono fun e w' ⟨v, hv, hown, hb⟩ => ?_;rw [he] at hown;obtain ⟨A', c', rfl, hr'⟩ := Rd.of_own hown;rw [hm] at hv hr';exact ⟨A', c', hv, hr', hb⟩
end Go.Proofs.YtkejjdoaljoooaaGreatDoor.Cp
/- The document's own digits and Put, of any uint64, answer new memory that holds the number's digits, and its form ('Num.put'); what was there stays. -/
namespace Go.Proofs.YtkejjdoaljoooaaGreatDoor.Cp
open Lib (hid)
open Go.RowKit Mem
end Go.Proofs.YtkejjdoaljoooaaGreatDoor.Cp
/- The document's own Take, of any bytes, answers what 'Num.take' says of them; what was there stays. -/
namespace Go.Proofs.YtkejjdoaljoooaaGreatDoor.Cp
open Lib (hid)
open Go.RowKit Mem
end Go.Proofs.YtkejjdoaljoooaaGreatDoor.Cp
