/-
  Texts of earlier layers, as one.
-/
import Derived.Test.YtkejjdoaljoooaaGreatDoorProg
import Derived.Test.YtkejjdoaljoooaaGreatDoorRBase
import Derived.Laws.BitsAllLaws
import Derived.Lib.SlBytesConst
/- Plain mathematics of the sum, of no program: one shift ('st') and what is linear about it; four shifts by a table of 16 words; a byte ('bt'), bytes ('run'); bytes that are mixed by exclusive or; bits that are turned. -/
namespace Go.Proofs.YtkejjdoaljoooaaGreatDoor.Crc
open Lib (hid)
def st (v : Nat) : Nat := v >>> 1 ^^^ (if v.testBit 0 then 2197175160 else 0)
def sts : Nat → Nat → Nat
 | 0, v => v
 | n + 1, v => sts n (st v)
def bt (v b : Nat) : Nat := sts 8 (v ^^^ b)
def run (v : Nat) (bs : List Nat) : Nat := bs.foldl bt v
def sum (bs : List Nat) : Nat := 4294967295 ^^^ run 4294967295 bs
theorem xor4 (a b c d : Nat) : (a ^^^ b) ^^^ (c ^^^ d) = (a ^^^ c) ^^^ (b ^^^ d) := by
 rw [Nat.xor_assoc, ← Nat.xor_assoc b, Nat.xor_comm b c, Nat.xor_assoc, ← Nat.xor_assoc]
theorem st_xor (a b : Nat) : st (a ^^^ b) = st a ^^^ st b := by
 unfold st;rw [Nat.shiftRight_xor_distrib, Nat.testBit_xor, xor4]
 congr 1
 cases a.testBit 0 <;> cases b.testBit 0 <;> simp
theorem sts_xor (n : Nat) : ∀ a b, sts n (a ^^^ b) = sts n a ^^^ sts n b := by
 induction n with
 | zero => intro a b; rfl
 | succ n ih => intro a b; simp only [sts, st_xor, ih]
theorem sts_add (m : Nat) : ∀ n v, sts (m + n) v = sts n (sts m v) := by
 induction m with
 | zero => intro n v; simp [sts]
 | succ m ih => intro n v; rw [Nat.add_right_comm]; simp only [sts, ih]
theorem st_double (v : Nat) : st (v <<< 1) = v := by
 have h : (v <<< 1).testBit 0 = false := by simp
 unfold st;rw [h, Nat.shiftLeft_shiftRight];simp
theorem sts_shl (n : Nat) : ∀ v, sts n (v <<< n) = v := by
 induction n with
 | zero => intro v; simp [sts]
 | succ n ih => intro v; rw [Nat.shiftLeft_add]; simp only [sts, st_double, ih]
theorem split (v n : Nat) : v = (v >>> n) <<< n ^^^ v % 2 ^ n := by
 apply Nat.eq_of_testBit_eq;intro i;rw [Nat.testBit_xor, Nat.testBit_shiftLeft, Nat.testBit_mod_two_pow, Nat.testBit_shiftRight];by_cases h : i < n
 · simp [h, Nat.not_le.2 h]
 · have h' : n ≤ i := Nat.le_of_not_lt h
   simp [h, h']
theorem sts_split (n v : Nat) : sts n v = v >>> n ^^^ sts n (v % 2 ^ n) := by
 conv => lhs; rw [split v n]
 rw [sts_xor, sts_shl]
def tab : List Nat := [0, 274646895, 549293790, 820201905, 1098587580, 1361435347, 1640403810, 1905808397, 2197175160, 2460548119, 2722870694, 2987750089, 3280807620, 3553878443, 3811616794, 4084100981]
theorem tab_ok : ∀ i, i < 16 → tab[i]? = some (sts 4 i) := by decide +kernel
theorem sts4 (v : Nat) : v / 16 ^^^ sts 4 (v % 16) = sts 4 v := by
 rw [sts_split 4 v, Nat.shiftRight_eq_div_pow]
theorem st_lt {v : Nat} (h : v < 4294967296) : st v < 4294967296 := by
 unfold st;refine @Nat.xor_lt_two_pow _ _ 32 ?_ ?_
 · rw [Nat.shiftRight_eq_div_pow]; omega
 · split <;> decide
theorem sts_lt (n : Nat) : ∀ {v}, v < 4294967296 → sts n v < 4294967296 := by
 induction n with
 | zero => intro v h; exact h
 | succ n ih => intro v h; exact ih (st_lt h)
theorem xor_lt {a b : Nat} (ha : a < 4294967296) (hb : b < 4294967296) : a ^^^ b < 4294967296 := @Nat.xor_lt_two_pow _ _ 32 ha hb
theorem bt_lt {v b : Nat} (h : v < 4294967296) (hb : b < 256) : bt v b < 4294967296 := sts_lt 8 (xor_lt h (by omega))
theorem run_lt : ∀ (bs : List Nat) {v : Nat}, v < 4294967296 → (∀ b ∈ bs, b < 256) → run v bs < 4294967296
 | [], _, h, _ => h
 | b :: bs, v, h, hb => run_lt bs (v := bt v b) (bt_lt h (hb b (by simp))) fun x hx => hb x (by simp [hx])
theorem sum_lt (bs : List Nat) (h : ∀ b ∈ bs, b < 256) : sum bs < 4294967296 := xor_lt (by decide) (run_lt bs (by decide) h)
theorem run_append (v : Nat) (a b : List Nat) : run v (a ++ b) = run (run v a) b := by simp [run, List.foldl_append]
theorem run_snoc (v : Nat) (a : List Nat) (b : Nat) : run v (a ++ [b]) = bt (run v a) b := by simp [run]
/- ! Turned bits. -/
def low : Nat → Nat → List Nat
 | 0, _ => []
 | k + 1, L => L % 256 :: low k (L / 256)
end Go.Proofs.YtkejjdoaljoooaaGreatDoor.Crc
/- Pick, of the document's answer: a place below n, by any number. -/
namespace Go.Proofs.YtkejjdoaljoooaaGreatDoor.Cr
open Lib (hid)
open Go.RowKit Mem
end Go.Proofs.YtkejjdoaljoooaaGreatDoor.Cr
/- crc.through and crc.Sum of any parts: the remainder of their bytes, one behind the other; they only read. -/
namespace Go.Proofs.YtkejjdoaljoooaaGreatDoor.Cr
open Lib (hid)
open Go.RowKit Mem
def Tab (w : World) : Prop := ∀ i : Nat, i < 16 → w.cell? ⟨0, i, none⟩ = some (.int .u32 ((Crc.sts 4 i : Nat) : Int))
def SumIs (v : Nat) (w : World) (e : Ending) (w' : World) : Prop := e = .returned (.int .u32 (v : Int)) ∧ w' = w
def ThroughRel (w : World) (n v : Nat) (bs : List Nat) (i s : Value) (wr : World) : Prop :=
 ∃ k : Nat, k ≤ n ∧ i = .int .i64 k ∧ s = .int .u32 ((Crc.run v (bs.take k) : Nat) : Int) ∧ wr = w
def HalfRel (w : World) (u : Nat) (i s : Value) (wr : World) : Prop :=
 ∃ j : Nat, j ≤ 2 ∧ i = .int .i64 j ∧ s = .int .u32 ((Crc.sts (4 * j) u : Nat) : Int) ∧ wr = w
set_option maxRecDepth 20000 in
set_option maxHeartbeats 1000000 in
theorem through_any (v : Nat) (A : Option Addr) (n c : Nat) (bs : List Nat) (w : World) (hv : v < 4294967296) (ht : Tab w) (hr : Rd w A n c (cs bs)) (hb : ∀ b ∈ bs, b < 256) :
 Calls Tryz.prog 153 #[.int .u32 (v : Int), .slice A n c] w (SumIs (Crc.run v bs) w) := by
 have lx := hr.len;rw [length_cs] at lx;have bx := hr.le;have cx := hr.cap;unfold maxLen at cx;have LX := hid lx;have HB := hid hb;have HT := hid ht;have HR := hid hr;have HV := hid hv;clear lx hb ht hr hv;go_enter Tryz.func153, Tryz.ntmps153
 go_wp2
 go_loopw [9, 0] (ThroughRel w n v bs) (fun i _ _ => n - (intOf i).toNat)
 case atStart => exact ⟨0, Nat.zero_le _, rfl, rfl, rfl⟩
 case round =>
  obtain ⟨k, hk, rfl, rfl, rfl⟩ := hrel;by_cases hlt : k < n
  · obtain ⟨ad, b, rfl, hb, hc⟩ := HR.out.byte hlt
    have hb256 : b < 256 := HB.out b (List.mem_of_getElem? hb);have hR : Crc.run v (bs.take k) < 4294967296 := Crc.run_lt _ HV.out fun x hx => HB.out x (List.mem_of_mem_take hx);have hn : Crc.run v (bs.take (k + 1)) = Crc.sts 8 (Crc.run v (bs.take k) ^^^ b) := (by rw [List.take_add_one, hb]; exact Crc.run_snoc _ _ _);have HN := hid hn;clear hn;generalize Crc.run v (bs.take k) = R at hR HN ⊢;have hm : ((b : Nat) : Int) % 4294967296 = (b : Int) := (by omega);have hx := u32_xor_nat R b hR (by omega);have hU : R ^^^ b < 4294967296 := Crc.xor_lt hR (by omega);generalize R ^^^ b = U at hx hU HN
    go_wp2
    go_loopw [17, 0] (HalfRel wr U) (fun i _ _ => 2 - (intOf i).toNat)
    case atStart => exact ⟨0, by decide, rfl, rfl, rfl⟩
    case round =>
     obtain ⟨j, hj, rfl, rfl, rfl⟩ := hrel;by_cases hj2 : j < 2
     · have hX : Crc.sts (4 * j) U < 4294967296 := Crc.sts_lt _ hU
       have hn2 : Crc.sts (4 * (j + 1)) U = Crc.sts (4 * j) U / 16 ^^^ Crc.sts 4 (Crc.sts (4 * j) U % 16) := by
        rw [Crc.sts4, show 4 * (j + 1) = 4 * j + 4 by omega, Crc.sts_add]
       have HN2 := hid hn2;clear hn2;generalize Crc.sts (4 * j) U = X at hX HN2 ⊢
       have ha : bits .and .u32 (X : Int) 15 = ((X % 16 : Nat) : Int) := by
        rw [show (15 : Int) = ((15 : Nat) : Int) by rfl, u32_and_nat X 15 hX (by decide)];rw [show X &&& 15 = X % 2 ^ 4 from Nat.and_two_pow_sub_one_eq_mod X 4]
       have hcell := HT.out (X % 16) (Nat.mod_lt _ (by decide));have hT : Crc.sts 4 (X % 16) < 4294967296 := Crc.sts_lt _ (by omega);generalize Crc.sts 4 (X % 16) = T at hcell hT HN2
       have hx2 : bits .xor .u32 ((X : Int) / 16) (T : Int) = ((X / 16 ^^^ T : Nat) : Int) := by
        have := u32_xor_nat (X / 16) T (by omega) hT;rwa [Int.natCast_ediv] at this
       go_wp2
       exact ⟨⟨j + 1, by omega, by simp, by rw [HN2.out], rfl⟩, by simp [intOf]; omega⟩
     · obtain rfl : j = 2 := by omega
       go_wp2
       exact ⟨⟨k + 1, by omega, by simp, by rw [HN.out], rfl⟩, by simp [intOf]; omega⟩
  · obtain rfl : k = n := by omega
    go_wp2
    go_ret;refine ⟨?_, rfl⟩;rw [List.take_of_length_le (Nat.le_of_eq LX.out)];rfl
structure Part where
 A : Option Addr
 n : Nat
 c : Nat
 bs : List Nat
def pv (p : Part) : Value := .slice p.A p.n p.c
def bytes (ps : List Part) : List Nat := (ps.map (·.bs)).flatten
structure Mat (w : World) (A : Option Addr) (n c : Nat) (ps : List Part) : Prop where
 row : Rd w A n c (ps.map pv)
 part : ∀ p ∈ ps, Rd w p.A p.n p.c (cs p.bs) ∧ ∀ b ∈ p.bs, b < 256
theorem Mat.below {w w' : World} {A : Option Addr} {n c : Nat} {ps : List Part} (h : Mat w A n c ps) (hb : Below w.heap.size w w') : Mat w' A n c ps :=
 ⟨h.row.below hb, fun p hp => ⟨(h.part p hp).1.below hb, (h.part p hp).2⟩⟩
theorem Tab.below {w w' : World} (h : Tab w) (hb : Below w.heap.size w w') : Tab w' := fun i hi => by
 have := h i hi;exact (hb.cell (World.block_lt_of_cell? w _ this)).trans this
theorem bytes_append (a b : List Part) : bytes (a ++ b) = bytes a ++ bytes b := by simp [bytes]
theorem bytes_lt {ps : List Part} {w : World} {A : Option Addr} {n c : Nat} (h : Mat w A n c ps) : ∀ b ∈ bytes ps, b < 256 := by
 intro b hb;simp only [bytes, List.mem_flatten, List.mem_map] at hb;obtain ⟨_, ⟨p, hp, rfl⟩, hb⟩ := hb;exact (h.part p hp).2 b hb
theorem bytes_take_lt {ps : List Part} {w : World} {A : Option Addr} {n c : Nat} (h : Mat w A n c ps) (k : Nat) : ∀ b ∈ bytes (ps.take k), b < 256 := by
 intro b hb;simp only [bytes, List.mem_flatten, List.mem_map] at hb;obtain ⟨_, ⟨p, hp, rfl⟩, hb⟩ := hb;exact (h.part p (List.mem_of_mem_take hp)).2 b hb
def SumRel (w : World) (n : Nat) (ps : List Part) (i s : Value) (wr : World) : Prop :=
 ∃ k : Nat, k ≤ n ∧ i = .int .i64 k ∧ s = .int .u32 ((Crc.run 4294967295 (bytes (ps.take k)) : Nat) : Int) ∧ wr = w
set_option maxRecDepth 20000 in
set_option maxHeartbeats 1000000 in
theorem sum_any (A : Option Addr) (n c : Nat) (ps : List Part) (w : World) (ht : Tab w) (hm : Mat w A n c ps) :
 Calls Tryz.prog 130 #[.slice A n c] w (SumIs (Crc.sum (bytes ps)) w) := by
 have lx := hm.row.len;rw [List.length_map] at lx;have bx := hm.row.le;have cx := hm.row.cap;unfold maxLen at cx;have LX := hid lx;have HM := hid hm;have HT := hid ht;clear lx hm ht;go_enter Tryz.func130, Tryz.ntmps130
 go_wp2
 go_loopw [8, 3] (SumRel w n ps) (fun i _ _ => n - (intOf i).toNat)
 case atStart => exact ⟨0, Nat.zero_le _, rfl, rfl, rfl⟩
 case round =>
  obtain ⟨k, hk, rfl, rfl, rfl⟩ := hrel;have hR : Crc.run 4294967295 (bytes (ps.take k)) < 4294967296 := Crc.run_lt _ (by decide) (bytes_take_lt HM.out k);by_cases hlt : k < n
  · obtain ⟨ad, u, rfl, _, hx, hc⟩ := HM.out.row.at_ hlt
    rw [List.getElem?_map, Option.map_eq_some_iff] at hx;obtain ⟨p, hp, rfl⟩ := hx
    have hn : Crc.run 4294967295 (bytes (ps.take (k + 1))) = Crc.run (Crc.run 4294967295 (bytes (ps.take k))) p.bs := by
     rw [List.take_add_one, hp, bytes_append, Crc.run_append];simp [bytes]
    have HN := hid hn;obtain ⟨hr1, hr2⟩ := HM.out.part p (List.mem_of_getElem? hp);have hth := through_any (Crc.run 4294967295 (bytes (ps.take k))) p.A p.n p.c p.bs wr hR HT.out hr1 hr2;have HTH := hid hth;unfold pv at hc;clear hn hth hr1 hr2 hp;go_wp2_with (go_at_call 153; refine HTH.out.mono ?_; rintro e w' ⟨rfl, rfl⟩)
    exact ⟨⟨k + 1, by omega, by simp, by rw [HN.out], rfl⟩, by simp [intOf]; omega⟩
  · obtain rfl : k = n := by omega
    have hs : bits .xor .u32 IntKind.u32.max ((Crc.run 4294967295 (bytes (ps.take k)) : Nat) : Int) = ((Crc.sum (bytes ps) : Nat) : Int) := by
     rw [show IntKind.u32.max = ((4294967295 : Nat) : Int) by rfl, u32_xor_nat _ _ (by decide) hR, List.take_of_length_le (Nat.le_of_eq LX.out)];rfl
    go_wp2
    go_ret;exact ⟨rfl, rfl⟩
theorem Mat.lit (w : World) (ps : List Part) (t : TypeId) (n : Nat) (hn : ps.length = n) (hm : n ≤ maxLen) (hp : ∀ p ∈ ps, Rd w p.A p.n p.c (cs p.bs) ∧ ∀ b ∈ p.bs, b < 256) :
 Mat (w.alloc (.cells (ps.map pv).toArray t)) (some ⟨w.heap.size, 0, none⟩) n n ps :=
 ⟨Rd.lit w _ t n (by rw [List.length_map, hn]) hm, fun p h => ⟨(hp p h).1.alloc _, (hp p h).2⟩⟩
theorem Tab.alloc {w : World} (h : Tab w) (o : Obj) : Tab (w.alloc o) := fun i hi => by
 have := h i hi;exact (World.cell?_alloc_lt w o _ (World.block_lt_of_cell? w _ this)).trans this
theorem Tab.drew {w : World} (h : Tab w) : Tab w.drew := h
end Go.Proofs.YtkejjdoaljoooaaGreatDoor.Cr
/- The document's sum of any bytes: it only reads. -/
namespace Go.Proofs.YtkejjdoaljoooaaGreatDoor.Cr
open Lib (hid)
open Go.RowKit Mem
end Go.Proofs.YtkejjdoaljoooaaGreatDoor.Cr
