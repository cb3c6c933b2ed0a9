/-
  The walk of the law CrcMixes: it answers true, whatever the three texts; what was there stays.
-/
import Derived.Test.YtnlgikaebhiamaaDoorCrcSum
import Derived.BigRegion
namespace Go.Proofs.YtnlgikaebhiamaaDoor
open Go.RowKit Mem

theorem info5 : (Tryd.prog.info? 5).map (fun i => (i.zero, i.size, i.bytes)) = some (some (.int .u8 0), 1, 1) := by kernel_rfl

/-- The first k of M, and n - k zeros behind them. -/
def part (M : List Nat) (n k : Nat) : List Nat := M.take k ++ List.replicate (n - k) 0
theorem part_step {M : List Nat} {n k b : Nat} (hl : M.length = n) (hk : k < n) (hb : M[k]? = some b) : (cs (part M n k)).set k (.int .u8 (b : Int)) = cs (part M n (k + 1)) := by
  have h1 : (cs (part M n k)).set k (.int .u8 (b : Int)) = cs ((part M n k).set k b) := by simp [cs, List.map_set]
  rw [h1]
  congr 1
  unfold part
  have h2 : (M.take k).length = k := by rw [List.length_take]; omega
  rw [List.set_append_right _ _ (by omega), h2, Nat.sub_self, show n - k = (n - (k + 1)) + 1 by omega, List.replicate_succ, List.set_cons_zero, List.take_add_one, hb]
  simp
theorem part_zero (M : List Nat) (n : Nat) : (madeCells (Value.int .u8 0).cells (n * 1)).toList = cs (part M n 0) := by
  rw [show (Value.int .u8 0).cells = #[.int .u8 0] by rfl, toList_madeCells_one]
  simp [part, cs]
theorem part_all {M : List Nat} {n : Nat} (hl : M.length = n) : part M n n = M := by simp [part, ← hl]
theorem part_length {M : List Nat} {n k : Nat} (hl : M.length = n) (hk : k ≤ n) : (part M n k).length = n := by
  simp [part, hl]; omega
theorem mix_at {a b : List Nat} {k x y : Nat} (hx : a[k]? = some x) (hy : b[k]? = some y) : (Crc.mix a b)[k]? = some (x ^^^ y) := by
  simp [Crc.mix, List.getElem?_zipWith, hx, hy]
theorem xor8 {x y : Nat} (hx : x < 256) (hy : y < 256) : x ^^^ y < 256 := @Nat.xor_lt_two_pow _ _ 8 hx hy
theorem mix_lt : ∀ {a b : List Nat}, (∀ x ∈ a, x < 256) → (∀ x ∈ b, x < 256) → ∀ x ∈ Crc.mix a b, x < 256
  | [], _, _, _ => by simp [Crc.mix]
  | _ :: _, [], _, _ => by simp [Crc.mix]
  | x :: a, y :: b, ha, hb => by
    intro z hz
    rcases List.mem_cons.1 (show z ∈ (x ^^^ y) :: Crc.mix a b from hz) with rfl | hz
    · exact xor8 (ha x (by simp)) (hb y (by simp))
    · exact mix_lt (fun u hu => ha u (by simp [hu])) (fun u hu => hb u (by simp [hu])) z hz

def MixRel (w : World) (n : Nat) (M : List Nat) (i : Value) (wr : World) : Prop :=
  ∃ k : Nat, k ≤ n ∧ i = .int .i64 k ∧ wr.ownsRow w.heap.size 5 1 (.slice (some ⟨w.heap.size, 0, none⟩) n n) n (cs (part M n k)) ∧ Below w.heap.size w wr

theorem mix_round {w wr : World} {n k b : Nat} {M : List Nat} (hl : M.length = n) (hk : k < n) (hb : M[k]? = some b)
    (hown : wr.ownsRow w.heap.size 5 1 (.slice (some ⟨w.heap.size, 0, none⟩) n n) n (cs (part M n k))) (hbe : Below w.heap.size w wr) :
    MixRel w n M (.int .i64 ((k : Int) + 1)) ((wr.setCell ⟨w.heap.size, k, none⟩ (.int .u8 (b : Int))).drew) := by
  have h1 := hown.stored k (.int .u8 (b : Int))
  refine ⟨k + 1, by omega, by simp, ?_, (hbe.setCell (Nat.le_refl _) _).drew⟩
  rw [← part_step hl hk hb]
  exact h1.1

set_option maxHeartbeats 1000000 in
theorem mixes_near (A B C : Option Addr) (n ca cb cc : Nat) (a b c : List Nat) (w : World) (hn : n ≤ 1000) (ht : Tab w) (ha : Rd w A n ca (cs a)) (hb : Rd w B n cb (cs b)) (hc : Rd w C n cc (cs c))
    (la : ∀ x ∈ a, x < 256) (lb : ∀ x ∈ b, x < 256) (lc : ∀ x ∈ c, x < 256) :
    Calls Tryd.prog 5 #[.slice A n ca, .slice B n cb, .slice C n cc] w (Tells true w) := by
  obtain ⟨i0, hi, hz0, hz1, hz2⟩ := info_parts info5
  have na := ha.len
  have nb := hb.len
  have nc := hc.len
  rw [length_cs] at na nb nc
  have hM : (Crc.mix (Crc.mix a b) c).length = n := by simp [Crc.mix, na, nb, nc]
  have lM := mix_lt (mix_lt la lb) lc
  have hS := Crc.sum_mix a b c (by omega) (by omega)
  have HS := Lib.hid hS
  have HM := Lib.hid hM
  have LM := Lib.hid lM
  have HA := Lib.hid ha
  have HB := Lib.hid hb
  have HC := Lib.hid hc
  have HT := Lib.hid ht
  have LA := Lib.hid la
  have LB := Lib.hid lb
  have LC := Lib.hid lc
  have HZ := Lib.hid hz2
  have d0 : decide ((1000 : Int) < (n : Int)) = false := by simp; omega
  have d1 : ((n : Int) != (n : Int)) = false := by simp
  clear ha hb hc la lb lc hM lM hS na nb nc ht hz2
  go_enter Tryd.func5, Tryd.ntmps5
  go_wp2_with (at_make; refine wpList_make_full _ rfl _ _ 24 rfl w.heap.size 5 i0 _ 1 Tryd.underlying24 hi hz0 hz1 .i64 .i64 _ _ n rfl rfl rfl rfl (by rw [HZ.out]; omega) (by unfold maxLen; omega) (Nat.le_refl _) ?_; intro w1 hown1 hg1)
  rw [part_zero (Crc.mix (Crc.mix a b) c) n] at hown1
  go_loopw [8] (MixRel w n (Crc.mix (Crc.mix a b) c)) (fun i _ => n - (intOf i).toNat)
  case atStart => exact ⟨0, Nat.zero_le _, rfl, hown1, (Below.refl _ _).grown hg1 (Nat.le_refl _) (fun k h => by cases h)⟩
  case round =>
    obtain ⟨k, hk, rfl, hown, hbe⟩ := hrel
    by_cases hlt : k < n
    · obtain ⟨ad, x, rfl, hx, hcx⟩ := (HA.out.below hbe).byte hlt
      obtain ⟨bd, y, rfl, hy, hcy⟩ := (HB.out.below hbe).byte hlt
      obtain ⟨cd, z, rfl, hz, hcz⟩ := (HC.out.below hbe).byte hlt
      have x8 := LA.out x (List.mem_of_getElem? hx)
      have y8 := LB.out y (List.mem_of_getElem? hy)
      have z8 := LC.out z (List.mem_of_getElem? hz)
      have hat := mix_at (mix_at hx hy) hz
      have HAT := Lib.hid hat
      have h1 := u8_xor_nat x y x8 y8
      have h2 := u8_xor_nat (x ^^^ y) z (xor8 x8 y8) z8
      have hcell := hown.cellAt k (by omega)
      rw [cs_at _ _ (by rw [part_length HM.out hk]; exact hlt)] at hcell
      have hfr := hown.frozenAt k
      have HO := Lib.hid hown
      have HBE := Lib.hid hbe
      clear hat hx hy hz hown hbe x8 y8 z8
      go_wp2
      go_region
      go_wp2
      exact ⟨mix_round HM.out hlt HAT.out HO.out HBE.out, by simp [intOf]; omega⟩
    · obtain rfl : k = n := by omega
      rw [part_all HM.out] at hown
      have ht := HT.out.below hbe
      have ha := HA.out.below hbe
      have hb := HB.out.below hbe
      have hc := HC.out.below hbe
      have hm := Rd.own hown
      have sa := Crc.sum_lt a LA.out
      have sb := Crc.sum_lt b LB.out
      have sc := Crc.sum_lt c LC.out
      have c1 := sum_one rfl ht hm LM.out
      have c2 := sum_one (g := wr.heap.size + 1) (by simp) (ht.alloc (.cells #[.slice (some ⟨w.heap.size, 0, none⟩) k k] 24)) (ha.alloc _) LA.out
      have c3 := sum_one (g := wr.heap.size + 1 + 1) (by simp) ((ht.alloc (.cells #[.slice (some ⟨w.heap.size, 0, none⟩) k k] 24)).alloc (.cells #[.slice A k ca] 24)) ((hb.alloc _).alloc _) LB.out
      have c4 := sum_one (g := wr.heap.size + 1 + 1 + 1) (by simp) (((ht.alloc (.cells #[.slice (some ⟨w.heap.size, 0, none⟩) k k] 24)).alloc (.cells #[.slice A k ca] 24)).alloc (.cells #[.slice B k cb] 24)) (((hc.alloc _).alloc _).alloc _) LC.out
      have tend := (((ht.alloc (.cells #[.slice (some ⟨w.heap.size, 0, none⟩) k k] 24)).alloc (.cells #[.slice A k ca] 24)).alloc (.cells #[.slice B k cb] 24)).alloc (.cells #[.slice C k cc] 24)
      have hend := bel_alloc (bel_alloc (bel_alloc (bel_alloc hbe (.cells #[.slice (some ⟨w.heap.size, 0, none⟩) k k] 24)) (.cells #[.slice A k ca] 24)) (.cells #[.slice B k cb] 24)) (.cells #[.slice C k cc] 24)
      rw [HS.out] at c1
      generalize Crc.sum a = SA at c1 c2 sa
      generalize Crc.sum b = SB at c1 c3 sb
      generalize Crc.sum c = SC at c1 c4 sc
      have x1 := u32_xor_nat SA SB sa sb
      have x2 := u32_xor_nat (SA ^^^ SB) SC (Crc.xor_lt sa sb) sc
      have C1 := Lib.hid c1
      have C2 := Lib.hid c2
      have C3 := Lib.hid c3
      have C4 := Lib.hid c4
      have TE := Lib.hid tend
      have HE := Lib.hid hend
      clear c1 c2 c3 c4 tend hend ht ha hb hc hm sa sb sc hown hbe hown1 hg1
      go_wp2_with fail
      refine C1.out.mono ?_
      rintro e w' ⟨rfl, rfl⟩
      go_wp2_with fail
      refine C2.out.mono ?_
      rintro e w' ⟨rfl, rfl⟩
      go_wp2_with fail
      refine C3.out.mono ?_
      rintro e w' ⟨rfl, rfl⟩
      go_wp2_with fail
      refine C4.out.mono ?_
      rintro e w' ⟨rfl, rfl⟩
      go_wp2_with fail
      refine (awake_any _ TE.out).mono ?_
      rintro e w' ⟨rfl, hb5⟩
      go_wp2_with fail
      go_ret
      exact ⟨rfl, bel_trans HE.out hb5⟩

set_option maxHeartbeats 1000000 in
theorem mixes_far (A B C : Option Addr) (n m q ca cb cc : Nat) (w : World) (h : 1000 < n ∨ m ≠ n ∨ q ≠ n) (ht : Tab w) :
    Calls Tryd.prog 5 #[.slice A n ca, .slice B m cb, .slice C q cc] w (Tells true w) := by
  have HT := Lib.hid ht
  clear ht
  by_cases h0 : 1000 < n
  · have d0 : decide ((1000 : Int) < (n : Int)) = true := by simp; omega
    clear h
    go_enter Tryd.func5, Tryd.ntmps5
    go_wp2_with fail
    refine (awake_any _ HT.out).mono ?_
    rintro e w' ⟨rfl, hb5⟩
    go_wp2_with fail
    go_ret
    exact ⟨rfl, hb5⟩
  · have d0 : decide ((1000 : Int) < (n : Int)) = false := by simp; omega
    by_cases h1 : m = n
    · have d1 : ((m : Int) != (n : Int)) = false := by rw [bne_eq_false_iff_eq]; omega
      have d2 : ((q : Int) != (n : Int)) = true := by rw [bne_iff_ne]; omega
      clear h h0 h1
      go_enter Tryd.func5, Tryd.ntmps5
      go_wp2_with fail
      refine (awake_any _ HT.out).mono ?_
      rintro e w' ⟨rfl, hb5⟩
      go_wp2_with fail
      go_ret
      exact ⟨rfl, hb5⟩
    · have d1 : ((m : Int) != (n : Int)) = true := by rw [bne_iff_ne]; omega
      clear h h0 h1
      go_enter Tryd.func5, Tryd.ntmps5
      go_wp2_with fail
      refine (awake_any _ HT.out).mono ?_
      rintro e w' ⟨rfl, hb5⟩
      go_wp2_with fail
      go_ret
      exact ⟨rfl, hb5⟩

theorem crcMixes_walk (A B C : Option Addr) (n m q ca cb cc : Nat) (a b c : List Nat) (w : World) (ht : Tab w) (ha : Rd w A n ca (cs a)) (hb : Rd w B m cb (cs b)) (hc : Rd w C q cc (cs c))
    (la : ∀ x ∈ a, x < 256) (lb : ∀ x ∈ b, x < 256) (lc : ∀ x ∈ c, x < 256) :
    Calls Tryd.prog 5 #[.slice A n ca, .slice B m cb, .slice C q cc] w fun e w' => e = .returned (.bool true) ∧ Below w.heap.size w w' := by
  by_cases h : 1000 < n ∨ m ≠ n ∨ q ≠ n
  · exact mixes_far A B C n m q ca cb cc w h ht
  · obtain rfl : m = n := by omega
    obtain rfl : q = m := by omega
    exact mixes_near A B C q ca cb cc a b c w (by omega) ht ha hb hc la lb lc
end Go.Proofs.YtnlgikaebhiamaaDoor
