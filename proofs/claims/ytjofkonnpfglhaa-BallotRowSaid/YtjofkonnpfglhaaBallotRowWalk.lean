/-
  The walk of the statement BallotRow.
-/
import Derived.Test.YtjofkonnpfglhaaBalAwake
import Derived.Deep.CutRange
import Derived.Deep.RegionHeld3
namespace Go.Proofs.Ytjofkonnpfglhaa.Bal
open Go.RowKit Mem

theorem right_near (k : Nat) (y : Nat) (hk : k ≤ 60) : right ((k : Int), ((y % 7 : Nat) : Int)) = true := by
  simp [right]
  omega

theorem row_far (a : Int) (A : Option Addr) (n c : Nat) (w : World) (hn : 60 < n) :
    Calls Try.prog 4 #[.int .u8 a, .slice A n c] w (Tells true w) := by
  go_enter Try.func4, Try.ntmps4
  go_wp2_with fail
  refine (awake_any _).mono ?_
  rintro e w4 ⟨rfl, hb4⟩
  go_wp2_with fail
  go_ret
  exact ⟨rfl, hb4⟩

/-- Behind k rounds: the box holds a ballot of round k. -/
def RowRel (w : World) (B n : Nat) (v6 : Value) (wr : World) : Prop :=
  ∃ (k : Nat) (y : Int), v6 = .int .i64 (k : Int) ∧ k ≤ n ∧ 0 ≤ y ∧ y < 7 ∧ Blk wr B 23 #[.int .i64 (k : Int), .int .i64 y] ∧ Below w.heap.size w wr
/-- Behind the call of Next: a new box holds what it answered. -/
def NewCut (W : World) (vs : Array Value) (v7 v8 : Value) (wx : World) : Prop :=
  ∃ p, v7 = .pointer (some ⟨p, 0, none⟩) ∧ v8 = .bool true ∧ W.heap.size ≤ p ∧ Blk wx p 23 vs ∧ Below W.heap.size W wx
theorem cut_new {W v : World} {vs : Array Value} (hb : Below W.heap.size W v) : NewCut W vs (.pointer (some ⟨v.heap.size, 0, none⟩)) (.bool true) (v.alloc (.cells vs 23)) :=
  ⟨_, rfl, rfl, hb.size, Blk.new _ _ _, hb.alloc hb.size _⟩
theorem cut_set {W v : World} {p : Nat} {a b : Value} (h : Blk v p 23 #[a, b]) (hp : W.heap.size ≤ p) (hb : Below W.heap.size W v) (a' b' : Value) :
    NewCut W #[a', b'] (.pointer (some ⟨p, 0, none⟩)) (.bool true) ((v.setCell ⟨p, 0, none⟩ a').setCell ⟨p, 1, none⟩ b') :=
  ⟨_, rfl, rfl, hp, (box_set h hb hp a' b').1, (box_set h hb hp a' b').2⟩
theorem new_blk {w v : World} {vs : Array Value} {t : TypeId} (h : Below (w.alloc (.cells vs t)).heap.size (w.alloc (.cells vs t)) v) : Blk v w.heap.size t vs := (Blk.new w t vs).bel h
theorem new_blk2 {w v : World} {vs : Array Value} {t : TypeId} (h : Below (w.alloc (.cells vs t)).drew.heap.size (w.alloc (.cells vs t)).drew v) : Blk v w.heap.size t vs := (Blk.new w t vs).drew.bel h
theorem World.size_drew' (w : World) : w.drew.heap.size = w.heap.size := rfl

set_option maxHeartbeats 4000000 in
theorem row_near (a : Int) (A : Option Addr) (n c : Nat) (bs : List Nat) (w : World) (h0 : 0 ≤ a) (h1 : a < 256) (hn : n ≤ 60) (hr : Rd w A n c (cs bs)) (hlt : ∀ b ∈ bs, b < 256) :
    Calls Try.prog 4 #[.int .u8 a, .slice A n c] w (Tells true w) := by
  have d0 : decide (60 < n) = false := by simp; omega
  have d1 : decide ((60 : Int) < (n : Int)) = false := by simp; omega
  go_enter Try.func4, Try.ntmps4
  go_wp2_with fail
  refine (first_any _ _).mono ?_
  rintro e w1 ⟨rfl, hb1⟩
  obtain ⟨y0, hy0⟩ : ∃ y0, a % 7 = y0 := ⟨_, rfl⟩
  have hy1 : 0 ≤ y0 := by omega
  have hy2 : y0 < 7 := by omega
  rw [hy0]
  have HB1 := Lib.hid hb1
  have HR := Lib.hid hr
  have HLT := Lib.hid hlt
  have hs1 := hb1.size
  clear hy0 hb1 hr hlt h0 h1
  go_wp2_with fail
  go_loopw [6] (RowRel w w1.heap.size n) (fun v _ => (n - (intOf v).toNat))
  case atStart => exact ⟨0, y0, rfl, Nat.zero_le _, hy1, hy2, Blk.new _ _ _, bel_alloc HB1.out _⟩
  case round =>
    obtain ⟨k, y, rfl, hk, hy1, hy2, hbk, hbw⟩ := hrel
    have HBW := Lib.hid hbw
    have HBK := Lib.hid hbk
    have p0 := hbk.cell 0
    have p1 := hbk.cell 1
    simp at p0 p1
    by_cases hkn : k < n
    · obtain ⟨ad, b, rfl, hx, hcx⟩ := (HR.out.below hbw).byte hkn
      have hb256 := HLT.out b (List.mem_of_getElem? hx)
      obtain ⟨v, hv⟩ : ∃ v : Int, (b : Int) = v := ⟨_, rfl⟩
      rw [hv] at hcx
      have hv0 : 0 ≤ v := by omega
      have hv1 : v < 256 := by omega
      obtain ⟨r, hrm⟩ : ∃ r : Int, v % 7 = r := ⟨_, rfl⟩
      have hr0 : 0 ≤ r := by omega
      have hr1 : r < 7 := by omega
      have had : ad.block < wr.heap.size := by
        obtain ⟨ad', u, e, hlt, _⟩ := (HR.out.below hbw).at_ hkn
        injection e with e
        rw [e]
        exact hlt
      have hnx := fun W => next_any ((k : Int), y) r W (by simp only; omega) (by simp only; omega)
      have hri : right ((k : Int) + 1, r) = true := by simp [right]; omega
      have hnx : ∀ W : World, Calls Try.prog 6 #[.agg #[.int .i64 (k : Int), .int .i64 y], .int .i64 r] W fun e w' => e = .returned (.tuple #[.agg #[.int .i64 ((k : Int) + 1), .int .i64 r], .bool true]) ∧ Below W.heap.size W w' := fun W => (hnx W).mono fun e w' h => by
        simpa only [Nexts, next, if_pos hri] using h
      have hls := fun W => less_any ((k : Int), y) ((k : Int) + 1, r) W
      rw [show less ((k : Int), y) ((k : Int) + 1, r) = true from less_next ((k : Int), y) r] at hls
      have HNX := Lib.hid hnx
      have HLS := Lib.hid hls
      have hBlt := hbk.lt
      have HSK := Lib.hid (show ∀ w', Below wr.heap.size wr w' → w'.cell? ⟨w1.heap.size, 0, none⟩ = some (.int .i64 (k : Int)) ∧ w'.cell? ⟨w1.heap.size, 1, none⟩ = some (.int .i64 y) ∧ w'.cell? (ad.add k) = some (.int .u8 v) from fun w' hb => ⟨(hb.cell (p := ⟨w1.heap.size, 0, none⟩) hBlt).trans p0, (hb.cell (p := ⟨w1.heap.size, 1, none⟩) hBlt).trans p1, (hb.cell (p := ad.add k) (by rw [add_block]; exact had)).trans hcx⟩)
      have HX := Lib.hid hx
      have HCUR := Lib.hid (Below.drew (Below.refl wr.heap.size wr))
      clear hx hv hb256 hnx hls hri hbw hbk
      have hwk : IntKind.i64.wrap ((k : Int) + 1) = (k : Int) + 1 := by simp [IntKind.wrap, IntKind.bits, IntKind.signed]; omega
      have hwv : IntKind.i64.wrap v = v := by simp [IntKind.wrap, IntKind.bits, IntKind.signed]; omega
      have htm : v.tmod 7 = r := by rw [Int.tmod_eq_emod_of_nonneg hv0]; exact hrm
      have HQ := Lib.hid (show (IntKind.i64.wrap v).tmod 7 = r by rw [hwv, htm])
      go_upto_region 7 with fail
      go_cut [7, 8] from 17 to 60 (NewCut wr #[.int .i64 ((k : Int) + 1), .int .i64 r])
      case first =>
        go_region_held3 (fun w' => w'.cell? ⟨w1.heap.size, 0, none⟩ = some (.int .i64 (k : Int)) ∧ w'.cell? ⟨w1.heap.size, 1, none⟩ = some (.int .i64 y) ∧ w'.cell? (ad.add k) = some (.int .u8 v)) ((refine HSK.out _ ?_; first | (with_reducible exact HCUR.out) | (with_reducible exact Below.drew ((Below.refl wr.heap.size wr).alloc (Nat.le_refl _) _)) | (with_reducible exact HCUR.out.alloc HCUR.out.size _) | (with_reducible exact (box_set HKP.out HCUR.out HPL.out _ _).2) | (with_reducible exact HCUR.out.drew)))
          (first
          | (go_at_call 6
             try rw [HQ.out]
             with_reducible refine (HNX.out _).mono ?_
             rintro e v1 ⟨rfl, hb1⟩
             first
             | (with_reducible have hkp := new_blk2 hb1
                have hnow := (Below.drew ((Below.refl wr.heap.size wr).alloc (Nat.le_refl _) (.cells #[.int .i64 0, .int .i64 0] 23))).trans (hb1.mono (by rw [World.size_drew', size_alloc]; omega))
                have HPL := Lib.hid (Nat.le_refl wr.heap.size)
                replace HCUR := Lib.hid hnow
                have j0 := hkp.cell 0; have j1 := hkp.cell 1; have z0 := hkp.soft 0; have z1 := hkp.soft 1
                have HKP := Lib.hid hkp
                clear HNX hb1 hnow hkp)
             | (with_reducible have hkp := new_blk hb1
                have hnow := (HCUR.out.alloc HCUR.out.size (.cells #[.int .i64 0, .int .i64 0] 23)).trans (hb1.mono (by rw [size_alloc]; have := HCUR.out.size; omega))
                have HPL := Lib.hid HCUR.out.size
                replace HCUR := Lib.hid hnow
                have j0 := hkp.cell 0; have j1 := hkp.cell 1; have z0 := hkp.soft 0; have z1 := hkp.soft 1
                have HKP := Lib.hid hkp
                clear HNX hb1 hnow hkp)
             | (have hnow := HCUR.out.trans (hb1.mono HCUR.out.size)
                replace HCUR := Lib.hid hnow
                clear HNX hb1 hnow)))
        all_goals
          go_wp2_with fail
          go_meet
        all_goals
          case rel =>
            first
            | (with_reducible exact cut_set HKP.out HPL.out HCUR.out _ _)
            | (with_reducible exact cut_new HCUR.out)
            | done
      case rest =>
        obtain ⟨p, rfl, rfl, hp, hkp, hbc⟩ := hcut
        have hBc := HBK.out.bel hbc
        have hneB : w1.heap.size ≠ p := by omega
        have q0 := hkp.cell 0
        have q1 := hkp.cell 1
        simp at q0 q1
        have hplt := hkp.lt
        have hBlt2 := hBc.lt
        have hadc : ad.block < wc.heap.size := by have := hbc.size; omega
        have m0 := hBc.cell 0
        have m1 := hBc.cell 1
        simp at m0 m1
        have m2 : wc.cell? (ad.add k) = some (.int .u8 v) := (hbc.cell (p := ad.add k) (by rw [add_block]; exact had)).trans hcx
        have HS2 := Lib.hid (show ∀ w', Below wc.heap.size wc w' → w'.cell? ⟨w1.heap.size, 0, none⟩ = some (.int .i64 (k : Int)) ∧ w'.cell? ⟨w1.heap.size, 1, none⟩ = some (.int .i64 y) ∧ w'.cell? (ad.add k) = some (.int .u8 v) ∧ w'.cell? ⟨p, 0, none⟩ = some (.int .i64 ((k : Int) + 1)) ∧ w'.cell? ⟨p, 1, none⟩ = some (.int .i64 r) from fun w' hb => ⟨(hb.cell (p := ⟨w1.heap.size, 0, none⟩) hBlt2).trans m0, (hb.cell (p := ⟨w1.heap.size, 1, none⟩) hBlt2).trans m1, (hb.cell (p := ad.add k) (by rw [add_block]; exact hadc)).trans m2, (hb.cell (p := ⟨p, 0, none⟩) hplt).trans q0, (hb.cell (p := ⟨p, 1, none⟩) hplt).trans q1⟩)
        have HKP := Lib.hid hkp
        have HBC := Lib.hid hbc
        have HBB := Lib.hid hBc
        have HC2 := Lib.hid (Below.drew (Below.refl wc.heap.size wc))
        have f1 : (((k : Int) + 1) != (k : Int) + 1) = false := by simp
        have f2 : (r != r) = false := by simp
        clear hkp hbc hBc HCUR HSK HNX p0 p1 hcx
        go_upto_region 8 with fail
        go_region_held3 (fun w' => w'.cell? ⟨w1.heap.size, 0, none⟩ = some (.int .i64 (k : Int)) ∧ w'.cell? ⟨w1.heap.size, 1, none⟩ = some (.int .i64 y) ∧ w'.cell? (ad.add k) = some (.int .u8 v) ∧ w'.cell? ⟨p, 0, none⟩ = some (.int .i64 ((k : Int) + 1)) ∧ w'.cell? ⟨p, 1, none⟩ = some (.int .i64 r)) ((refine HS2.out _ ?_; first | (with_reducible exact HC2.out) | (with_reducible exact HC2.out.drew)))
          (first
          | (go_at_call 5
             with_reducible refine (HLS.out _).mono ?_
             rintro e v1 ⟨rfl, hb1⟩
             have hnow := HC2.out.trans (hb1.mono HC2.out.size)
             replace HC2 := Lib.hid hnow
             clear HLS hb1 hnow))
        have kp := HKP.out.bel HC2.out
        have kb := HBB.out.bel HC2.out
        have g0 := kp.cell 0
        have g1 := kp.cell 1
        have z0 := kb.cell 0
        have z1 := kb.cell 1
        have s0 := kb.soft 0
        have s1 := kb.soft 1
        simp at g0 g1 z0 z1
        have HEND := Lib.hid (box_set kb (bel_trans HBW.out (bel_trans HBC.out HC2.out)) (by omega : w.heap.size ≤ w1.heap.size) (.int .i64 ((k : Int) + 1)) (.int .i64 r))
        clear kp kb q0 q1 m0 m1 m2
        try rw [HQ.out]
        go_wp2_with fail
        go_roundw
        case rel => exact ⟨k + 1, r, by simp, by omega, hr0, hr1, by simpa using HEND.out.1, HEND.out.2⟩
        case measure =>
          simp [intOf]
          omega
    · obtain rfl : k = n := by omega
      have hri : right ((k : Int), y) = true := by simp [right]; omega
      have hr2 := fun W => right_any ((k : Int), y) W
      rw [hri] at hr2
      have HR2 := Lib.hid hr2
      have HA := Lib.hid awake_any
      clear hr2 hri hbk hbw
      go_wp2_with fail
      refine (HR2.out _).mono ?_
      rintro e w2 ⟨rfl, hb2⟩
      have HB2 := Lib.hid (bel_trans HBW.out hb2)
      clear hb2 p0 p1
      go_wp2_with fail
      refine (HA.out _).mono ?_
      rintro e w3 ⟨rfl, hb3⟩
      have HB3 := Lib.hid (bel_trans HB2.out hb3)
      clear hb3
      go_wp2_with fail
      go_ret
      exact ⟨rfl, HB3.out⟩
theorem ballotrow_true (a : Int) (A : Option Addr) (n c : Nat) (bs : List Nat) (w : World) (h0 : 0 ≤ a) (h1 : a < 256) (hr : Rd w A n c (cs bs)) (hlt : ∀ b ∈ bs, b < 256) :
    Calls Try.prog 4 #[.int .u8 a, .slice A n c] w (Tells true w) := by
  by_cases hn : n ≤ 60
  · exact row_near a A n c bs w h0 h1 hn hr hlt
  · exact row_far a A n c w (by omega)
end Go.Proofs.Ytjofkonnpfglhaa.Bal
