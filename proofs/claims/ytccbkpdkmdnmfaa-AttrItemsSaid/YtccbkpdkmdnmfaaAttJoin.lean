/-
  attr.together and Join, and the document's Join: what any two come to.
-/
import Derived.Test.YtccbkpdkmdnmfaaAttSmall
import Derived.Test.YtccbkpdkmdnmfaaIdsJoin
import Derived.Test.YtccbkpdkmdnmfaaIdsRefJoin
import Derived.Deep.RegionHeld3
import Derived.Deep.Cut
import Derived.BigRegion
namespace Go.Proofs.Ytccbkpdkmdnmfaa
open Go.RowKit Mem Ids Att

def ToRel (a b : List (Int × Int)) (w : World) (v5 v12 : Value) (wr : World) : Prop :=
  ∃ m k : Nat, v5 = .int .i64 (m : Int) ∧ v12 = .int .i64 (k : Int) ∧ k ≤ b.length ∧ m = a.length + ((b.take k).filter fun x => !decide (x ∈ a)).length ∧ Below w.heap.size w wr

set_option maxHeartbeats 2000000 in
theorem together_any (a b : List (Int × Int)) (A B : Option Addr) (n c m d : Nat) (w : World) (ha : Rs w A n c a) (hb : Rs w B m d b) (ua : Up a) (ub : Up b) (hn : n ≤ 4096) (hm : m ≤ 4096) :
    Calls Try.prog 25 #[.slice A n c, .slice B m d] w (Checks ((joinl a b).length : Int) w) := by
  obtain ⟨J, hJ⟩ : ∃ J, (joinl a b).length = J := ⟨_, rfl⟩
  rw [hJ]
  rw [joinl_length ua ub] at hJ
  have hla := ha.len
  have hlb := hb.len
  have hcb := And.intro hb.le hb.cap
  unfold maxLen at hcb
  have HA := Lib.hid ha
  have HB := Lib.hid hb
  have HJ := Lib.hid hJ
  have HH := Lib.hid (fun w (i : Int × Int) (h : Rs w A n c a) => has_any a i A n c w h ua (by omega))
  clear ha hb ua ub hJ
  go_enter Try.func25, Try.ntmps25
  go_wp2_with fail
  go_loopw [5, 12] (ToRel a b w) (fun _ v _ => m - (intOf v).toNat)
  case atStart => exact ⟨n, 0, rfl, rfl, Nat.zero_le _, by simp [hla], Below.refl _ _⟩
  case round =>
    obtain ⟨q, k, rfl, rfl, hk, hq, hbw⟩ := hrel
    have hq2 : q ≤ 8192 := by
      have := len_filter_take b k (fun x => !decide (x ∈ a))
      omega
    have hsz := hbw.size
    by_cases hlt : k < m
    · obtain ⟨g, o, x, rfl, hg, hx, c1, c2⟩ := (HB.out.below hbw).at_ hlt
      have hh := fun w h => HH.out w x h
      have hyes : x ∈ a → ((b.take (k + 1)).filter fun x => !decide (x ∈ a)).length = ((b.take k).filter fun x => !decide (x ∈ a)).length := fun h => by rw [filter_no hx (by simp [h])]
      have hno : ¬ x ∈ a → ((b.take (k + 1)).filter fun x => !decide (x ∈ a)).length = ((b.take k).filter fun x => !decide (x ∈ a)).length + 1 := fun h => by rw [filter_yes hx (by simp [h])]; simp
      have HQ := Lib.hid hq
      have HBW := Lib.hid hbw
      have HRA := Lib.hid (HA.out.below hbw)
      clear hx hq hbw
      by_cases hxa : x ∈ a
      · rw [decide_eq_true hxa] at hh
        have HY := Lib.hid (hyes hxa)
        have HHX := Lib.hid hh
        clear hyes hno hxa hh
        obtain ⟨x1, x2⟩ := x
        simp only at c1 c2 HHX
        go_wp2_with fail
        refine (HHX.out _ (HRA.out.alloc _)).mono ?_
        rintro e w1 ⟨rfl, hb1⟩
        have HB1 := Lib.hid ((HBW.out.alloc hsz _).trans (hb1.mono (by rw [size_alloc]; omega)))
        clear hb1
        go_wp2_with fail
        go_roundw
        case rel => exact ⟨q, k + 1, rfl, by simp, by omega, by rw [HY.out]; exact HQ.out, HB1.out⟩
        case measure =>
          simp [intOf]
          omega
      · rw [decide_eq_false hxa] at hh
        have HY := Lib.hid (hno hxa)
        have HHX := Lib.hid hh
        clear hyes hno hxa hh
        obtain ⟨x1, x2⟩ := x
        simp only at c1 c2 HHX
        go_wp2_with fail
        refine (HHX.out _ (HRA.out.alloc _)).mono ?_
        rintro e w1 ⟨rfl, hb1⟩
        have HB1 := Lib.hid ((HBW.out.alloc hsz _).trans (hb1.mono (by rw [size_alloc]; omega)))
        clear hb1
        go_wp2_with fail
        go_roundw
        case rel => exact ⟨q + 1, k + 1, by simp, by simp, by omega, by rw [HY.out]; have := HQ.out; omega, HB1.out⟩
        case measure =>
          simp [intOf]
          omega
    · have HQ := Lib.hid hq
      have HBW := Lib.hid hbw
      clear hq hbw
      go_wp2_with fail
      go_ret
      have hJ := HJ.out
      have hq := HQ.out
      rw [List.take_of_length_le (by omega)] at hq
      exact ⟨by rw [← hJ, ← hq]; rfl, HBW.out⟩
end Go.Proofs.Ytccbkpdkmdnmfaa
