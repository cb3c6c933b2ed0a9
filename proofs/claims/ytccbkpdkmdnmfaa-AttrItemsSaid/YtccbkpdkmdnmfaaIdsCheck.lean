/-
  ids.Check and the document's: whether a list is a right set.
-/
import Derived.Test.YtccbkpdkmdnmfaaIdsRefEq
import Derived.Shelf.SlSortCmp.QuietGrown
namespace Go.Proofs.Ytccbkpdkmdnmfaa
open Go.RowKit Mem Ids Go.Sort

def ChkRel (l : List (Int × Int)) (w : World) (v : Value) (wr : World) : Prop :=
  ∃ k : Nat, v = .int .i64 k ∧ k ≤ l.length ∧ Goods (l.take k) ∧ Below w.heap.size w wr
theorem chk_end {l : List (Int × Int)} (k : Nat) (h : Goods (l.take k)) (hk : ¬ k < l.length) : chk l = decide (l.length ≤ 4096) := by
  rw [List.take_of_length_le (by omega)] at h
  unfold chk
  by_cases h4 : l.length ≤ 4096 <;> simp [h4, h]
theorem chk_wrong {l : List (Int × Int)} {k : Nat} {x : Int × Int} (hx : l[k]? = some x) (h : right x = false) : chk l = false := by
  refine decide_eq_false fun hg => ?_
  have := hg.2.1 x (List.mem_of_getElem? hx)
  rw [h] at this
  cases this
theorem chk_back {l : List (Int × Int)} {k : Nat} {x y : Int × Int} (hx : l[k]? = some x) (hk : 0 < k) (hy : l[k - 1]? = some y) (h : lt y x = false) : chk l = false := by
  refine decide_eq_false fun hg => ?_
  obtain ⟨hy', rfl⟩ := List.getElem?_eq_some_iff.1 hy
  obtain ⟨hx', rfl⟩ := List.getElem?_eq_some_iff.1 hx
  have := List.pairwise_iff_getElem.1 hg.2.2 (k - 1) k hy' hx' (by omega)
  rw [h] at this
  cases this
theorem chk_first {l : List (Int × Int)} {x : Int × Int} (hx : l[0]? = some x) (h : right x = true) : Goods (l.take (0 + 1)) := by
  rw [List.take_add_one, hx]
  exact (goods_snoc [] x).2 ⟨goods_nil, h, by simp⟩
theorem chk_more {l : List (Int × Int)} {k : Nat} {x y : Int × Int} (hx : l[k]? = some x) (hk : 0 < k) (hy : l[k - 1]? = some y) (hg : Goods (l.take k)) (h : right x = true) (hl : lt y x = true) : Goods (l.take (k + 1)) := by
  rw [List.take_add_one, hx]
  refine (goods_snoc _ x).2 ⟨hg, h, fun z hz => ?_⟩
  rw [List.getLast?_take, if_neg (by omega), hy] at hz
  simp at hz
  rw [← hz]
  exact hl

set_option maxHeartbeats 4000000 in
theorem check_any (l : List (Int × Int)) (A : Option Addr) (n c : Nat) (w : World) (ha : Rs w A n c l) :
    Calls Try.prog 29 #[.slice A n c] w (Tells (chk l) w) := by
  obtain ⟨t, ht⟩ : ∃ t, chk l = t := ⟨_, rfl⟩
  rw [ht]
  have hla := ha.len
  have HA := Lib.hid ha
  have hca := And.intro ha.le ha.cap
  unfold maxLen at hca
  have HT := Lib.hid ht
  clear ht ha
  go_enter Try.func29, Try.ntmps29
  by_cases h4 : 4096 < n
  · go_wp2_with fail
    go_ret
    have htf : t = false := by
      rw [← HT.out]
      refine decide_eq_false fun h => ?_
      omega
    exact ⟨by rw [htf]; rfl, Below.refl _ _⟩
  · go_wp2_with fail
    go_loopw [10] (ChkRel l w) (fun v _ => n - (intOf v).toNat)
    case atStart => exact ⟨0, rfl, Nat.zero_le _, by simp [goods_nil], Below.refl _ _⟩
    case round =>
      obtain ⟨k, rfl, hk, hgood, hbw⟩ := hrel
      have hsz := hbw.size
      by_cases hlt : k < n
      · obtain ⟨g, o, x, rfl, hg, hx, c1, c2⟩ := (HA.out.below hbw).at_ hlt
        have HX := Lib.hid hx
        have HBW := Lib.hid hbw
        have HGD := Lib.hid hgood
        clear hx hbw hgood
        obtain ⟨x1, x2⟩ := x
        simp only at c1 c2
        have HRR := Lib.hid (fun W => right_grew (x1, x2) W)
        go_wp2_with fail
        have hblk := Blk.new wr 48 #[.int .i64 x1, .int .i64 x2]
        have hrs : Rs (wr.alloc (.cells #[.int .i64 x1, .int .i64 x2] 48)) (some ⟨g, o, none⟩) n c l := (HA.out.below HBW.out).alloc _
        have hbw1 : Below w.heap.size w (wr.alloc (.cells #[.int .i64 x1, .int .i64 x2] 48)) := HBW.out.alloc hsz _
        generalize wr.alloc (.cells #[.int .i64 x1, .int .i64 x2] 48) = W at hblk hrs hbw1 ⊢
        have hd0 := fun q os => cell_grown (w := W) (a := ⟨wr.heap.size, 0, none⟩) hblk.lt (hblk.cell 0) q os
        have hd1 := fun q os => cell_grown (w := W) (a := ⟨wr.heap.size, 1, none⟩) hblk.lt (hblk.cell 1) q os
        have HB1 := Lib.hid hbw1
        have hszW := hbw1.size
        clear hblk hbw1 c1 c2
        cases hr : right (x1, x2) with
        | false =>
          have hh := HRR.out
          rw [hr] at hh
          have HH := Lib.hid hh
          have HTF := Lib.hid (HT.out.symm.trans (chk_wrong HX.out hr))
          clear hr hh hrs
          refine wp_region_quiet_grown (by kernel_rfl) (by kernel_rfl) ?_
          repeat (first | ((with_reducible refine wpQuiet_skip ?_ ?_); (focus rfl); simp only [Act.put, List.setIfInBounds_toArray, List.set_cons_zero, List.set_cons_succ]) | ((with_reducible refine wpQuiet_step (fun K hK => ?_)); go_simp; first | ((with_reducible refine hK _ ?_); clear hK K) | (apply Exists.intro; refine ⟨fun _ => ?_, hK _ ?_⟩; (exact Calls.grown_of (HH.out _)); clear hK K)))
          with_reducible refine wpQuiet_nil ?_
          intro _ hw'
          obtain ⟨⟨nq, osq⟩, hw''⟩ := hw'
          subst hw''
          go_wp2_with fail
          go_ret
          exact ⟨by rw [HTF.out]; rfl, HB1.out.trans ((Grew.bel ⟨nq, osq, rfl⟩).mono hszW)⟩
        | true =>
          have hh := HRR.out
          rw [hr] at hh
          have HH := Lib.hid hh
          have HR := Lib.hid hr
          clear hh hr
          cases k with
          | zero =>
            clear hrs
            refine wp_region_quiet_grown (by kernel_rfl) (by kernel_rfl) ?_
            repeat (first | ((with_reducible refine wpQuiet_skip ?_ ?_); (focus rfl); simp only [Act.put, List.setIfInBounds_toArray, List.set_cons_zero, List.set_cons_succ]) | ((with_reducible refine wpQuiet_step (fun K hK => ?_)); go_simp; first | ((with_reducible refine hK _ ?_); clear hK K) | (apply Exists.intro; refine ⟨fun _ => ?_, hK _ ?_⟩; (exact Calls.grown_of (HH.out _)); clear hK K)))
            with_reducible refine wpQuiet_nil ?_
            intro _ hw'
            obtain ⟨⟨nq, osq⟩, hw''⟩ := hw'
            subst hw''
            go_wp2_with fail
            go_roundw
            case rel => exact ⟨0 + 1, by simp, by omega, chk_first HX.out HR.out, HB1.out.trans ((Grew.bel ⟨nq, osq, rfl⟩).mono hszW)⟩
            case measure =>
              simp [intOf]
              omega
          | succ j =>
            have hjn : j < n := by omega
            have hwj : IntKind.i64.wrap (j : Int) = j := wrap64 (by omega) (by omega)
            obtain ⟨g', o', y, he, hg', hy, f1, f2⟩ := hrs.at_ (k := j) (by omega)
            injection he with he
            injection he with he1 he2
            subst he1; subst he2
            have HY := Lib.hid hy
            have hc1 := fun q os => cell_grown (w := W) (a := ⟨g, o + j * 2, none⟩) hg' f1 q os
            have hc2 := fun q os => cell_grown (w := W) (a := ⟨g, o + j * 2 + 1, none⟩) hg' f2 q os
            have hll := fun W => less_grew y (x1, x2) W
            clear hy f1 f2 hrs
            cases hl : lt y (x1, x2) with
            | true =>
              rw [hl] at hll
              have HL := Lib.hid hll
              have HG := Lib.hid (chk_more HX.out (by omega) HY.out HGD.out HR.out hl)
              clear hll hl
              obtain ⟨y1, y2⟩ := y
              simp only at hc1 hc2
              refine wp_region_quiet_grown (by kernel_rfl) (by kernel_rfl) ?_
              repeat (first | ((with_reducible refine wpQuiet_skip ?_ ?_); (focus rfl); simp only [Act.put, List.setIfInBounds_toArray, List.set_cons_zero, List.set_cons_succ]) | ((with_reducible refine wpQuiet_step (fun K hK => ?_)); go_simp; first | ((with_reducible refine hK _ ?_); clear hK K) | (apply Exists.intro; refine ⟨fun _ => ?_, hK _ ?_⟩; (first | (go_at_call 50; exact Calls.grown_of (HH.out _)) | (go_at_call 47; exact Calls.grown_of (HL.out _))); clear hK K)))
              with_reducible refine wpQuiet_nil ?_
              intro _ hw'
              obtain ⟨⟨nq, osq⟩, hw''⟩ := hw'
              subst hw''
              go_wp2_with fail
              go_roundw
              case rel => exact ⟨j + 1 + 1, by simp, by omega, HG.out, HB1.out.trans ((Grew.bel ⟨nq, osq, rfl⟩).mono hszW)⟩
              case measure =>
                simp [intOf]
                omega
            | false =>
              rw [hl] at hll
              have HL := Lib.hid hll
              have HTF := Lib.hid (HT.out.symm.trans (chk_back HX.out (by omega) HY.out hl))
              clear hll hl
              obtain ⟨y1, y2⟩ := y
              simp only at hc1 hc2
              refine wp_region_quiet_grown (by kernel_rfl) (by kernel_rfl) ?_
              repeat (first | ((with_reducible refine wpQuiet_skip ?_ ?_); (focus rfl); simp only [Act.put, List.setIfInBounds_toArray, List.set_cons_zero, List.set_cons_succ]) | ((with_reducible refine wpQuiet_step (fun K hK => ?_)); go_simp; first | ((with_reducible refine hK _ ?_); clear hK K) | (apply Exists.intro; refine ⟨fun _ => ?_, hK _ ?_⟩; (first | (go_at_call 50; exact Calls.grown_of (HH.out _)) | (go_at_call 47; exact Calls.grown_of (HL.out _))); clear hK K)))
              with_reducible refine wpQuiet_nil ?_
              intro _ hw'
              obtain ⟨⟨nq, osq⟩, hw''⟩ := hw'
              subst hw''
              go_wp2_with fail
              go_ret
              exact ⟨by rw [HTF.out]; rfl, HB1.out.trans ((Grew.bel ⟨nq, osq, rfl⟩).mono hszW)⟩
      · have htt : t = true := by
          rw [← HT.out, chk_end k hgood (by omega)]
          exact decide_eq_true (by omega)
        have HBW := Lib.hid hbw
        clear hbw hgood
        go_wp2_with fail
        go_ret
        exact ⟨by rw [htt]; rfl, HBW.out⟩

set_option maxHeartbeats 4000000 in
theorem refcheck_any (l : List (Int × Int)) (A : Option Addr) (n c : Nat) (w : World) (ha : Rs w A n c l) :
    Calls Try.prog 30 #[.slice A n c] w (Tells (chk l) w) := by
  obtain ⟨t, ht⟩ : ∃ t, chk l = t := ⟨_, rfl⟩
  rw [ht]
  have hla := ha.len
  have HA := Lib.hid ha
  have hca := And.intro ha.le ha.cap
  unfold maxLen at hca
  have HT := Lib.hid ht
  clear ht ha
  go_enter Try.func30, Try.ntmps30
  go_wp2_with fail
  go_loopw [3] (ChkRel l w) (fun v _ => n - (intOf v).toNat)
  case atStart => exact ⟨0, rfl, Nat.zero_le _, by simp [goods_nil], Below.refl _ _⟩
  case round =>
    obtain ⟨k, rfl, hk, hgood, hbw⟩ := hrel
    have hsz := hbw.size
    by_cases hlt : k < n
    · obtain ⟨g, o, x, rfl, hg, hx, c1, c2⟩ := (HA.out.below hbw).at_ hlt
      have hrs := HA.out.below hbw
      have HX := Lib.hid hx
      have HBW := Lib.hid hbw
      have HGD := Lib.hid hgood
      clear hx hbw hgood
      obtain ⟨x1, x2⟩ := x
      simp only at c1 c2
      have HRR := Lib.hid (fun W => refright_grew (x1, x2) W)
      have hd0 := fun q os => cell_grown (w := wr) (a := ⟨g, o + k * 2, none⟩) hg c1 q os
      have hd1 := fun q os => cell_grown (w := wr) (a := ⟨g, o + k * 2 + 1, none⟩) hg c2 q os
      clear c1 c2
      go_wp2_with fail
      cases hr : right (x1, x2) with
      | false =>
        have hh := HRR.out
        rw [hr] at hh
        have HH := Lib.hid hh
        have HTF := Lib.hid (HT.out.symm.trans (chk_wrong HX.out hr))
        clear hr hh hrs
        refine wp_region_quiet_grown (by kernel_rfl) (by kernel_rfl) ?_
        repeat (first | ((with_reducible refine wpQuiet_skip ?_ ?_); (focus rfl); simp only [Act.put, List.setIfInBounds_toArray, List.set_cons_zero, List.set_cons_succ]) | ((with_reducible refine wpQuiet_step (fun K hK => ?_)); go_simp; first | ((with_reducible refine hK _ ?_); clear hK K) | (apply Exists.intro; refine ⟨fun _ => ?_, hK _ ?_⟩; (exact Calls.grown_of (HH.out _)); clear hK K)))
        with_reducible refine wpQuiet_nil ?_
        intro _ hw'
        obtain ⟨⟨nq, osq⟩, hw''⟩ := hw'
        subst hw''
        go_wp2_with fail
        go_ret
        exact ⟨by rw [HTF.out]; rfl, HBW.out.trans ((Grew.bel ⟨nq, osq, rfl⟩).mono hsz)⟩
      | true =>
        have hh := HRR.out
        rw [hr] at hh
        have HH := Lib.hid hh
        have HR := Lib.hid hr
        clear hh hr
        rcases Nat.eq_zero_or_pos k with hk0 | hk0
        · subst hk0
          clear hrs
          simp only [Nat.zero_mul, Nat.add_zero] at hd0 hd1
          refine wp_region_quiet_grown (by kernel_rfl) (by kernel_rfl) ?_
          repeat (first | ((with_reducible refine wpQuiet_skip ?_ ?_); (focus rfl); simp only [Act.put, List.setIfInBounds_toArray, List.set_cons_zero, List.set_cons_succ]) | ((with_reducible refine wpQuiet_step (fun K hK => ?_)); go_simp; first | ((with_reducible refine hK _ ?_); clear hK K) | (apply Exists.intro; refine ⟨fun _ => ?_, hK _ ?_⟩; (exact Calls.grown_of (HH.out _)); clear hK K)))
          with_reducible refine wpQuiet_nil ?_
          intro _ hw'
          obtain ⟨⟨nq, osq⟩, hw''⟩ := hw'
          subst hw''
          go_wp2_with fail
          go_roundw
          case rel => exact ⟨0 + 1, by simp, by omega, chk_first HX.out HR.out, HBW.out.trans ((Grew.bel ⟨nq, osq, rfl⟩).mono hsz)⟩
          case measure =>
            simp [intOf]
            omega
        · obtain ⟨j, hj⟩ : ∃ j, k = j + 1 := ⟨k - 1, by omega⟩
          have hjn : j < n := by omega
          have hwj : IntKind.i64.wrap ((k : Int) - 1) = j := by rw [wrap64 (by omega) (by omega)]; omega
          have hkp : (0 : Int) < (k : Int) := by omega
          have HJ := Lib.hid (show k - 1 = j by omega)
          clear hj
          obtain ⟨g', o', y, he, hg', hy, f1, f2⟩ := hrs.at_ (k := j) (by omega)
          injection he with he
          injection he with he1 he2
          subst he1; subst he2
          have HY := Lib.hid hy
          have hc1 := fun q os => cell_grown (w := wr) (a := ⟨g, o + j * 2, none⟩) hg' f1 q os
          have hc2 := fun q os => cell_grown (w := wr) (a := ⟨g, o + j * 2 + 1, none⟩) hg' f2 q os
          have hll := fun W => refless_grew y (x1, x2) W
          clear hy f1 f2 hrs
          cases hl : lt y (x1, x2) with
          | true =>
            rw [hl] at hll
            have HL := Lib.hid hll
            have HG := Lib.hid (chk_more HX.out hk0 (by rw [HJ.out]; exact HY.out) HGD.out HR.out hl)
            clear hll hl
            obtain ⟨y1, y2⟩ := y
            simp only at hc1 hc2
            refine wp_region_quiet_grown (by kernel_rfl) (by kernel_rfl) ?_
            repeat (first | ((with_reducible refine wpQuiet_skip ?_ ?_); (focus rfl); simp only [Act.put, List.setIfInBounds_toArray, List.set_cons_zero, List.set_cons_succ]) | ((with_reducible refine wpQuiet_step (fun K hK => ?_)); go_simp; first | ((with_reducible refine hK _ ?_); clear hK K) | (apply Exists.intro; refine ⟨fun _ => ?_, hK _ ?_⟩; (first | (go_at_call 51; exact Calls.grown_of (HH.out _)) | (go_at_call 52; exact Calls.grown_of (HL.out _))); clear hK K)))
            with_reducible refine wpQuiet_nil ?_
            intro _ hw'
            obtain ⟨⟨nq, osq⟩, hw''⟩ := hw'
            subst hw''
            go_wp2_with fail
            go_roundw
            case rel => exact ⟨k + 1, by simp, by omega, HG.out, HBW.out.trans ((Grew.bel ⟨nq, osq, rfl⟩).mono hsz)⟩
            case measure =>
              simp [intOf]
              omega
          | false =>
            rw [hl] at hll
            have HL := Lib.hid hll
            have HTF := Lib.hid (HT.out.symm.trans (chk_back HX.out hk0 (by rw [HJ.out]; exact HY.out) hl))
            clear hll hl
            obtain ⟨y1, y2⟩ := y
            simp only at hc1 hc2
            refine wp_region_quiet_grown (by kernel_rfl) (by kernel_rfl) ?_
            repeat (first | ((with_reducible refine wpQuiet_skip ?_ ?_); (focus rfl); simp only [Act.put, List.setIfInBounds_toArray, List.set_cons_zero, List.set_cons_succ]) | ((with_reducible refine wpQuiet_step (fun K hK => ?_)); go_simp; first | ((with_reducible refine hK _ ?_); clear hK K) | (apply Exists.intro; refine ⟨fun _ => ?_, hK _ ?_⟩; (first | (go_at_call 51; exact Calls.grown_of (HH.out _)) | (go_at_call 52; exact Calls.grown_of (HL.out _))); clear hK K)))
            with_reducible refine wpQuiet_nil ?_
            intro _ hw'
            obtain ⟨⟨nq, osq⟩, hw''⟩ := hw'
            subst hw''
            go_wp2_with fail
            go_ret
            exact ⟨by rw [HTF.out]; rfl, HBW.out.trans ((Grew.bel ⟨nq, osq, rfl⟩).mono hsz)⟩
    · have HTE := Lib.hid (HT.out.symm.trans (chk_end k hgood (by omega)))
      have HBW := Lib.hid hbw
      clear hbw hgood
      rw [hla] at HTE
      go_wp2_with fail
      go_ret
      refine ⟨?_, HBW.out⟩
      rw [HTE.out]
      simp
      omega
end Go.Proofs.Ytccbkpdkmdnmfaa
