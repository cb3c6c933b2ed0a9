/-
  The walk of the statement IdsOrder.
-/
import Derived.Test.YtmbmgmelnejceaaDoorIdsAwake
import Derived.Test.YtmbmgmelnejceaaDoorIdsHas
import Derived.Deep.Cut
namespace Go.Proofs.YtmbmgmelnejceaaDoor
open Go.RowKit Mem Ids Go.Sort

/-- The list's end, turned round, as it is laid. -/
def RvRel (l : List (Int × Int)) (B : Nat) (w : World) (v11 v12 : Value) (wr : World) : Prop :=
  ∃ (k : Nat) (V : Option Addr) (m c : Nat), v11 = .slice V m c ∧ v12 = .int .i64 ((k : Int) - 1) ∧ k ≤ l.length ∧ (l.drop k).length = m ∧ wr.ownsRow B 24 2 (.slice V m c) m (cells (l.drop k).reverse) ∧ Below w.heap.size w wr
theorem setl_same {a b : List (Int × Int)} (h : ∀ x, x ∈ a ↔ x ∈ b) : setl a = setl b := up_unique _ _ (up_setl a) (up_setl b) fun x => by rw [mem_setl, mem_setl]; exact h x
theorem setl_self {l : List (Int × Int)} (h : Up l) : setl l = l := (setl_eq h fun _ => Iff.rfl).symm

set_option maxHeartbeats 4000000 in
theorem idsorder_true (l : List (Int × Int)) (a b c : Int × Int) (A : Option Addr) (n cp : Nat) (w : World) (hl : Rs w A n cp l) (hT : Tab w) :
    Calls Tryd.prog 6 #[.slice A n cp, .agg #[.int .i64 a.1, .int .i64 a.2], .agg #[.int .i64 b.1, .int .i64 b.2], .agg #[.int .i64 c.1, .int .i64 c.2]] w (Tells true w) := by
  obtain ⟨i0, hi, hz0, hz1, hz2⟩ := info_parts infoId
  have hla := hl.len
  have hca := And.intro hl.le hl.cap
  unfold maxLen at hca
  obtain ⟨W, hW⟩ : ∃ W, W = ((w.alloc (.cells #[.int .i64 a.1, .int .i64 a.2] 24)).alloc (.cells #[.int .i64 b.1, .int .i64 b.2] 24)).alloc (.cells #[.int .i64 c.1, .int .i64 c.2] 24) := ⟨_, rfl⟩
  have hbw : Below w.heap.size w W := by rw [hW]; exact bel_alloc (bel_alloc (bel_alloc (Below.refl _ _) _) _) _
  have hsz : W.heap.size = w.heap.size + 1 + 1 + 1 := by rw [hW]; simp
  have ka : Blk W w.heap.size 24 #[.int .i64 a.1, .int .i64 a.2] := by rw [hW]; exact ((Blk.new _ _ _).alloc _).alloc _
  have kb : Blk W (w.heap.size + 1) 24 #[.int .i64 b.1, .int .i64 b.2] := by
    have := Blk.new (w.alloc (.cells #[.int .i64 a.1, .int .i64 a.2] 24)) 24 #[.int .i64 b.1, .int .i64 b.2]
    rw [size_alloc] at this
    rw [hW]; exact this.alloc _
  have kc : Blk W (w.heap.size + 1 + 1) 24 #[.int .i64 c.1, .int .i64 c.2] := by
    have := Blk.new ((w.alloc (.cells #[.int .i64 a.1, .int .i64 a.2] 24)).alloc (.cells #[.int .i64 b.1, .int .i64 b.2] 24)) 24 #[.int .i64 c.1, .int .i64 c.2]
    rw [size_alloc, size_alloc] at this
    rw [hW]; exact this
  have hl1 := hl.below hbw
  have hT1 := hT.below hbw
  have HB := Lib.hid hbw
  have HL := Lib.hid hl1
  have HT := Lib.hid hT1
  have hA : ∀ W', Below W.heap.size W W' → Calls Tryd.prog 7 #[] W' (Tells true W') := fun W' h => awake_any W' (hT1.below h)
  have HA := Lib.hid hA
  clear hl hl1 hT hT1 hbw hA
  go_enter Tryd.func6, Tryd.ntmps6
  by_cases h60 : 60 < n
  · go_wp2_with fail
    rw [← hW]
    refine (HA.out W (Below.refl _ _)).mono ?_
    rintro e w1 ⟨rfl, hb1⟩
    have HB1 := Lib.hid hb1
    clear hb1
    go_wp2_with fail
    go_ret
    exact ⟨rfl, bel_trans HB.out HB1.out⟩
  · go_wp2_with fail
    rw [← hW]
    clear hW
    have a0 := fun p : BelBy W => p.cell (a := ⟨w.heap.size, 0, none⟩) ka.lt (ka.cell 0)
    have a1 := fun p : BelBy W => p.cell (a := ⟨w.heap.size, 1, none⟩) ka.lt (ka.cell 1)
    have b0 := fun p : BelBy W => p.cell (a := ⟨w.heap.size + 1, 0, none⟩) kb.lt (kb.cell 0)
    have b1 := fun p : BelBy W => p.cell (a := ⟨w.heap.size + 1, 1, none⟩) kb.lt (kb.cell 1)
    have H1 := Lib.hid (fun W => less_any a b W)
    have H2 := Lib.hid (fun W => less_any b a W)
    have HKA := Lib.hid ka
    have HKB := Lib.hid kb
    have HKC := Lib.hid kc
    clear ka kb kc
    obtain ⟨x, hx⟩ : ∃ x, lt a b = x := ⟨_, rfl⟩
    obtain ⟨y, hy⟩ : ∃ y, lt b a = y := ⟨_, rfl⟩
    rw [hx] at H1
    rw [hy] at H2
    have HXY := Lib.hid (And.intro hx hy)
    clear hx hy
    refine wp_region_bel (by kernel_rfl) (by kernel_rfl) ?_
    repeat (first | ((with_reducible refine wpQuiet_skip ?_ ?_); (focus rfl); simp only [Act.put, List.setIfInBounds_toArray, List.set_cons_zero, List.set_cons_succ]) | ((with_reducible refine wpQuiet_step (fun K hK => ?_)); go_simp; (with_reducible refine hK _ ?_); clear hK K))
    with_reducible refine wpQuiet_step (fun K hK => ?_)
    go_simp
    apply Exists.intro
    refine ⟨fun _ => ?_, hK _ ?_⟩
    exact Calls.bel_tells (H1.out _)
    clear hK K
    repeat (first | ((with_reducible refine wpQuiet_skip ?_ ?_); (focus rfl); simp only [Act.put, List.setIfInBounds_toArray, List.set_cons_zero, List.set_cons_succ]) | ((with_reducible refine wpQuiet_step (fun K hK => ?_)); go_simp; (with_reducible refine hK _ ?_); clear hK K))
    with_reducible refine wpQuiet_step (fun K hK => ?_)
    go_simp
    apply Exists.intro
    refine ⟨fun _ => ?_, hK _ ?_⟩
    exact Calls.bel_tells (H2.out _)
    clear hK K
    repeat (first | ((with_reducible refine wpQuiet_skip ?_ ?_); (focus rfl); simp only [Act.put, List.setIfInBounds_toArray, List.set_cons_zero, List.set_cons_succ]) | ((with_reducible refine wpQuiet_step (fun K hK => ?_)); go_simp; (with_reducible refine hK _ ?_); clear hK K))
    with_reducible refine wpQuiet_nil ?_
    intro W9 hw'
    obtain ⟨p9, hp9⟩ := hw'
    have hW9 := p9.h
    rw [← hp9] at hW9
    clear hp9 p9
    have HW9 := Lib.hid hW9
    clear hW9 a0 a1 b0 b1
    go_upto_region 4 with fail
    go_cut [54] from 24 (fun cv wx => cv = .bool false ∧ Below W.heap.size W wx)
    case first =>
      have f0 := (HKA.out.bel HW9.out).cell 0
      have f1 := (HKA.out.bel HW9.out).cell 1
      have d0 := (HKB.out.bel HW9.out).cell 0
      have d1 := (HKB.out.bel HW9.out).cell 1
      have e0 := (HKC.out.bel HW9.out).cell 0
      have e1 := (HKC.out.bel HW9.out).cell 1
      simp at d0 d1 e0 e1 f0 f1
      cases x with
      | true =>
        cases y with
        | true =>
          have h1 := lt_asymm HXY.out.1
          rw [HXY.out.2] at h1
          cases h1
        | false =>
          have hl3 := less_any b c W9
          cases hbc : lt b c with
          | true =>
            rw [hbc] at hl3
            have HAC := Lib.hid (lt_trans HXY.out.1 hbc)
            have HL3 := Lib.hid hl3
            clear hl3 hbc
            go_wp2_with fail
            refine HL3.out.mono ?_
            rintro e Wy ⟨rfl, hby⟩
            have f0 := (HKA.out.bel (bel_trans HW9.out hby)).cell 0
            have f1 := (HKA.out.bel (bel_trans HW9.out hby)).cell 1
            have g0 := (HKC.out.bel (bel_trans HW9.out hby)).cell 0
            have g1 := (HKC.out.bel (bel_trans HW9.out hby)).cell 1
            simp at f0 f1 g0 g1
            have HBY := Lib.hid hby
            have hl4 := less_any a c Wy
            rw [HAC.out] at hl4
            have HL4 := Lib.hid hl4
            clear hby hl4
            go_wp2_with fail
            refine HL4.out.mono ?_
            rintro e Wx ⟨rfl, hbz⟩
            have HBZ := Lib.hid hbz
            clear hbz
            go_wp2_with fail
            go_meet
            case rel => exact ⟨rfl, bel_trans HW9.out (bel_trans HBY.out HBZ.out)⟩
          | false =>
            rw [hbc] at hl3
            have HL3 := Lib.hid hl3
            clear hl3 hbc
            go_wp2_with fail
            refine HL3.out.mono ?_
            rintro e Wx ⟨rfl, hby⟩
            have HBY := Lib.hid hby
            clear hby
            go_wp2_with fail
            go_meet
            case rel => exact ⟨rfl, bel_trans HW9.out HBY.out⟩
      | false =>
        cases y with
        | true =>
          go_wp2_with fail
          go_meet
          case rel => exact ⟨rfl, HW9.out⟩
        | false =>
          have hab' : a = b := lt_tri HXY.out.1 HXY.out.2
          have hneq := neq_id a b
          rw [decide_eq_true hab'] at hneq
          simp only [Bool.not_true] at hneq
          clear hab'
          go_wp2_with fail
          go_meet
          case rel => exact ⟨rfl, HW9.out⟩
    case rest =>
      obtain ⟨rfl, hbx⟩ := hcut
      generalize wc = Wx at hbx ⊢
      have hszx := hbx.size
      have hwn : IntKind.i64.wrap ((n : Int) - 1) = (n : Int) - 1 := wrap64 (by omega) (by omega)
      have HBX := Lib.hid hbx
      have HLX := Lib.hid (HL.out.below hbx)
      clear hbx
      go_wp2_with fail
      go_loopw [11, 12] (RvRel l Wx.heap.size Wx) (fun _ v _ => (intOf v + 1).toNat)
      case atStart => exact ⟨n, none, 0, 0, rfl, rfl, by omega, by rw [List.length_drop]; omega, by rw [List.drop_eq_nil_of_le (by omega)]; exact ⟨rfl, .inl ⟨rfl, rfl⟩⟩, Below.refl _ _⟩
      case round =>
        obtain ⟨k, V, m, cv, rfl, rfl, hk, hm, hown, hbw⟩ := hrel
        have hszr := hbw.size
        have hmn : m ≤ 60 := by rw [← hm, List.length_drop]; omega
        rcases Nat.eq_zero_or_pos k with h0 | h0
        · subst h0
          rw [List.drop_zero] at hown hm
          have hml : m = n := by omega
          subst hml
          have hbr := bel_trans HBX.out hbw
          have HBR := Lib.hid hbr
          have hrm := Rs.own hown
          have HRM := Lib.hid hrm
          have HS1 := Lib.hid (set_any l A m cp wr (HLX.out.below hbw) (by omega))
          clear hown hbr hrm hbw
          go_wp2_with fail
          refine HS1.out.mono ?_
          rintro e w1 ⟨V1, c1, rfl, hr1, hb1⟩
          have hle1 := length_setl l
          have hcap1 := And.intro hr1.le hr1.cap
          unfold maxLen at hcap1
          have HB1 := Lib.hid hb1
          have HR1 := Lib.hid hr1
          have HS2 := Lib.hid (set_any l.reverse V m cv w1 (HRM.out.below hb1) (by omega))
          rw [setl_same (b := l) (fun x => List.mem_reverse)] at HS2
          clear hr1 hb1
          go_wp2_with fail
          refine HS2.out.mono ?_
          rintro e w2 ⟨V2, c2, rfl, hr2, hb2⟩
          have HE1 := Lib.hid (equal_any (setl l) (setl l) V1 V2 _ c1 _ c2 w2 (HR1.out.below hb2) hr2)
          rw [decide_eq_true rfl] at HE1
          have HB2 := Lib.hid hb2
          clear hr2 hb2
          go_wp2_with fail
          refine HE1.out.mono ?_
          rintro e w3 ⟨rfl, hb3⟩
          have HR3 := Lib.hid ((HR1.out.below HB2.out).below hb3)
          have HS3 := Lib.hid (set_any (setl l) V1 _ c1 w3 HR3.out (by omega))
          rw [setl_self (up_setl l)] at HS3
          have HB3 := Lib.hid hb3
          clear hb3
          go_wp2_with fail
          refine HS3.out.mono ?_
          rintro e w4 ⟨V4, c4, rfl, hr4, hb4⟩
          have HE2 := Lib.hid (equal_any (setl l) (setl l) V1 V4 _ c1 _ c4 w4 (HR3.out.below hb4) hr4)
          rw [decide_eq_true rfl] at HE2
          have HB4 := Lib.hid hb4
          clear hr4 hb4
          go_wp2_with fail
          refine HE2.out.mono ?_
          rintro e w5 ⟨rfl, hb5⟩
          have hb14 := bel_trans HB1.out (bel_trans HB2.out (bel_trans HB3.out (bel_trans HB4.out hb5)))
          have hbf := bel_trans HBR.out hb14
          have HBF := Lib.hid hbf
          clear hb5 hb14 hbf
          obtain ⟨s, hs⟩ : ∃ s, (setl l).length = s := ⟨_, rfl⟩
          rw [hs] at hle1 hcap1
          rw [hs]
          have hsn : s ≤ m := by omega
          clear hs
          go_wp2_with fail
          refine (HA.out w5 HBF.out).mono ?_
          rintro e w6 ⟨rfl, hb6⟩
          have HB6 := Lib.hid hb6
          clear hb6
          go_wp2_with fail
          go_ret
          exact ⟨rfl, bel_trans (bel_trans HB.out HBF.out) HB6.out⟩
        · obtain ⟨j, rfl⟩ : ∃ j, k = j + 1 := ⟨k - 1, by omega⟩
          rw [show (((j + 1 : Nat) : Int)) - 1 = (j : Int) by omega]
          have hjn : j < n := by omega
          have hwj : IntKind.i64.wrap ((j : Int) - 1) = (j : Int) - 1 := wrap64 (by omega) (by omega)
          obtain ⟨g, o, y, rfl, hg, hy, c1, c2⟩ := (HLX.out.below hbw).at_ hjn
          have HY := Lib.hid hy
          have HO := Lib.hid hown
          have HBW := Lib.hid hbw
          have HM := Lib.hid hm
          clear hown hbw hm hy
          obtain ⟨y1, y2⟩ := y
          simp only at c1 c2
          go_wp2_with (at_builtin; refine wpList_append_rs rfl _ _ 22 rfl Wx.heap.size 24 i0 _ Tryd.underlying22 hi hz0 hz1 hz2 rfl V m cv _ rfl (World.ownsRow.alloc HO.out _) _ 1 1 [(y1, y2)] rfl (Rs.lit _ [(y1, y2)] _ _ 1 rfl rfl (by simp [maxLen])) (by omega) (by simp; omega) ?_; intro V3 c3 w3 hown3 _ hb3)
          have HO3 := Lib.hid hown3
          have HB3 := Lib.hid hb3
          clear hown3 hb3
          go_roundw
          case rel =>
            have hjl : j < l.length := by omega
            have hel : l[j] = (y1, y2) := by have := HY.out; rw [List.getElem?_eq_getElem hjl] at this; injection this
            refine ⟨j, V3, m + 1, c3, rfl, rfl, by omega, ?_, ?_, (HBW.out.alloc hszr _).trans HB3.out⟩
            · have := HM.out
              rw [List.length_drop] at *
              omega
            · rw [List.drop_eq_getElem_cons hjl, hel, List.reverse_cons]
              exact HO3.out
          case measure =>
            simp [intOf]
            try omega
end Go.Proofs.YtmbmgmelnejceaaDoor
