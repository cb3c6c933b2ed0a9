/-
  The walk of the statement IdsJoins.
-/
import Derived.Test.YtmbmgmelnejceaaDoorIdsAwake
import Derived.Test.YtmbmgmelnejceaaDoorIdsHas
import Derived.Test.YtmbmgmelnejceaaDoorIdsJoin
import Derived.Test.YtmbmgmelnejceaaDoorIdsDel
import Derived.Deep.RegionHeld3
import Derived.Test.YtmbmgmelnejceaaDoorHeld
namespace Go.Proofs.YtmbmgmelnejceaaDoor
open Go.RowKit Mem Ids Go.Sort

/-- .. the length under a name of its own. -/
def GetsN (w : World) (n : Nat) (l : List (Int × Int)) (e : Ending) (w' : World) : Prop := ∃ A c, e = .returned (.slice A n c) ∧ Rs w' A n c l ∧ Below w.heap.size w w'
theorem Gets.n {w : World} {n : Nat} {l : List (Int × Int)} (hn : l.length = n) {e : Ending} {w' : World} (h : Gets w l e w') : GetsN w n l e w' := by
  subst hn
  exact h
theorem joinl_same {a b c : List (Int × Int)} (hc : Up c) (h : ∀ x, (x ∈ a ∨ x ∈ b) ↔ x ∈ c) : joinl a b = c := up_unique _ _ (up_joinl a b) hc fun x => (mem_joinl a b x).trans (h x)
def UpRel (w : World) (v : Value) (wr : World) : Prop := ∃ k : Nat, v = .int .i64 k ∧ 1 ≤ k ∧ k ≤ 1000 ∧ Below w.heap.size w wr

set_option maxHeartbeats 8000000 in
theorem idsjoins_true (la lb : List (Int × Int)) (i : Int × Int) (A B : Option Addr) (n ca m cb : Nat) (w : World) (ha : Rs w A n ca la) (hb : Rs w B m cb lb) (hT : Tab w) :
    Calls Tryd.prog 5 #[.slice A n ca, .slice B m cb, .agg #[.int .i64 i.1, .int .i64 i.2]] w (Tells true w) := by
  have hla := ha.len
  have hlb := hb.len
  have hcA := And.intro ha.le ha.cap
  have hcB := And.intro hb.le hb.cap
  unfold maxLen at hcA hcB
  obtain ⟨W, hW⟩ : ∃ W, W = w.alloc (.cells #[.int .i64 i.1, .int .i64 i.2] 24) := ⟨_, rfl⟩
  have hbw : Below w.heap.size w W := by rw [hW]; exact bel_alloc (Below.refl _ _) _
  have ki : Blk W w.heap.size 24 #[.int .i64 i.1, .int .i64 i.2] := by rw [hW]; exact Blk.new _ _ _
  have HRA := Lib.hid (ha.below hbw)
  have HRB := Lib.hid (hb.below hbw)
  have hT1 := hT.below hbw
  have HB := Lib.hid hbw
  have HKI := Lib.hid ki
  have hA : ∀ W', Below W.heap.size W W' → Calls Tryd.prog 7 #[] W' (Tells true W') := fun W' h => awake_any W' (hT1.below h)
  have HA := Lib.hid hA
  clear ha hb hT hT1 hbw hA ki
  go_enter Tryd.func5, Tryd.ntmps5
  by_cases h60 : 60 < n
  · go_wp2_with fail
    rw [← hW]
    refine (HA.out W (Below.refl _ _)).mono ?_
    rintro e w1 ⟨rfl, hb1⟩
    have HB1 := Lib.hid hb1
    clear hb1
    go_wp2_with fail
    go_ret
    exact ⟨rfl, bel_trans HB.out HB1.out⟩
  · by_cases h61 : 60 < m
    · go_wp2_with fail
      rw [← hW]
      refine (HA.out W (Below.refl _ _)).mono ?_
      rintro e w1 ⟨rfl, hb1⟩
      have HB1 := Lib.hid hb1
      clear hb1
      go_wp2_with fail
      go_ret
      exact ⟨rfl, bel_trans HB.out HB1.out⟩
    · go_wp2_with fail
      rw [← hW]
      clear hW
      have HS1 := Lib.hid (set_any la A n ca W HRA.out (by omega))
      refine HS1.out.mono ?_
      rintro e w1 ⟨V1, c1, rfl, hr1, hb1⟩
      have HS2 := Lib.hid (set_any lb B m cb w1 (HRB.out.below hb1) (by omega))
      have hx1 := length_setl la
      have hy1 := length_setl lb
      have HUX := Lib.hid (up_setl la)
      have HUY := Lib.hid (up_setl lb)
      generalize setl la = lx at hr1 hx1 HUX ⊢
      generalize setl lb = ly at HS2 hy1 HUY ⊢
      obtain ⟨nx, hnx⟩ : ∃ nx, lx.length = nx := ⟨_, rfl⟩
      obtain ⟨ny, hny⟩ : ∃ ny, ly.length = ny := ⟨_, rfl⟩
      rw [hnx] at hr1 hx1 ⊢
      rw [hny] at hy1
      have HR1 := Lib.hid hr1
      have HB1 := Lib.hid hb1
      clear hr1 hb1
      go_wp2_with fail
      refine HS2.out.mono ?_
      rintro e w2 ⟨V2, c2, rfl, hr2, hb2⟩
      rw [hny] at hr2 ⊢
      have HR2 := Lib.hid hr2
      have HB2 := Lib.hid hb2
      have HS3 := Lib.hid (join_any lx ly V1 V2 nx c1 ny c2 w2 (HR1.out.below hb2) hr2 HUX.out HUY.out (by omega) (by omega))
      clear hr2 hb2
      go_wp2_with fail
      refine HS3.out.mono ?_
      rintro e w3 ⟨V3, c3, rfl, hr3, hb3⟩
      have hj1 := length_joinl lx ly
      have HUJ := Lib.hid (up_joinl lx ly)
      have HMJ := Lib.hid (mem_joinl lx ly)
      generalize joinl lx ly = lj at hr3 hj1 HUJ HMJ ⊢
      obtain ⟨nj, hnj⟩ : ∃ nj, lj.length = nj := ⟨_, rfl⟩
      rw [hnj] at hr3 hj1 ⊢
      rw [hnx, hny] at hj1
      have hcJ := And.intro hr3.le hr3.cap
      unfold maxLen at hcJ
      have HR3 := Lib.hid hr3
      have HRX := Lib.hid ((HR1.out.below HB2.out).below hb3)
      have HRY := Lib.hid (HR2.out.below hb3)
      have HB3 := Lib.hid (bel_trans HB1.out (bel_trans HB2.out hb3))
      have HNJ := Lib.hid (And.intro hnx (And.intro hny hnj))
      clear hr3 hb3 hnx hny
      go_wp2_with fail
      go_loopw [10] (UpRel w3) (fun v _ => nj - (intOf v).toNat)
      case atStart => exact ⟨1, rfl, Nat.le_refl _, by omega, Below.refl _ _⟩
      case round =>
        obtain ⟨k, rfl, hk1, hkb, hbr⟩ := hrel
        by_cases hlt : k < nj
        · obtain ⟨j, hj⟩ : ∃ j, k = j + 1 := ⟨k - 1, by omega⟩
          have hjn : j < nj := by omega
          have hwj : IntKind.i64.wrap ((k : Int) - 1) = j := by rw [wrap64 (by omega) (by omega)]; omega
          have hrr := HR3.out.below hbr
          obtain ⟨g, o, x, rfl, hg, hx, c1', c2'⟩ := hrr.at_ hlt
          obtain ⟨g', o', y, he, hg', hy, d1, d2⟩ := hrr.at_ hjn
          injection he with he
          injection he with he1 he2
          subst he1; subst he2
          have hyx : lt y x = true := by
            obtain ⟨hx', rfl⟩ := List.getElem?_eq_some_iff.1 hx
            obtain ⟨hy', rfl⟩ := List.getElem?_eq_some_iff.1 hy
            exact List.pairwise_iff_getElem.1 HUJ.out j k hy' hx' (by omega)
          have hll := fun W => less_any y x W
          rw [hyx] at hll
          have HLL := Lib.hid hll
          have a0 := fun p : BelBy wr => p.cell (a := ⟨g, o + k * 2, none⟩) hg c1'
          have a1 := fun p : BelBy wr => p.cell (a := ⟨g, o + k * 2 + 1, none⟩) hg c2'
          have b0 := fun p : BelBy wr => p.cell (a := ⟨g, o + j * 2, none⟩) hg d1
          have b1 := fun p : BelBy wr => p.cell (a := ⟨g, o + j * 2 + 1, none⟩) hg d2
          have HBR := Lib.hid hbr
          obtain ⟨x1, x2⟩ := x
          obtain ⟨y1, y2⟩ := y
          simp only at a0 a1 b0 b1
          clear hrr hx hy hyx hll hbr hj c1' c2' d1 d2
          go_wp2_with fail
          refine wp_region_bel (by kernel_rfl) (by kernel_rfl) ?_
          repeat (first | ((with_reducible refine wpQuiet_skip ?_ ?_); (focus rfl); simp only [Act.put, List.setIfInBounds_toArray, List.set_cons_zero, List.set_cons_succ]) | ((with_reducible refine wpQuiet_step (fun K hK => ?_)); go_simp; first | ((with_reducible refine hK _ ?_); clear hK K) | (apply Exists.intro; refine ⟨fun _ => ?_, hK _ ?_⟩; exact Calls.bel_tells (HLL.out _); clear hK K)))
          with_reducible refine wpQuiet_nil ?_
          intro W9 hw'
          obtain ⟨p9, hp9⟩ := hw'
          have hW9 := p9.h
          rw [← hp9] at hW9
          clear hp9 p9
          have HW9 := Lib.hid hW9
          clear hW9
          go_wp2_with fail
          go_roundw
          case rel => exact ⟨k + 1, by simp, by omega, by omega, bel_trans HBR.out HW9.out⟩
          case measure =>
            simp [intOf]
            omega
        · have HBR := Lib.hid (bel_trans HB3.out hbr)
          have HJ := Lib.hid (HR3.out.below hbr)
          have HX := Lib.hid (HRX.out.below hbr)
          have HY := Lib.hid (HRY.out.below hbr)
          clear hbr
          have kr := HKI.out.bel HBR.out
          have hblt := kr.lt
          have c0 : wr.cell? ⟨w.heap.size, 0, none⟩ = some (.int .i64 i.1) := kr.cell 0
          have c1' : wr.cell? ⟨w.heap.size, 1, none⟩ = some (.int .i64 i.2) := kr.cell 1
          obtain ⟨bx, hbx⟩ : ∃ b, decide (i ∈ lx) = b := ⟨_, rfl⟩
          obtain ⟨bz, hbz⟩ : ∃ b, decide (i ∈ ly) = b := ⟨_, rfl⟩
          have hbj : decide (i ∈ lj) = (bx || bz) := by
            rw [← hbx, ← hbz]
            by_cases h1 : i ∈ lx <;> by_cases h2 : i ∈ ly <;> simp [HMJ.out i, h1, h2]
          have HC1 := Lib.hid (fun W' (h : Below wr.heap.size wr W') => has_any lj i V3 nj c3 W' (HJ.out.below h) HUJ.out (by omega))
          have HC2 := Lib.hid (fun W' (h : Below wr.heap.size wr W') => has_any lx i V1 nx c1 W' (HX.out.below h) HUX.out (by omega))
          have HC3 := Lib.hid (fun W' (h : Below wr.heap.size wr W') => has_any ly i V2 ny c2 W' (HY.out.below h) HUY.out (by omega))
          have HC4 := Lib.hid (fun W' (h : Below wr.heap.size wr W') => (join_any ly lx V2 V1 ny c2 nx c1 W' (HY.out.below h) (HX.out.below h) HUY.out HUX.out (by omega) (by omega)))
          have HC6 := Lib.hid (fun W' (h : Below wr.heap.size wr W') => (join_any lj lj V3 V3 nj c3 nj c3 W' (HJ.out.below h) (HJ.out.below h) HUJ.out HUJ.out (by omega) (by omega)))
          have HC8 := Lib.hid (fun W' (h : Below wr.heap.size wr W') => (join_any lj lx V3 V1 nj c3 nx c1 W' (HJ.out.below h) (HX.out.below h) HUJ.out HUX.out (by omega) (by omega)))
          have HC10 := Lib.hid (fun W' (h : Below wr.heap.size wr W') => without_any lj i V3 nj c3 W' (HJ.out.below h) (by omega))
          rw [hbj] at HC1
          rw [hbx] at HC2
          rw [hbz] at HC3
          rw [joinl_same HUJ.out (fun x => by rw [HMJ.out x]; exact or_comm)] at HC4
          rw [joinl_same HUJ.out (fun x => by rw [or_self])] at HC6
          rw [joinl_same HUJ.out (fun x => ⟨fun h => h.elim id (fun h => (HMJ.out x).2 (.inl h)), .inl⟩)] at HC8
          have hcur : Below wr.heap.size wr wr.drew := Below.drew (Below.refl _ _)
          have HCUR := Lib.hid hcur
          clear hcur kr hbx hbz hbj
          obtain ⟨lf, hlf⟩ : ∃ lf, (lj.filter fun y => !decide (y = i)) = lf := ⟨_, rfl⟩
          have HUF := Lib.hid (hlf ▸ HUJ.out.filter _ : Up lf)
          have HIF := Lib.hid (show decide (i ∈ lf) = false by rw [← hlf]; simp)
          have hlfn : lf.length ≤ nj := by rw [← hlf, ← hnj]; exact List.length_filter_le _ _
          rw [hlf] at HC10
          obtain ⟨nf, hnf⟩ : ∃ nf, lf.length = nf := ⟨_, rfl⟩
          rw [hnf] at hlfn
          clear hlf
          cases bx with
          | false =>
            simp only [Bool.false_or] at HC1
            go_wp2_with fail
            go_region_held3 (fun w' => w'.cell? ⟨w.heap.size, 0, none⟩ = some (.int .i64 i.1) ∧ w'.cell? ⟨w.heap.size, 1, none⟩ = some (.int .i64 i.2)) (first | exact ⟨(HCUR.out.cell (p := ⟨w.heap.size, 0, none⟩) hblt).trans c0, (HCUR.out.cell (p := ⟨w.heap.size, 1, none⟩) hblt).trans c1'⟩)
              (first
                | (go_at_call 21
                   refine (HC1.out _ HCUR.out).mono ?_
                   rintro e v1 ⟨rfl, hb1⟩
                   have hnow := HCUR.out.trans (hb1.mono HCUR.out.size)
                   have HC2' := Lib.hid (HC2.out v1 hnow)
                   replace HCUR := Lib.hid hnow
                   clear HC1 HC2 hb1 hnow)
                | (go_at_call 21
                   refine HC2'.out.mono ?_
                   rintro e v2 ⟨rfl, hb1⟩
                   have hnow := HCUR.out.trans (hb1.mono HCUR.out.size)
                   have HC3' := Lib.hid (HC3.out v2 hnow)
                   replace HCUR := Lib.hid hnow
                   clear HC2' HC3 hb1 hnow)
                | (go_at_call 21
                   refine HC3'.out.mono ?_
                   rintro e v3 ⟨rfl, hb1⟩
                   have hnow := HCUR.out.trans (hb1.mono HCUR.out.size)
                   have HC4' := Lib.hid (HC4.out v3 hnow)
                   replace HCUR := Lib.hid hnow
                   clear HC3' HC4 hb1 hnow)
                | (go_at_call 19
                   refine HC4'.out.mono ?_
                   rintro e v4 ⟨V4, e4, rfl, hr1, hb1⟩
                   rw [hnj] at hr1 ⊢
                   have hnow := HCUR.out.trans (hb1.mono HCUR.out.size)
                   have HC5' := Lib.hid (equal_any lj lj V3 V4 nj c3 nj e4 v4 (HJ.out.below hnow) hr1)
                   rw [decide_eq_true rfl] at HC5'
                   replace HCUR := Lib.hid hnow
                   clear HC4' hr1 hb1 hnow)
                | (go_at_call 25
                   refine HC5'.out.mono ?_
                   rintro e v5 ⟨rfl, hb1⟩
                   have hnow := HCUR.out.trans (hb1.mono HCUR.out.size)
                   have HC6' := Lib.hid (HC6.out v5 hnow)
                   replace HCUR := Lib.hid hnow
                   clear HC5' HC6 hb1 hnow)
                | (go_at_call 19
                   refine HC6'.out.mono ?_
                   rintro e v6 ⟨V6, e6, rfl, hr1, hb1⟩
                   rw [hnj] at hr1 ⊢
                   have hnow := HCUR.out.trans (hb1.mono HCUR.out.size)
                   have HC7' := Lib.hid (equal_any lj lj V6 V3 nj e6 nj c3 v6 hr1 (HJ.out.below hnow))
                   rw [decide_eq_true rfl] at HC7'
                   replace HCUR := Lib.hid hnow
                   clear HC6' hr1 hb1 hnow)
                | (go_at_call 25
                   refine HC7'.out.mono ?_
                   rintro e v7 ⟨rfl, hb1⟩
                   have hnow := HCUR.out.trans (hb1.mono HCUR.out.size)
                   have HC8' := Lib.hid (HC8.out v7 hnow)
                   replace HCUR := Lib.hid hnow
                   clear HC7' HC8 hb1 hnow)
                | (go_at_call 19
                   refine HC8'.out.mono ?_
                   rintro e v8 ⟨V8, e8, rfl, hr1, hb1⟩
                   rw [hnj] at hr1 ⊢
                   have hnow := HCUR.out.trans (hb1.mono HCUR.out.size)
                   have HC9' := Lib.hid (equal_any lj lj V8 V3 nj e8 nj c3 v8 hr1 (HJ.out.below hnow))
                   rw [decide_eq_true rfl] at HC9'
                   replace HCUR := Lib.hid hnow
                   clear HC8' hr1 hb1 hnow)
                | (go_at_call 25
                   refine HC9'.out.mono ?_
                   rintro e v9 ⟨rfl, hb1⟩
                   have hnow := HCUR.out.trans (hb1.mono HCUR.out.size)
                   have HC10' := Lib.hid (HC10.out v9 hnow)
                   replace HCUR := Lib.hid hnow
                   clear HC9' HC10 hb1 hnow)
                | (go_at_call 23
                   refine HC10'.out.mono ?_
                   rintro e v10 ⟨V10, e10, rfl, hr1, hb1⟩
                   rw [hnf] at hr1 ⊢
                   have hnow := HCUR.out.trans (hb1.mono HCUR.out.size)
                   have HC11' := Lib.hid (has_any lf i V10 nf e10 v10 hr1 HUF.out (by omega))
                   rw [HIF.out] at HC11'
                   replace HCUR := Lib.hid hnow
                   clear HC10' hr1 hb1 hnow)
                | (go_at_call 21
                   refine HC11'.out.mono ?_
                   rintro e v11 ⟨rfl, hb1⟩
                   have hnow := HCUR.out.trans (hb1.mono HCUR.out.size)
                   have HC12' := Lib.hid (HA.out v11 (bel_trans HBR.out hnow))
                   replace HCUR := Lib.hid hnow
                   clear HC11' hb1 hnow)
                | (go_at_call 7
                   refine HC12'.out.mono ?_
                   rintro e v12 ⟨rfl, hb1⟩
                   have hnow := HCUR.out.trans (hb1.mono HCUR.out.size)
                   replace HCUR := Lib.hid hnow
                   clear HC12' hb1 hnow))
            all_goals (go_wp2_with fail)
            all_goals go_ret
            all_goals exact ⟨rfl, bel_trans HB.out (bel_trans HBR.out HCUR.out)⟩
          | true =>
            simp only [Bool.true_or] at HC1
            go_wp2_with fail
            refine wp_region_held_drew (S := fun w' => w'.cell? ⟨w.heap.size, 0, none⟩ = some (.int .i64 i.1) ∧ w'.cell? ⟨w.heap.size, 1, none⟩ = some (.int .i64 i.2)) (by kernel_rfl) ⟨(HCUR.out.cell (p := ⟨w.heap.size, 0, none⟩) hblt).trans c0, (HCUR.out.cell (p := ⟨w.heap.size, 1, none⟩) hblt).trans c1'⟩ (fun hHeld => ?_)
            refine held_take (i := 0) (d := 44) (v := .slice V3 nj c3) rfl rfl (by kernel_rfl) (by kernel_rfl) (by kernel_rfl) (fun _ _ _ h => h) (by kernel_rfl) (fun w hSw => by (obtain ⟨q0, q1⟩ := hSw); go_simp) hHeld ?_
            simp only [List.setIfInBounds_toArray, List.set_cons_zero, List.set_cons_succ]
            refine held_take (i := 1) (d := 45) (v := .agg #[.int .i64 i.1, .int .i64 i.2]) rfl rfl (by kernel_rfl) (by kernel_rfl) (by kernel_rfl) (fun _ _ _ h => h) (by kernel_rfl) (fun w hSw => by (obtain ⟨q0, q1⟩ := hSw); go_simp) hHeld ?_
            simp only [List.setIfInBounds_toArray, List.set_cons_zero, List.set_cons_succ]
            refine held_take (i := 3) (d := 47) (v := .slice V1 nx c1) rfl rfl (by kernel_rfl) (by kernel_rfl) (by kernel_rfl) (fun _ _ _ h => h) (by kernel_rfl) (fun w hSw => by (obtain ⟨q0, q1⟩ := hSw); go_simp) hHeld ?_
            simp only [List.setIfInBounds_toArray, List.set_cons_zero, List.set_cons_succ]
            refine held_take (i := 4) (d := 48) (v := .agg #[.int .i64 i.1, .int .i64 i.2]) rfl rfl (by kernel_rfl) (by kernel_rfl) (by kernel_rfl) (fun _ _ _ h => h) (by kernel_rfl) (fun w hSw => by (obtain ⟨q0, q1⟩ := hSw); go_simp) hHeld ?_
            simp only [List.setIfInBounds_toArray, List.set_cons_zero, List.set_cons_succ]
            refine wpAnyH_ready (rs := [2]) (by kernel_rfl) (by simp) ?_
            refine AllReadyH.cons rfl (fun K hK => ?_) AllReadyH.nil
            go_simp
            go_at_call 21
            refine (HC1.out _ HCUR.out).mono ?_
            rintro e v1 ⟨rfl, hb1⟩
            have hnow := HCUR.out.trans (hb1.mono HCUR.out.size)
            have HC2' := Lib.hid (HC2.out v1 hnow)
            replace HCUR := Lib.hid hnow
            clear HC1 HC2 hb1 hnow
            refine hK.out _ _ ⟨(HCUR.out.cell (p := ⟨w.heap.size, 0, none⟩) hblt).trans c0, (HCUR.out.cell (p := ⟨w.heap.size, 1, none⟩) hblt).trans c1'⟩ (fun hHeld => ?_)
            clear hK K
            refine wpAnyH_ready (rs := [5]) (by kernel_rfl) (by simp) ?_
            refine AllReadyH.cons rfl (fun K hK => ?_) AllReadyH.nil
            go_simp
            go_at_call 21
            refine HC2'.out.mono ?_
            rintro e v3 ⟨rfl, hb1⟩
            have hnow := HCUR.out.trans (hb1.mono HCUR.out.size)
            have HC4' := Lib.hid (HC4.out v3 hnow)
            replace HCUR := Lib.hid hnow
            clear HC2' HC4 hb1 hnow
            refine hK.out _ _ ⟨(HCUR.out.cell (p := ⟨w.heap.size, 0, none⟩) hblt).trans c0, (HCUR.out.cell (p := ⟨w.heap.size, 1, none⟩) hblt).trans c1'⟩ (fun hHeld => ?_)
            clear hK K
            refine held_take (i := 6) (d := 50) (v := .bool true) rfl rfl (by kernel_rfl) (by kernel_rfl) (by kernel_rfl) (fun _ _ _ h => h) (by kernel_rfl) (fun w hSw => by (obtain ⟨q0, q1⟩ := hSw); go_simp) hHeld ?_
            simp only [List.setIfInBounds_toArray, List.set_cons_zero, List.set_cons_succ]
            refine held_skip (i := 7) (d := 51) rfl rfl (by kernel_rfl) (by kernel_rfl) (by kernel_rfl) (fun _ _ _ h => h) (by kernel_rfl) hHeld ?_
            simp only [List.setIfInBounds_toArray, List.set_cons_zero, List.set_cons_succ]
            refine held_skip (i := 8) (d := 52) rfl rfl (by kernel_rfl) (by kernel_rfl) (by kernel_rfl) (fun _ _ _ h => h) (by kernel_rfl) hHeld ?_
            simp only [List.setIfInBounds_toArray, List.set_cons_zero, List.set_cons_succ]
            refine held_skip (i := 9) (d := 53) rfl rfl (by kernel_rfl) (by kernel_rfl) (by kernel_rfl) (fun _ _ _ h => h) (by kernel_rfl) hHeld ?_
            simp only [List.setIfInBounds_toArray, List.set_cons_zero, List.set_cons_succ]
            refine held_take (i := 10) (d := 54) (v := .bool true) rfl rfl (by kernel_rfl) (by kernel_rfl) (by kernel_rfl) (fun _ _ _ h => h) (by kernel_rfl) (fun w hSw => by (obtain ⟨q0, q1⟩ := hSw); go_simp) hHeld ?_
            simp only [List.setIfInBounds_toArray, List.set_cons_zero, List.set_cons_succ]
            refine held_take (i := 11) (d := 55) (v := .bool true) rfl rfl (by kernel_rfl) (by kernel_rfl) (by kernel_rfl) (fun _ _ _ h => h) (by kernel_rfl) (fun w hSw => by (obtain ⟨q0, q1⟩ := hSw); go_simp) hHeld ?_
            simp only [List.setIfInBounds_toArray, List.set_cons_zero, List.set_cons_succ]
            refine held_take (i := 12) (d := 56) (v := .bool true) rfl rfl (by kernel_rfl) (by kernel_rfl) (by kernel_rfl) (fun _ _ _ h => h) (by kernel_rfl) (fun w hSw => by (obtain ⟨q0, q1⟩ := hSw); go_simp) hHeld ?_
            simp only [List.setIfInBounds_toArray, List.set_cons_zero, List.set_cons_succ]
            refine held_take (i := 13) (d := 57) (v := .slice V3 nj c3) rfl rfl (by kernel_rfl) (by kernel_rfl) (by kernel_rfl) (fun _ _ _ h => h) (by kernel_rfl) (fun w hSw => by (obtain ⟨q0, q1⟩ := hSw); go_simp) hHeld ?_
            simp only [List.setIfInBounds_toArray, List.set_cons_zero, List.set_cons_succ]
            refine held_take (i := 14) (d := 58) (v := .slice V2 ny c2) rfl rfl (by kernel_rfl) (by kernel_rfl) (by kernel_rfl) (fun _ _ _ h => h) (by kernel_rfl) (fun w hSw => by (obtain ⟨q0, q1⟩ := hSw); go_simp) hHeld ?_
            simp only [List.setIfInBounds_toArray, List.set_cons_zero, List.set_cons_succ]
            refine held_take (i := 15) (d := 59) (v := .slice V1 nx c1) rfl rfl (by kernel_rfl) (by kernel_rfl) (by kernel_rfl) (fun _ _ _ h => h) (by kernel_rfl) (fun w hSw => by (obtain ⟨q0, q1⟩ := hSw); go_simp) hHeld ?_
            simp only [List.setIfInBounds_toArray, List.set_cons_zero, List.set_cons_succ]
            refine wpAnyH_ready (rs := [16]) (by kernel_rfl) (by simp) ?_
            refine AllReadyH.cons rfl (fun K hK => ?_) AllReadyH.nil
            go_simp
            go_at_call 19
            refine HC4'.out.mono ?_
            rintro e v4 ⟨V4, e4, rfl, hr1, hb1⟩
            rw [hnj] at hr1 ⊢
            have hnow := HCUR.out.trans (hb1.mono HCUR.out.size)
            have HC5' := Lib.hid (equal_any lj lj V3 V4 nj c3 nj e4 v4 (HJ.out.below hnow) hr1)
            rw [decide_eq_true rfl] at HC5'
            replace HCUR := Lib.hid hnow
            clear HC4' hr1 hb1 hnow
            refine hK.out _ _ ⟨(HCUR.out.cell (p := ⟨w.heap.size, 0, none⟩) hblt).trans c0, (HCUR.out.cell (p := ⟨w.heap.size, 1, none⟩) hblt).trans c1'⟩ (fun hHeld => ?_)
            clear hK K
            refine wpAnyH_ready (rs := [17]) (by kernel_rfl) (by simp) ?_
            refine AllReadyH.cons rfl (fun K hK => ?_) AllReadyH.nil
            go_simp
            go_at_call 25
            refine HC5'.out.mono ?_
            rintro e v5 ⟨rfl, hb1⟩
            have hnow := HCUR.out.trans (hb1.mono HCUR.out.size)
            have HC6' := Lib.hid (HC6.out v5 hnow)
            replace HCUR := Lib.hid hnow
            clear HC5' HC6 hb1 hnow
            refine hK.out _ _ ⟨(HCUR.out.cell (p := ⟨w.heap.size, 0, none⟩) hblt).trans c0, (HCUR.out.cell (p := ⟨w.heap.size, 1, none⟩) hblt).trans c1'⟩ (fun hHeld => ?_)
            clear hK K
            refine held_take (i := 18) (d := 62) (v := .bool true) rfl rfl (by kernel_rfl) (by kernel_rfl) (by kernel_rfl) (fun _ _ _ h => h) (by kernel_rfl) (fun w hSw => by (obtain ⟨q0, q1⟩ := hSw); go_simp) hHeld ?_
            simp only [List.setIfInBounds_toArray, List.set_cons_zero, List.set_cons_succ]
            refine held_take (i := 19) (d := 63) (v := .bool true) rfl rfl (by kernel_rfl) (by kernel_rfl) (by kernel_rfl) (fun _ _ _ h => h) (by kernel_rfl) (fun w hSw => by (obtain ⟨q0, q1⟩ := hSw); go_simp) hHeld ?_
            simp only [List.setIfInBounds_toArray, List.set_cons_zero, List.set_cons_succ]
            refine held_take (i := 20) (d := 64) (v := .slice V3 nj c3) rfl rfl (by kernel_rfl) (by kernel_rfl) (by kernel_rfl) (fun _ _ _ h => h) (by kernel_rfl) (fun w hSw => by (obtain ⟨q0, q1⟩ := hSw); go_simp) hHeld ?_
            simp only [List.setIfInBounds_toArray, List.set_cons_zero, List.set_cons_succ]
            refine held_take (i := 21) (d := 65) (v := .slice V3 nj c3) rfl rfl (by kernel_rfl) (by kernel_rfl) (by kernel_rfl) (fun _ _ _ h => h) (by kernel_rfl) (fun w hSw => by (obtain ⟨q0, q1⟩ := hSw); go_simp) hHeld ?_
            simp only [List.setIfInBounds_toArray, List.set_cons_zero, List.set_cons_succ]
            refine held_take (i := 23) (d := 67) (v := .slice V3 nj c3) rfl rfl (by kernel_rfl) (by kernel_rfl) (by kernel_rfl) (fun _ _ _ h => h) (by kernel_rfl) (fun w hSw => by (obtain ⟨q0, q1⟩ := hSw); go_simp) hHeld ?_
            simp only [List.setIfInBounds_toArray, List.set_cons_zero, List.set_cons_succ]
            refine wpAnyH_ready (rs := [22]) (by kernel_rfl) (by simp) ?_
            refine AllReadyH.cons rfl (fun K hK => ?_) AllReadyH.nil
            go_simp
            go_at_call 19
            refine HC6'.out.mono ?_
            rintro e v6 ⟨V6, e6, rfl, hr1, hb1⟩
            rw [hnj] at hr1 ⊢
            have hnow := HCUR.out.trans (hb1.mono HCUR.out.size)
            have HC7' := Lib.hid (equal_any lj lj V6 V3 nj e6 nj c3 v6 hr1 (HJ.out.below hnow))
            rw [decide_eq_true rfl] at HC7'
            replace HCUR := Lib.hid hnow
            clear HC6' hr1 hb1 hnow
            refine hK.out _ _ ⟨(HCUR.out.cell (p := ⟨w.heap.size, 0, none⟩) hblt).trans c0, (HCUR.out.cell (p := ⟨w.heap.size, 1, none⟩) hblt).trans c1'⟩ (fun hHeld => ?_)
            clear hK K
            refine wpAnyH_ready (rs := [24]) (by kernel_rfl) (by simp) ?_
            refine AllReadyH.cons rfl (fun K hK => ?_) AllReadyH.nil
            go_simp
            go_at_call 25
            refine HC7'.out.mono ?_
            rintro e v7 ⟨rfl, hb1⟩
            have hnow := HCUR.out.trans (hb1.mono HCUR.out.size)
            have HC8' := Lib.hid (HC8.out v7 hnow)
            replace HCUR := Lib.hid hnow
            clear HC7' HC8 hb1 hnow
            refine hK.out _ _ ⟨(HCUR.out.cell (p := ⟨w.heap.size, 0, none⟩) hblt).trans c0, (HCUR.out.cell (p := ⟨w.heap.size, 1, none⟩) hblt).trans c1'⟩ (fun hHeld => ?_)
            clear hK K
            refine held_take (i := 25) (d := 69) (v := .bool true) rfl rfl (by kernel_rfl) (by kernel_rfl) (by kernel_rfl) (fun _ _ _ h => h) (by kernel_rfl) (fun w hSw => by (obtain ⟨q0, q1⟩ := hSw); go_simp) hHeld ?_
            simp only [List.setIfInBounds_toArray, List.set_cons_zero, List.set_cons_succ]
            refine held_take (i := 26) (d := 70) (v := .bool true) rfl rfl (by kernel_rfl) (by kernel_rfl) (by kernel_rfl) (fun _ _ _ h => h) (by kernel_rfl) (fun w hSw => by (obtain ⟨q0, q1⟩ := hSw); go_simp) hHeld ?_
            simp only [List.setIfInBounds_toArray, List.set_cons_zero, List.set_cons_succ]
            refine held_take (i := 27) (d := 71) (v := .slice V3 nj c3) rfl rfl (by kernel_rfl) (by kernel_rfl) (by kernel_rfl) (fun _ _ _ h => h) (by kernel_rfl) (fun w hSw => by (obtain ⟨q0, q1⟩ := hSw); go_simp) hHeld ?_
            simp only [List.setIfInBounds_toArray, List.set_cons_zero, List.set_cons_succ]
            refine held_take (i := 28) (d := 72) (v := .slice V1 nx c1) rfl rfl (by kernel_rfl) (by kernel_rfl) (by kernel_rfl) (fun _ _ _ h => h) (by kernel_rfl) (fun w hSw => by (obtain ⟨q0, q1⟩ := hSw); go_simp) hHeld ?_
            simp only [List.setIfInBounds_toArray, List.set_cons_zero, List.set_cons_succ]
            refine held_take (i := 30) (d := 74) (v := .slice V3 nj c3) rfl rfl (by kernel_rfl) (by kernel_rfl) (by kernel_rfl) (fun _ _ _ h => h) (by kernel_rfl) (fun w hSw => by (obtain ⟨q0, q1⟩ := hSw); go_simp) hHeld ?_
            simp only [List.setIfInBounds_toArray, List.set_cons_zero, List.set_cons_succ]
            refine wpAnyH_ready (rs := [29]) (by kernel_rfl) (by simp) ?_
            refine AllReadyH.cons rfl (fun K hK => ?_) AllReadyH.nil
            go_simp
            go_at_call 19
            refine HC8'.out.mono ?_
            rintro e v8 ⟨V8, e8, rfl, hr1, hb1⟩
            rw [hnj] at hr1 ⊢
            have hnow := HCUR.out.trans (hb1.mono HCUR.out.size)
            have HC9' := Lib.hid (equal_any lj lj V8 V3 nj e8 nj c3 v8 hr1 (HJ.out.below hnow))
            rw [decide_eq_true rfl] at HC9'
            replace HCUR := Lib.hid hnow
            clear HC8' hr1 hb1 hnow
            refine hK.out _ _ ⟨(HCUR.out.cell (p := ⟨w.heap.size, 0, none⟩) hblt).trans c0, (HCUR.out.cell (p := ⟨w.heap.size, 1, none⟩) hblt).trans c1'⟩ (fun hHeld => ?_)
            clear hK K
            refine wpAnyH_ready (rs := [31]) (by kernel_rfl) (by simp) ?_
            refine AllReadyH.cons rfl (fun K hK => ?_) AllReadyH.nil
            go_simp
            go_at_call 25
            refine HC9'.out.mono ?_
            rintro e v9 ⟨rfl, hb1⟩
            have hnow := HCUR.out.trans (hb1.mono HCUR.out.size)
            have HC10' := Lib.hid (HC10.out v9 hnow)
            replace HCUR := Lib.hid hnow
            clear HC9' HC10 hb1 hnow
            refine hK.out _ _ ⟨(HCUR.out.cell (p := ⟨w.heap.size, 0, none⟩) hblt).trans c0, (HCUR.out.cell (p := ⟨w.heap.size, 1, none⟩) hblt).trans c1'⟩ (fun hHeld => ?_)
            clear hK K
            refine held_take (i := 32) (d := 76) (v := .bool true) rfl rfl (by kernel_rfl) (by kernel_rfl) (by kernel_rfl) (fun _ _ _ h => h) (by kernel_rfl) (fun w hSw => by (obtain ⟨q0, q1⟩ := hSw); go_simp) hHeld ?_
            simp only [List.setIfInBounds_toArray, List.set_cons_zero, List.set_cons_succ]
            refine held_take (i := 33) (d := 77) (v := .bool true) rfl rfl (by kernel_rfl) (by kernel_rfl) (by kernel_rfl) (fun _ _ _ h => h) (by kernel_rfl) (fun w hSw => by (obtain ⟨q0, q1⟩ := hSw); go_simp) hHeld ?_
            simp only [List.setIfInBounds_toArray, List.set_cons_zero, List.set_cons_succ]
            refine held_take (i := 34) (d := 78) (v := .slice V3 nj c3) rfl rfl (by kernel_rfl) (by kernel_rfl) (by kernel_rfl) (fun _ _ _ h => h) (by kernel_rfl) (fun w hSw => by (obtain ⟨q0, q1⟩ := hSw); go_simp) hHeld ?_
            simp only [List.setIfInBounds_toArray, List.set_cons_zero, List.set_cons_succ]
            refine held_take (i := 35) (d := 79) (v := .agg #[.int .i64 i.1, .int .i64 i.2]) rfl rfl (by kernel_rfl) (by kernel_rfl) (by kernel_rfl) (fun _ _ _ h => h) (by kernel_rfl) (fun w hSw => by (obtain ⟨q0, q1⟩ := hSw); go_simp) hHeld ?_
            simp only [List.setIfInBounds_toArray, List.set_cons_zero, List.set_cons_succ]
            refine held_take (i := 37) (d := 81) (v := .agg #[.int .i64 i.1, .int .i64 i.2]) rfl rfl (by kernel_rfl) (by kernel_rfl) (by kernel_rfl) (fun _ _ _ h => h) (by kernel_rfl) (fun w hSw => by (obtain ⟨q0, q1⟩ := hSw); go_simp) hHeld ?_
            simp only [List.setIfInBounds_toArray, List.set_cons_zero, List.set_cons_succ]
            refine wpAnyH_ready (rs := [36]) (by kernel_rfl) (by simp) ?_
            refine AllReadyH.cons rfl (fun K hK => ?_) AllReadyH.nil
            go_simp
            go_at_call 23
            refine HC10'.out.mono ?_
            rintro e v10 ⟨V10, e10, rfl, hr1, hb1⟩
            rw [hnf] at hr1 ⊢
            have hnow := HCUR.out.trans (hb1.mono HCUR.out.size)
            have HC11' := Lib.hid (has_any lf i V10 nf e10 v10 hr1 HUF.out (by omega))
            rw [HIF.out] at HC11'
            replace HCUR := Lib.hid hnow
            clear HC10' hr1 hb1 hnow
            refine hK.out _ _ ⟨(HCUR.out.cell (p := ⟨w.heap.size, 0, none⟩) hblt).trans c0, (HCUR.out.cell (p := ⟨w.heap.size, 1, none⟩) hblt).trans c1'⟩ (fun hHeld => ?_)
            clear hK K
            refine wpAnyH_ready (rs := [38]) (by kernel_rfl) (by simp) ?_
            refine AllReadyH.cons rfl (fun K hK => ?_) AllReadyH.nil
            go_simp
            go_at_call 21
            refine HC11'.out.mono ?_
            rintro e v11 ⟨rfl, hb1⟩
            have hnow := HCUR.out.trans (hb1.mono HCUR.out.size)
            have HC12' := Lib.hid (HA.out v11 (bel_trans HBR.out hnow))
            replace HCUR := Lib.hid hnow
            clear HC11' hb1 hnow
            refine hK.out _ _ ⟨(HCUR.out.cell (p := ⟨w.heap.size, 0, none⟩) hblt).trans c0, (HCUR.out.cell (p := ⟨w.heap.size, 1, none⟩) hblt).trans c1'⟩ (fun hHeld => ?_)
            clear hK K
            refine held_take (i := 39) (d := 83) (v := .bool true) rfl rfl (by kernel_rfl) (by kernel_rfl) (by kernel_rfl) (fun _ _ _ h => h) (by kernel_rfl) (fun w hSw => by (obtain ⟨q0, q1⟩ := hSw); go_simp) hHeld ?_
            simp only [List.setIfInBounds_toArray, List.set_cons_zero, List.set_cons_succ]
            refine held_take (i := 40) (d := 84) (v := .bool true) rfl rfl (by kernel_rfl) (by kernel_rfl) (by kernel_rfl) (fun _ _ _ h => h) (by kernel_rfl) (fun w hSw => by (obtain ⟨q0, q1⟩ := hSw); go_simp) hHeld ?_
            simp only [List.setIfInBounds_toArray, List.set_cons_zero, List.set_cons_succ]
            refine held_take (i := 41) (d := 85) (v := .bool true) rfl rfl (by kernel_rfl) (by kernel_rfl) (by kernel_rfl) (fun _ _ _ h => h) (by kernel_rfl) (fun w hSw => by (obtain ⟨q0, q1⟩ := hSw); go_simp) hHeld ?_
            simp only [List.setIfInBounds_toArray, List.set_cons_zero, List.set_cons_succ]
            refine wpAnyH_ready (rs := [42]) (by kernel_rfl) (by simp) ?_
            refine AllReadyH.cons rfl (fun K hK => ?_) AllReadyH.nil
            go_simp
            go_at_call 7
            refine HC12'.out.mono ?_
            rintro e v12 ⟨rfl, hb1⟩
            have hnow := HCUR.out.trans (hb1.mono HCUR.out.size)
            replace HCUR := Lib.hid hnow
            clear HC12' hb1 hnow
            refine hK.out _ _ ⟨(HCUR.out.cell (p := ⟨w.heap.size, 0, none⟩) hblt).trans c0, (HCUR.out.cell (p := ⟨w.heap.size, 1, none⟩) hblt).trans c1'⟩ (fun hHeld => ?_)
            clear hK K
            refine held_take (i := 43) (d := 87) (v := .bool true) rfl rfl (by kernel_rfl) (by kernel_rfl) (by kernel_rfl) (fun _ _ _ h => h) (by kernel_rfl) (fun w hSw => by (obtain ⟨q0, q1⟩ := hSw); go_simp) hHeld ?_
            simp only [List.setIfInBounds_toArray, List.set_cons_zero, List.set_cons_succ]
            refine held_take (i := 44) (d := 6) (v := .bool true) rfl rfl (by kernel_rfl) (by kernel_rfl) (by kernel_rfl) (fun _ _ _ h => h) (by kernel_rfl) (fun w hSw => by (obtain ⟨q0, q1⟩ := hSw); go_simp) hHeld ?_
            simp only [List.setIfInBounds_toArray, List.set_cons_zero, List.set_cons_succ]
            refine wpAnyH_done (by kernel_rfl) ?_ _
            go_wp2_with fail
            go_ret
            exact ⟨rfl, bel_trans HB.out (bel_trans HBR.out HCUR.out)⟩
end Go.Proofs.YtmbmgmelnejceaaDoor
