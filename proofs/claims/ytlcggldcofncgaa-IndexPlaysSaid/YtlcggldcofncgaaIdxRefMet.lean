/-
  Texts of earlier layers, as one.
-/
import Derived.Test.YtlcggldcofncgaaIdxRefDrop
import Derived.Test.YtlcggldcofncgaaRCmdR
import Derived.Test.YtlcggldcofncgaaRIdsR
/- The document's Deps and Seq. -/
namespace Go.Proofs.Ytlcggldcofncgaa.Ix
open Go.RowKit Mem Dsk Ids Cmd

theorem range_bel {B g o : Nat} {w w' : World} {cs : List Value} (h : Below B w w') (hb : g < B) (hr : w.rangeAt g o cs) : w'.rangeAt g o cs := fun j u hu => (h.cell hb).trans (hr j u hu)
theorem metE_snoc {l : List En} {k : Nat} {x : En} (hx : l[k]? = some x) (c : Cm) (but : Int × Int) : metE (l.take (k + 1)) c but = metE (l.take k) c but ++ if (!decide (x.i = but) && meet c x.c) = true then [x] else [] := by
  rw [snoc_take hx, metE, List.filter_append]
  have : (decide (x.i ≠ but) && meet c x.c) = (!decide (x.i = but) && meet c x.c) := by simp
  unfold metE
  rw [List.filter_cons, this]
  simp
theorem metE_len {l : List En} {k : Nat} {c : Cm} {but : Int × Int} : (metE (l.take k) c but).length ≤ k := by
  refine Nat.le_trans (List.length_filter_le _ _) ?_
  rw [List.length_take]
  omega
theorem own_low2 {w : World} {B B' n s : Nat} {e : TypeId} {v : Value} {xs : List Value} (h : w.ownsRow B e s v n xs) (hB : B' ≤ B) : w.ownsRow B' e s v n xs := own_low h hB
def MdRel (w : World) (B : Nat) (l : List En) (c : Cm) (but : Int × Int) (v7 v8 : Value) (wr : World) : Prop := ∃ (k : Nat) (V : Option Addr) (c' m : Nat), v7 = .slice V m c' ∧ v8 = .int .i64 (k : Int) ∧ k ≤ l.length ∧ ((metE (l.take k) c but).map (·.i)).length = m ∧
  wr.ownsRow B 26 LI.s (.slice V m c') m (LI.flat ((metE (l.take k) c but).map (·.i))) ∧ Below w.heap.size w wr
def SqRel (w : World) (l : List En) (c : Cm) (but : Int × Int) (v7 v8 : Value) (wr : World) : Prop := ∃ (k : Nat) (t : Int), v7 = .int .i64 t ∧ v8 = .int .i64 (k : Int) ∧ k ≤ l.length ∧ top ((metE (l.take k) c but).map (·.s)) = t ∧ Below w.heap.size w wr
theorem infoId' : (Try.prog.info? 26).map (fun i => (i.zero, i.size, i.bytes)) = some (some (.agg #[.int .i64 0, .int .i64 0]), 2, 16) := by kernel_rfl

set_option maxRecDepth 20000 in
set_option maxHeartbeats 16000000 in
theorem refdeps_any {A : Option Addr} {n cc : Nat} {l : List En} (c : Cm) (but : Int × Int) (w : World) (hr : Rw LE w A n cc l) (hl : n ≤ 800000) :
    Calls Try.prog 16 #[.slice A n cc, cmV c, .agg #[.int .i64 but.1, .int .i64 but.2]] w (Makes w (depsE l c but)) := by
  have hln := hr.len
  obtain ⟨b1, b2⟩ := but
  obtain ⟨ckd, ccl, csq, cky, cvl, crv⟩ := c
  obtain ⟨C, hC⟩ : ∃ C, (⟨ckd, ccl, csq, cky, cvl, crv⟩ : Cm) = C := ⟨_, rfl⟩
  unfold cmV
  have hb1 := bel_alloc (bel_alloc (Below.refl w.heap.size w) (.cells #[.int .i64 ckd, .int .i64 ccl, .int .i64 csq, .string cky, .string cvl, .int .i64 crv] 24)) (.cells #[.int .i64 b1, .int .i64 b2] 26)
  have hbx := (Blk.new w 24 #[.int .i64 ckd, .int .i64 ccl, .int .i64 csq, .string cky, .string cvl, .int .i64 crv]).alloc (.cells #[.int .i64 b1, .int .i64 b2] 26)
  have hby := Blk.new (w.alloc (.cells #[.int .i64 ckd, .int .i64 ccl, .int .i64 csq, .string cky, .string cvl, .int .i64 crv] 24)) 26 #[.int .i64 b1, .int .i64 b2]
  rw [size_alloc] at hby
  obtain ⟨W, hW⟩ : ∃ v, (w.alloc (.cells #[.int .i64 ckd, .int .i64 ccl, .int .i64 csq, .string cky, .string cvl, .int .i64 crv] 24)).alloc (.cells #[.int .i64 b1, .int .i64 b2] 26) = v := ⟨_, rfl⟩
  rw [hW] at hb1 hbx hby
  have hrW := hr.below hb1
  have hle := hr.le
  have HR := Lib.hid (And.intro hrW hb1)
  have HW := Lib.hid hW
  have HBX0 := Lib.hid hbx
  have HBY0 := Lib.hid hby
  have HCE := Lib.hid hC
  skip
  clear hr hW hbx hby hb1 hrW
  show Calls Try.prog 16 #[.slice A n cc, .agg #[.int .i64 ckd, .int .i64 ccl, .int .i64 csq, .string cky, .string cvl, .int .i64 crv], .agg #[.int .i64 b1, .int .i64 b2]] w _
  rw [hC]
  clear hC
  go_enter Try.func16, Try.ntmps16
  go_upto_region 1 with fail
  rw [HW.out]
  go_wp2_with fail
  go_loopw [7, 8] (MdRel W W.heap.size l C (b1, b2)) (fun _ v _ => n - (intOf v).toNat)
  case atStart => exact ⟨0, none, 0, 0, rfl, rfl, Nat.zero_le _, rfl, ⟨rfl, .inl ⟨rfl, rfl⟩⟩, Below.refl _ _⟩
  case round =>
    obtain ⟨k, V, c', m, rfl, rfl, hk, hm, hrow, hbw⟩ := hrel
    by_cases hlt : k < n
    · obtain ⟨g, o, ⟨⟨x1, x2⟩, ⟨kd, cl, sq, ky, vl, rv⟩, s⟩, rfl, hg, hx, hcx⟩ := (HR.out.1.below hbw).at_ hlt
      obtain ⟨c3, c4, c5, c6, c7, c8, c9, c10, c11⟩ := nine hcx
      have hcr : wr.rangeAt g (o + k * 9 + 2) [.int .i64 kd, .int .i64 cl, .int .i64 sq, .string ky, .string vl, .int .i64 rv] := fun j u hu => by
        have hj : j < 6 := (List.getElem?_eq_some_iff.1 hu).1
        have := hcx (j + 2) u (by
          rw [← hu]
          rcases (show j = 0 ∨ j = 1 ∨ j = 2 ∨ j = 3 ∨ j = 4 ∨ j = 5 by omega) with rfl | rfl | rfl | rfl | rfl | rfl <;> rfl)
        rw [show o + k * LE.s = o + k * 9 from rfl] at this
        rw [Nat.add_assoc, Nat.add_comm 2 j]
        exact this
      rw [show o + k * LE.s = o + k * 9 from rfl] at c3 c4 c5 c6 c7 c8 c9 c10 c11
      have HBX := Lib.hid (HBX0.out.bel hbw)
      have HBY := Lib.hid (HBY0.out.bel hbw)
      have HC3 := Lib.hid c3
      have HC4 := Lib.hid c4
      have HC11 := Lib.hid c11
      have HCR := Lib.hid hcr
      have HGL := Lib.hid hg
      have HS0 := Lib.hid (show Below wr.heap.size wr wr.drew from Below.drew (Below.refl _ _))
      have HME := Lib.hid (fun u => Cw.refmeet_any ckd ccl csq cky cvl crv kd cl sq ky vl rv u)
      rw [show (⟨ckd, ccl, csq, cky, cvl, crv⟩ : Cm) = C from HCE.out] at HME
      have hst := metE_snoc hx C (b1, b2)
      have heq := neq_id (x1, x2) (b1, b2)
      obtain ⟨q, hq⟩ : ∃ q, decide ((x1, x2) = (b1, b2)) = q := ⟨_, rfl⟩
      obtain ⟨b, hb⟩ : ∃ b, meet C ⟨kd, cl, sq, ky, vl, rv⟩ = b := ⟨_, rfl⟩
      rw [hb] at HME
      simp only at hst heq
      rw [hb, hq] at hst
      rw [hq] at heq
      clear hcx hcr c3 c4 c5 c6 c7 c8 c9 c10 c11 hg hq hb hx
      cases q with
      | true =>
        rw [show (!true && b) = false from rfl, if_neg (by simp), List.append_nil] at hst
        have HX := Lib.hid (And.intro hst (And.intro hm (And.intro hrow hbw)))
        clear hst hm hrow hbw
        go_upto_region 5 with fail
        refine wp_region_held_drew (S := (fun w' => Below wr.heap.size wr w')) (by kernel_rfl) (by first | (with_reducible exact HS0.out) | (with_reducible exact HS1.out)) (fun hHeld => ?_)
        refine held_take (i := 0) (d := 15) (v := (.slice (some ⟨g, o, none⟩) n cc)) rfl rfl (by kernel_rfl) (by kernel_rfl) (by kernel_rfl) (fun _ _ _ h => h) (by kernel_rfl) (fun w hSw => by (obtain hS := hSw); go_simp) hHeld ?_
        try simp only [List.setIfInBounds_toArray, List.set_cons_zero, List.set_cons_succ]
        refine held_take (i := 1) (d := 16) (v := (.int .i64 (k : Int))) rfl rfl (by kernel_rfl) (by kernel_rfl) (by kernel_rfl) (fun _ _ _ h => h) (by kernel_rfl) (fun w hSw => by (obtain hS := hSw); go_simp) hHeld ?_
        try simp only [List.setIfInBounds_toArray, List.set_cons_zero, List.set_cons_succ]
        refine held_take (i := 2) (d := 17) (v := (.pointer (some ⟨g, o + k * 9, none⟩))) rfl rfl (by kernel_rfl) (by kernel_rfl) (by kernel_rfl) (fun _ _ _ h => h) (by kernel_rfl) (fun w hSw => by (obtain hS := hSw); go_simp) hHeld ?_
        try simp only [List.setIfInBounds_toArray, List.set_cons_zero, List.set_cons_succ]
        refine held_take (i := 3) (d := 18) (v := (.pointer (some ⟨g, o + k * 9, none⟩))) rfl rfl (by kernel_rfl) (by kernel_rfl) (by kernel_rfl) (fun _ _ _ h => h) (by kernel_rfl) (fun w hSw => by (obtain hS := hSw); go_simp) hHeld ?_
        try simp only [List.setIfInBounds_toArray, List.set_cons_zero, List.set_cons_succ]
        refine held_take (i := 4) (d := 19) (v := (.agg #[.int .i64 x1, .int .i64 x2])) rfl rfl (by kernel_rfl) (by kernel_rfl) (by kernel_rfl) (fun _ _ _ h => h) (by kernel_rfl) (fun w1 hSw => by (have h0 := (hSw.cell (p := ⟨g, o + k * 9, none⟩) HGL.out).trans HC3.out; have h1 := (hSw.cell (p := ⟨g, o + k * 9 + 1, none⟩) HGL.out).trans HC4.out; go_simp)) hHeld ?_
        try simp only [List.setIfInBounds_toArray, List.set_cons_zero, List.set_cons_succ]
        refine held_take (i := 5) (d := 20) (v := (.agg #[.int .i64 b1, .int .i64 b2])) rfl rfl (by kernel_rfl) (by kernel_rfl) (by kernel_rfl) (fun _ _ _ h => h) (by kernel_rfl) (run_load_blk 26 (.tmp 5) rfl (w.heap.size + 1) 26 #[.int .i64 b1, .int .i64 b2] _ rfl (fun _ h => HBY.out.bel h) Try.underlying26 rfl (by kernel_rfl)) hHeld ?_
        try simp only [List.setIfInBounds_toArray, List.set_cons_zero, List.set_cons_succ]
        refine held_take (i := 6) (d := 21) (v := (.bool false)) rfl rfl (by kernel_rfl) (by kernel_rfl) (by kernel_rfl) (fun _ _ _ h => h) (by kernel_rfl) (fun w hSw => by (obtain hS := hSw); go_simp) hHeld ?_
        try simp only [List.setIfInBounds_toArray, List.set_cons_zero, List.set_cons_succ]
        refine held_take (i := 7) (d := 22) (v := (.bool false)) rfl rfl (by kernel_rfl) (by kernel_rfl) (by kernel_rfl) (fun _ _ _ h => h) (by kernel_rfl) (fun w hSw => by (obtain hS := hSw); go_simp) hHeld ?_
        try simp only [List.setIfInBounds_toArray, List.set_cons_zero, List.set_cons_succ]
        refine held_skip (i := 8) (d := 23) rfl rfl (by kernel_rfl) (by kernel_rfl) (by kernel_rfl) (fun _ _ _ h => h) (by kernel_rfl) hHeld ?_
        try simp only [List.setIfInBounds_toArray, List.set_cons_zero, List.set_cons_succ]
        refine held_skip (i := 9) (d := 24) rfl rfl (by kernel_rfl) (by kernel_rfl) (by kernel_rfl) (fun _ _ _ h => h) (by kernel_rfl) hHeld ?_
        try simp only [List.setIfInBounds_toArray, List.set_cons_zero, List.set_cons_succ]
        refine held_skip (i := 10) (d := 25) rfl rfl (by kernel_rfl) (by kernel_rfl) (by kernel_rfl) (fun _ _ _ h => h) (by kernel_rfl) hHeld ?_
        try simp only [List.setIfInBounds_toArray, List.set_cons_zero, List.set_cons_succ]
        refine held_skip (i := 11) (d := 26) rfl rfl (by kernel_rfl) (by kernel_rfl) (by kernel_rfl) (fun _ _ _ h => h) (by kernel_rfl) hHeld ?_
        try simp only [List.setIfInBounds_toArray, List.set_cons_zero, List.set_cons_succ]
        refine held_skip (i := 12) (d := 27) rfl rfl (by kernel_rfl) (by kernel_rfl) (by kernel_rfl) (fun _ _ _ h => h) (by kernel_rfl) hHeld ?_
        try simp only [List.setIfInBounds_toArray, List.set_cons_zero, List.set_cons_succ]
        refine held_skip (i := 13) (d := 28) rfl rfl (by kernel_rfl) (by kernel_rfl) (by kernel_rfl) (fun _ _ _ h => h) (by kernel_rfl) hHeld ?_
        try simp only [List.setIfInBounds_toArray, List.set_cons_zero, List.set_cons_succ]
        refine held_skip (i := 14) (d := 29) rfl rfl (by kernel_rfl) (by kernel_rfl) (by kernel_rfl) (fun _ _ _ h => h) (by kernel_rfl) hHeld ?_
        try simp only [List.setIfInBounds_toArray, List.set_cons_zero, List.set_cons_succ]
        refine held_take (i := 15) (d := 30) (v := (.bool false)) rfl rfl (by kernel_rfl) (by kernel_rfl) (by kernel_rfl) (fun _ _ _ h => h) (by kernel_rfl) (fun w hSw => by (obtain hS := hSw); go_simp) hHeld ?_
        try simp only [List.setIfInBounds_toArray, List.set_cons_zero, List.set_cons_succ]
        refine wpAnyH_done (by kernel_rfl) ?_ _
        go_wp2_with fail
        go_roundw
        case rel => exact ⟨k + 1, V, c', m, rfl, by simp, by omega, by rw [HX.out.1]; exact HX.out.2.1, by rw [HX.out.1]; exact ownsRow_below HX.out.2.2.1 (by first | exact HS1.out | exact HS0.out), bel_trans HX.out.2.2.2 (by first | exact HS1.out | exact HS0.out)⟩
        case measure =>
          simp [intOf]
          omega
      | false =>
        cases b with
        | false =>
          rw [show (!false && false) = false from rfl, if_neg (by simp), List.append_nil] at hst
          have HX := Lib.hid (And.intro hst (And.intro hm (And.intro hrow hbw)))
          clear hst hm hrow hbw
          go_upto_region 5 with fail
          refine wp_region_held_drew (S := (fun w' => Below wr.heap.size wr w')) (by kernel_rfl) (by first | (with_reducible exact HS0.out) | (with_reducible exact HS1.out)) (fun hHeld => ?_)
          refine held_take (i := 0) (d := 15) (v := (.slice (some ⟨g, o, none⟩) n cc)) rfl rfl (by kernel_rfl) (by kernel_rfl) (by kernel_rfl) (fun _ _ _ h => h) (by kernel_rfl) (fun w hSw => by (obtain hS := hSw); go_simp) hHeld ?_
          try simp only [List.setIfInBounds_toArray, List.set_cons_zero, List.set_cons_succ]
          refine held_take (i := 1) (d := 16) (v := (.int .i64 (k : Int))) rfl rfl (by kernel_rfl) (by kernel_rfl) (by kernel_rfl) (fun _ _ _ h => h) (by kernel_rfl) (fun w hSw => by (obtain hS := hSw); go_simp) hHeld ?_
          try simp only [List.setIfInBounds_toArray, List.set_cons_zero, List.set_cons_succ]
          refine held_take (i := 2) (d := 17) (v := (.pointer (some ⟨g, o + k * 9, none⟩))) rfl rfl (by kernel_rfl) (by kernel_rfl) (by kernel_rfl) (fun _ _ _ h => h) (by kernel_rfl) (fun w hSw => by (obtain hS := hSw); go_simp) hHeld ?_
          try simp only [List.setIfInBounds_toArray, List.set_cons_zero, List.set_cons_succ]
          refine held_take (i := 3) (d := 18) (v := (.pointer (some ⟨g, o + k * 9, none⟩))) rfl rfl (by kernel_rfl) (by kernel_rfl) (by kernel_rfl) (fun _ _ _ h => h) (by kernel_rfl) (fun w hSw => by (obtain hS := hSw); go_simp) hHeld ?_
          try simp only [List.setIfInBounds_toArray, List.set_cons_zero, List.set_cons_succ]
          refine held_take (i := 4) (d := 19) (v := (.agg #[.int .i64 x1, .int .i64 x2])) rfl rfl (by kernel_rfl) (by kernel_rfl) (by kernel_rfl) (fun _ _ _ h => h) (by kernel_rfl) (fun w1 hSw => by (have h0 := (hSw.cell (p := ⟨g, o + k * 9, none⟩) HGL.out).trans HC3.out; have h1 := (hSw.cell (p := ⟨g, o + k * 9 + 1, none⟩) HGL.out).trans HC4.out; go_simp)) hHeld ?_
          try simp only [List.setIfInBounds_toArray, List.set_cons_zero, List.set_cons_succ]
          refine held_take (i := 5) (d := 20) (v := (.agg #[.int .i64 b1, .int .i64 b2])) rfl rfl (by kernel_rfl) (by kernel_rfl) (by kernel_rfl) (fun _ _ _ h => h) (by kernel_rfl) (run_load_blk 26 (.tmp 5) rfl (w.heap.size + 1) 26 #[.int .i64 b1, .int .i64 b2] _ rfl (fun _ h => HBY.out.bel h) Try.underlying26 rfl (by kernel_rfl)) hHeld ?_
          try simp only [List.setIfInBounds_toArray, List.set_cons_zero, List.set_cons_succ]
          refine held_take (i := 6) (d := 21) (v := (.bool true)) rfl rfl (by kernel_rfl) (by kernel_rfl) (by kernel_rfl) (fun _ _ _ h => h) (by kernel_rfl) (fun w hSw => by (obtain hS := hSw); go_simp) hHeld ?_
          try simp only [List.setIfInBounds_toArray, List.set_cons_zero, List.set_cons_succ]
          refine held_take (i := 7) (d := 22) (v := (.bool true)) rfl rfl (by kernel_rfl) (by kernel_rfl) (by kernel_rfl) (fun _ _ _ h => h) (by kernel_rfl) (fun w hSw => by (obtain hS := hSw); go_simp) hHeld ?_
          try simp only [List.setIfInBounds_toArray, List.set_cons_zero, List.set_cons_succ]
          refine held_take (i := 8) (d := 23) (v := (.agg #[.int .i64 ckd, .int .i64 ccl, .int .i64 csq, .string cky, .string cvl, .int .i64 crv])) rfl rfl (by kernel_rfl) (by kernel_rfl) (by kernel_rfl) (fun _ _ _ h => h) (by kernel_rfl) (run_load_blk 24 (.tmp 4) rfl w.heap.size 24 #[.int .i64 ckd, .int .i64 ccl, .int .i64 csq, .string cky, .string cvl, .int .i64 crv] _ rfl (fun _ h => HBX.out.bel h) Try.underlying24 rfl (by kernel_rfl)) hHeld ?_
          try simp only [List.setIfInBounds_toArray, List.set_cons_zero, List.set_cons_succ]
          refine held_take (i := 9) (d := 24) (v := (.slice (some ⟨g, o, none⟩) n cc)) rfl rfl (by kernel_rfl) (by kernel_rfl) (by kernel_rfl) (fun _ _ _ h => h) (by kernel_rfl) (fun w hSw => by (obtain hS := hSw); go_simp) hHeld ?_
          try simp only [List.setIfInBounds_toArray, List.set_cons_zero, List.set_cons_succ]
          refine held_take (i := 10) (d := 25) (v := (.int .i64 (k : Int))) rfl rfl (by kernel_rfl) (by kernel_rfl) (by kernel_rfl) (fun _ _ _ h => h) (by kernel_rfl) (fun w hSw => by (obtain hS := hSw); go_simp) hHeld ?_
          try simp only [List.setIfInBounds_toArray, List.set_cons_zero, List.set_cons_succ]
          refine held_take (i := 11) (d := 26) (v := (.pointer (some ⟨g, o + k * 9, none⟩))) rfl rfl (by kernel_rfl) (by kernel_rfl) (by kernel_rfl) (fun _ _ _ h => h) (by kernel_rfl) (fun w hSw => by (obtain hS := hSw); go_simp) hHeld ?_
          try simp only [List.setIfInBounds_toArray, List.set_cons_zero, List.set_cons_succ]
          refine held_take (i := 12) (d := 27) (v := (.pointer (some ⟨g, o + k * 9 + 2, none⟩))) rfl rfl (by kernel_rfl) (by kernel_rfl) (by kernel_rfl) (fun _ _ _ h => h) (by kernel_rfl) (fun w hSw => by (obtain hS := hSw); go_simp) hHeld ?_
          try simp only [List.setIfInBounds_toArray, List.set_cons_zero, List.set_cons_succ]
          refine held_take (i := 13) (d := 28) (v := (.agg #[.int .i64 kd, .int .i64 cl, .int .i64 sq, .string ky, .string vl, .int .i64 rv])) rfl rfl (by kernel_rfl) (by kernel_rfl) (by kernel_rfl) (fun _ _ _ h => h) (by kernel_rfl) (run_load_row 24 (.tmp 27) rfl g (o + k * 9 + 2) [.int .i64 kd, .int .i64 cl, .int .i64 sq, .string ky, .string vl, .int .i64 rv] _ rfl (fun _ h => range_bel h HGL.out HCR.out) Try.underlying24 rfl (by kernel_rfl)) hHeld ?_
          try simp only [List.setIfInBounds_toArray, List.set_cons_zero, List.set_cons_succ]
          refine wpAnyH_ready (rs := [14]) (by kernel_rfl) (by simp) ?_
          refine AllReadyH.cons rfl (fun K hK => ?_) AllReadyH.nil
          go_simp
          go_at_call 31
          (with_reducible refine (HME.out _).mono ?_)
          rintro e u ⟨rfl, hbu⟩
          have HS1 := Lib.hid (bel_trans HS0.out hbu)
          clear hbu
          refine hK.out _ _ (by first | (with_reducible exact HS0.out) | (with_reducible exact HS1.out)) (fun hHeld => ?_)
          clear hK K
          refine held_take (i := 15) (d := 30) (v := (.bool false)) rfl rfl (by kernel_rfl) (by kernel_rfl) (by kernel_rfl) (fun _ _ _ h => h) (by kernel_rfl) (fun w hSw => by (obtain hS := hSw); go_simp) hHeld ?_
          try simp only [List.setIfInBounds_toArray, List.set_cons_zero, List.set_cons_succ]
          refine wpAnyH_done (by kernel_rfl) ?_ _
          go_wp2_with fail
          go_roundw
          case rel => exact ⟨k + 1, V, c', m, rfl, by simp, by omega, by rw [HX.out.1]; exact HX.out.2.1, by rw [HX.out.1]; exact ownsRow_below HX.out.2.2.1 (by first | exact HS1.out | exact HS0.out), bel_trans HX.out.2.2.2 (by first | exact HS1.out | exact HS0.out)⟩
          case measure =>
            simp [intOf]
            omega
        | true =>
          rw [show (!false && true) = true from rfl, if_pos rfl] at hst
          have hmk : m ≤ k := by rw [← hm, List.length_map]; exact metE_len
          have HX := Lib.hid (And.intro hst (And.intro hm (And.intro hrow hbw)))
          clear hst hm hrow hbw
          go_upto_region 5 with fail
          refine wp_region_held_drew (S := (fun w' => Below wr.heap.size wr w')) (by kernel_rfl) (by first | (with_reducible exact HS0.out) | (with_reducible exact HS1.out)) (fun hHeld => ?_)
          refine held_take (i := 0) (d := 15) (v := (.slice (some ⟨g, o, none⟩) n cc)) rfl rfl (by kernel_rfl) (by kernel_rfl) (by kernel_rfl) (fun _ _ _ h => h) (by kernel_rfl) (fun w hSw => by (obtain hS := hSw); go_simp) hHeld ?_
          try simp only [List.setIfInBounds_toArray, List.set_cons_zero, List.set_cons_succ]
          refine held_take (i := 1) (d := 16) (v := (.int .i64 (k : Int))) rfl rfl (by kernel_rfl) (by kernel_rfl) (by kernel_rfl) (fun _ _ _ h => h) (by kernel_rfl) (fun w hSw => by (obtain hS := hSw); go_simp) hHeld ?_
          try simp only [List.setIfInBounds_toArray, List.set_cons_zero, List.set_cons_succ]
          refine held_take (i := 2) (d := 17) (v := (.pointer (some ⟨g, o + k * 9, none⟩))) rfl rfl (by kernel_rfl) (by kernel_rfl) (by kernel_rfl) (fun _ _ _ h => h) (by kernel_rfl) (fun w hSw => by (obtain hS := hSw); go_simp) hHeld ?_
          try simp only [List.setIfInBounds_toArray, List.set_cons_zero, List.set_cons_succ]
          refine held_take (i := 3) (d := 18) (v := (.pointer (some ⟨g, o + k * 9, none⟩))) rfl rfl (by kernel_rfl) (by kernel_rfl) (by kernel_rfl) (fun _ _ _ h => h) (by kernel_rfl) (fun w hSw => by (obtain hS := hSw); go_simp) hHeld ?_
          try simp only [List.setIfInBounds_toArray, List.set_cons_zero, List.set_cons_succ]
          refine held_take (i := 4) (d := 19) (v := (.agg #[.int .i64 x1, .int .i64 x2])) rfl rfl (by kernel_rfl) (by kernel_rfl) (by kernel_rfl) (fun _ _ _ h => h) (by kernel_rfl) (fun w1 hSw => by (have h0 := (hSw.cell (p := ⟨g, o + k * 9, none⟩) HGL.out).trans HC3.out; have h1 := (hSw.cell (p := ⟨g, o + k * 9 + 1, none⟩) HGL.out).trans HC4.out; go_simp)) hHeld ?_
          try simp only [List.setIfInBounds_toArray, List.set_cons_zero, List.set_cons_succ]
          refine held_take (i := 5) (d := 20) (v := (.agg #[.int .i64 b1, .int .i64 b2])) rfl rfl (by kernel_rfl) (by kernel_rfl) (by kernel_rfl) (fun _ _ _ h => h) (by kernel_rfl) (run_load_blk 26 (.tmp 5) rfl (w.heap.size + 1) 26 #[.int .i64 b1, .int .i64 b2] _ rfl (fun _ h => HBY.out.bel h) Try.underlying26 rfl (by kernel_rfl)) hHeld ?_
          try simp only [List.setIfInBounds_toArray, List.set_cons_zero, List.set_cons_succ]
          refine held_take (i := 6) (d := 21) (v := (.bool true)) rfl rfl (by kernel_rfl) (by kernel_rfl) (by kernel_rfl) (fun _ _ _ h => h) (by kernel_rfl) (fun w hSw => by (obtain hS := hSw); go_simp) hHeld ?_
          try simp only [List.setIfInBounds_toArray, List.set_cons_zero, List.set_cons_succ]
          refine held_take (i := 7) (d := 22) (v := (.bool true)) rfl rfl (by kernel_rfl) (by kernel_rfl) (by kernel_rfl) (fun _ _ _ h => h) (by kernel_rfl) (fun w hSw => by (obtain hS := hSw); go_simp) hHeld ?_
          try simp only [List.setIfInBounds_toArray, List.set_cons_zero, List.set_cons_succ]
          refine held_take (i := 8) (d := 23) (v := (.agg #[.int .i64 ckd, .int .i64 ccl, .int .i64 csq, .string cky, .string cvl, .int .i64 crv])) rfl rfl (by kernel_rfl) (by kernel_rfl) (by kernel_rfl) (fun _ _ _ h => h) (by kernel_rfl) (run_load_blk 24 (.tmp 4) rfl w.heap.size 24 #[.int .i64 ckd, .int .i64 ccl, .int .i64 csq, .string cky, .string cvl, .int .i64 crv] _ rfl (fun _ h => HBX.out.bel h) Try.underlying24 rfl (by kernel_rfl)) hHeld ?_
          try simp only [List.setIfInBounds_toArray, List.set_cons_zero, List.set_cons_succ]
          refine held_take (i := 9) (d := 24) (v := (.slice (some ⟨g, o, none⟩) n cc)) rfl rfl (by kernel_rfl) (by kernel_rfl) (by kernel_rfl) (fun _ _ _ h => h) (by kernel_rfl) (fun w hSw => by (obtain hS := hSw); go_simp) hHeld ?_
          try simp only [List.setIfInBounds_toArray, List.set_cons_zero, List.set_cons_succ]
          refine held_take (i := 10) (d := 25) (v := (.int .i64 (k : Int))) rfl rfl (by kernel_rfl) (by kernel_rfl) (by kernel_rfl) (fun _ _ _ h => h) (by kernel_rfl) (fun w hSw => by (obtain hS := hSw); go_simp) hHeld ?_
          try simp only [List.setIfInBounds_toArray, List.set_cons_zero, List.set_cons_succ]
          refine held_take (i := 11) (d := 26) (v := (.pointer (some ⟨g, o + k * 9, none⟩))) rfl rfl (by kernel_rfl) (by kernel_rfl) (by kernel_rfl) (fun _ _ _ h => h) (by kernel_rfl) (fun w hSw => by (obtain hS := hSw); go_simp) hHeld ?_
          try simp only [List.setIfInBounds_toArray, List.set_cons_zero, List.set_cons_succ]
          refine held_take (i := 12) (d := 27) (v := (.pointer (some ⟨g, o + k * 9 + 2, none⟩))) rfl rfl (by kernel_rfl) (by kernel_rfl) (by kernel_rfl) (fun _ _ _ h => h) (by kernel_rfl) (fun w hSw => by (obtain hS := hSw); go_simp) hHeld ?_
          try simp only [List.setIfInBounds_toArray, List.set_cons_zero, List.set_cons_succ]
          refine held_take (i := 13) (d := 28) (v := (.agg #[.int .i64 kd, .int .i64 cl, .int .i64 sq, .string ky, .string vl, .int .i64 rv])) rfl rfl (by kernel_rfl) (by kernel_rfl) (by kernel_rfl) (fun _ _ _ h => h) (by kernel_rfl) (run_load_row 24 (.tmp 27) rfl g (o + k * 9 + 2) [.int .i64 kd, .int .i64 cl, .int .i64 sq, .string ky, .string vl, .int .i64 rv] _ rfl (fun _ h => range_bel h HGL.out HCR.out) Try.underlying24 rfl (by kernel_rfl)) hHeld ?_
          try simp only [List.setIfInBounds_toArray, List.set_cons_zero, List.set_cons_succ]
          refine wpAnyH_ready (rs := [14]) (by kernel_rfl) (by simp) ?_
          refine AllReadyH.cons rfl (fun K hK => ?_) AllReadyH.nil
          go_simp
          go_at_call 31
          (with_reducible refine (HME.out _).mono ?_)
          rintro e u ⟨rfl, hbu⟩
          have HS1 := Lib.hid (bel_trans HS0.out hbu)
          clear hbu
          refine hK.out _ _ (by first | (with_reducible exact HS0.out) | (with_reducible exact HS1.out)) (fun hHeld => ?_)
          clear hK K
          refine held_take (i := 15) (d := 30) (v := (.bool true)) rfl rfl (by kernel_rfl) (by kernel_rfl) (by kernel_rfl) (fun _ _ _ h => h) (by kernel_rfl) (fun w hSw => by (obtain hS := hSw); go_simp) hHeld ?_
          try simp only [List.setIfInBounds_toArray, List.set_cons_zero, List.set_cons_succ]
          refine wpAnyH_done (by kernel_rfl) ?_ _
          go_upto_region 6 with fail
          have hbl : Below wr.heap.size wr (u.alloc (.cells #[.int .i64 x1, .int .i64 x2] 26)) := bel_alloc HS1.out _
          have hlit : Rw LI (u.alloc (.cells #[.int .i64 x1, .int .i64 x2] 26)) (some ⟨u.heap.size, 0, none⟩) 1 1 [(x1, x2)] := Rw.lit (L := LI) u (x1, x2) 26
          obtain ⟨i0, hi, hz0, hz1, hz2⟩ := info_parts infoId'
          obtain ⟨V1, c1, u3, hrun, hown, hgrw, hloc⟩ := run_append_rw (L := LI) (ty := 42) (bytes := 16) Try.underlying42 hi hz0 hz1 hz2 rfl (ownsRow_below HX.out.2.2.1 hbl) hlit (by unfold maxLen; omega) (by omega) (by have := HX.out.2.2.2.size; have := hbl.size; omega)
          have hrel : MdRel W W.heap.size l C (b1, b2) (.slice V1 (m + 1) c1) (.int .i64 ((k + 1 : Nat) : Int)) u3 := by
            have e1 : (metE (l.take (k + 1)) C (b1, b2)).map (·.i) = (metE (l.take k) C (b1, b2)).map (·.i) ++ [(x1, x2)] := by rw [HX.out.1, List.map_append]; rfl
            refine ⟨k + 1, V1, c1, m + 1, rfl, rfl, by omega, ?_, by rw [e1]; exact hown, ?_⟩
            · rw [e1, List.length_append, HX.out.2.1]
              rfl
            · exact (bel_trans HX.out.2.2.2 hbl).grown hgrw (by have := HX.out.2.2.2.size; have := hbl.size; omega) fun j e => (HX.out.2.2.1.lt j e).1
          have HREL := Lib.hid hrel
          have HRUN := Lib.hid hrun
          have d3 := (HS1.out.cell (p := ⟨g, o + k * 9, none⟩) HGL.out).trans HC3.out
          have d4 := (HS1.out.cell (p := ⟨g, o + k * 9 + 1, none⟩) HGL.out).trans HC4.out
          clear hbl hlit hi hz0 hz1 hz2 i0 hown hgrw hloc hrel hrun hmk
          go_wp2_with (at_builtin; refine wpList_append_row rfl (.tmp 31) (.tmp 37) rfl HRUN.out ?_)
          go_roundw
          case rel => simpa using HREL.out
          case measure =>
            simp [intOf]
            omega
    · have hkn : k = l.length := by omega
      have hrs : Rs wr V m c' ((metE l C (b1, b2)).map (·.i)) := by
        rw [hkn, List.take_length] at hrow
        exact Rs.own hrow
      have hmn : m ≤ 800000 := by
        rw [← hm, List.length_map]
        exact Nat.le_trans metE_len (by omega)
      have HSET := Lib.hid (refset_any _ V m c' wr hrs (by omega))
      have HX := Lib.hid hbw
      clear hm hrow hbw hrs hmn
      go_wp2_with fail
      (with_reducible refine HSET.out.mono ?_)
      rintro e w2 ⟨A2, c2, rfl, ho2, hb2⟩
      have HO2 := Lib.hid ho2
      have HB2 := Lib.hid hb2
      clear ho2 hb2
      go_wp2_with fail
      go_ret
      have hbb := bel_trans HR.out.2 HX.out
      exact ⟨A2, c2, rfl, own_low2 HO2.out hbb.size, bel_trans hbb HB2.out⟩

set_option maxRecDepth 20000 in
set_option maxHeartbeats 16000000 in
theorem refseq_any {A : Option Addr} {n cc : Nat} {l : List En} (c : Cm) (but : Int × Int) (w : World) (hr : Rw LE w A n cc l) (hl : n ≤ 800000) (htop : topE l c but ≤ 4611686018427387904) :
    Calls Try.prog 18 #[.slice A n cc, cmV c, .agg #[.int .i64 but.1, .int .i64 but.2]] w (fun e w' => e = .returned (.int .i64 (topE l c but + 1)) ∧ Below w.heap.size w w') := by
  have hln := hr.len
  obtain ⟨b1, b2⟩ := but
  obtain ⟨ckd, ccl, csq, cky, cvl, crv⟩ := c
  obtain ⟨C, hC⟩ : ∃ C, (⟨ckd, ccl, csq, cky, cvl, crv⟩ : Cm) = C := ⟨_, rfl⟩
  unfold cmV
  have hb1 := bel_alloc (bel_alloc (Below.refl w.heap.size w) (.cells #[.int .i64 ckd, .int .i64 ccl, .int .i64 csq, .string cky, .string cvl, .int .i64 crv] 24)) (.cells #[.int .i64 b1, .int .i64 b2] 26)
  have hbx := (Blk.new w 24 #[.int .i64 ckd, .int .i64 ccl, .int .i64 csq, .string cky, .string cvl, .int .i64 crv]).alloc (.cells #[.int .i64 b1, .int .i64 b2] 26)
  have hby := Blk.new (w.alloc (.cells #[.int .i64 ckd, .int .i64 ccl, .int .i64 csq, .string cky, .string cvl, .int .i64 crv] 24)) 26 #[.int .i64 b1, .int .i64 b2]
  rw [size_alloc] at hby
  obtain ⟨W, hW⟩ : ∃ v, (w.alloc (.cells #[.int .i64 ckd, .int .i64 ccl, .int .i64 csq, .string cky, .string cvl, .int .i64 crv] 24)).alloc (.cells #[.int .i64 b1, .int .i64 b2] 26) = v := ⟨_, rfl⟩
  rw [hW] at hb1 hbx hby
  have hrW := hr.below hb1
  have hle := hr.le
  have HR := Lib.hid (And.intro hrW hb1)
  have HW := Lib.hid hW
  have HBX0 := Lib.hid hbx
  have HBY0 := Lib.hid hby
  have HCE := Lib.hid hC
  have h0 := top_nonneg
  have HTO := Lib.hid htop
  have HNN := Lib.hid h0
  clear htop h0
  clear hr hW hbx hby hb1 hrW
  show Calls Try.prog 18 #[.slice A n cc, .agg #[.int .i64 ckd, .int .i64 ccl, .int .i64 csq, .string cky, .string cvl, .int .i64 crv], .agg #[.int .i64 b1, .int .i64 b2]] w _
  rw [hC]
  clear hC
  go_enter Try.func18, Try.ntmps18
  go_upto_region 1 with fail
  rw [HW.out]
  go_wp2_with fail
  go_loopw [7, 8] (SqRel W l C (b1, b2)) (fun _ v _ => n - (intOf v).toNat)
  case atStart => exact ⟨0, 0, rfl, rfl, Nat.zero_le _, rfl, Below.refl _ _⟩
  case round =>
    obtain ⟨k, t, rfl, rfl, hk, hm, hbw⟩ := hrel
    by_cases hlt : k < n
    · obtain ⟨g, o, ⟨⟨x1, x2⟩, ⟨kd, cl, sq, ky, vl, rv⟩, s⟩, rfl, hg, hx, hcx⟩ := (HR.out.1.below hbw).at_ hlt
      obtain ⟨c3, c4, c5, c6, c7, c8, c9, c10, c11⟩ := nine hcx
      have hcr : wr.rangeAt g (o + k * 9 + 2) [.int .i64 kd, .int .i64 cl, .int .i64 sq, .string ky, .string vl, .int .i64 rv] := fun j u hu => by
        have hj : j < 6 := (List.getElem?_eq_some_iff.1 hu).1
        have := hcx (j + 2) u (by
          rw [← hu]
          rcases (show j = 0 ∨ j = 1 ∨ j = 2 ∨ j = 3 ∨ j = 4 ∨ j = 5 by omega) with rfl | rfl | rfl | rfl | rfl | rfl <;> rfl)
        rw [show o + k * LE.s = o + k * 9 from rfl] at this
        rw [Nat.add_assoc, Nat.add_comm 2 j]
        exact this
      rw [show o + k * LE.s = o + k * 9 from rfl] at c3 c4 c5 c6 c7 c8 c9 c10 c11
      have HBX := Lib.hid (HBX0.out.bel hbw)
      have HBY := Lib.hid (HBY0.out.bel hbw)
      have HC3 := Lib.hid c3
      have HC4 := Lib.hid c4
      have HC11 := Lib.hid c11
      have HCR := Lib.hid hcr
      have HGL := Lib.hid hg
      have HS0 := Lib.hid (show Below wr.heap.size wr wr.drew from Below.drew (Below.refl _ _))
      have HME := Lib.hid (fun u => Cw.refmeet_any ckd ccl csq cky cvl crv kd cl sq ky vl rv u)
      rw [show (⟨ckd, ccl, csq, cky, cvl, crv⟩ : Cm) = C from HCE.out] at HME
      have hst := metE_snoc hx C (b1, b2)
      have heq := neq_id (x1, x2) (b1, b2)
      obtain ⟨q, hq⟩ : ∃ q, decide ((x1, x2) = (b1, b2)) = q := ⟨_, rfl⟩
      obtain ⟨b, hb⟩ : ∃ b, meet C ⟨kd, cl, sq, ky, vl, rv⟩ = b := ⟨_, rfl⟩
      rw [hb] at HME
      simp only at hst heq
      rw [hb, hq] at hst
      rw [hq] at heq
      clear hcx hcr c3 c4 c5 c6 c7 c8 c9 c10 c11 hg hq hb hx
      cases q with
      | true =>
        rw [show (!true && b) = false from rfl, if_neg (by simp), List.append_nil] at hst
        have HX := Lib.hid (And.intro hst (And.intro hm hbw))
        clear hst hm hbw
        go_upto_region 5 with fail
        refine wp_region_held_drew (S := (fun w' => Below wr.heap.size wr w')) (by kernel_rfl) (by first | (with_reducible exact HS0.out) | (with_reducible exact HS1.out)) (fun hHeld => ?_)
        refine held_take (i := 0) (d := 15) (v := (.slice (some ⟨g, o, none⟩) n cc)) rfl rfl (by kernel_rfl) (by kernel_rfl) (by kernel_rfl) (fun _ _ _ h => h) (by kernel_rfl) (fun w hSw => by (obtain hS := hSw); go_simp) hHeld ?_
        try simp only [List.setIfInBounds_toArray, List.set_cons_zero, List.set_cons_succ]
        refine held_take (i := 1) (d := 16) (v := (.int .i64 (k : Int))) rfl rfl (by kernel_rfl) (by kernel_rfl) (by kernel_rfl) (fun _ _ _ h => h) (by kernel_rfl) (fun w hSw => by (obtain hS := hSw); go_simp) hHeld ?_
        try simp only [List.setIfInBounds_toArray, List.set_cons_zero, List.set_cons_succ]
        refine held_take (i := 2) (d := 17) (v := (.pointer (some ⟨g, o + k * 9, none⟩))) rfl rfl (by kernel_rfl) (by kernel_rfl) (by kernel_rfl) (fun _ _ _ h => h) (by kernel_rfl) (fun w hSw => by (obtain hS := hSw); go_simp) hHeld ?_
        try simp only [List.setIfInBounds_toArray, List.set_cons_zero, List.set_cons_succ]
        refine held_take (i := 3) (d := 18) (v := (.pointer (some ⟨g, o + k * 9, none⟩))) rfl rfl (by kernel_rfl) (by kernel_rfl) (by kernel_rfl) (fun _ _ _ h => h) (by kernel_rfl) (fun w hSw => by (obtain hS := hSw); go_simp) hHeld ?_
        try simp only [List.setIfInBounds_toArray, List.set_cons_zero, List.set_cons_succ]
        refine held_take (i := 4) (d := 19) (v := (.agg #[.int .i64 x1, .int .i64 x2])) rfl rfl (by kernel_rfl) (by kernel_rfl) (by kernel_rfl) (fun _ _ _ h => h) (by kernel_rfl) (fun w1 hSw => by (have h0 := (hSw.cell (p := ⟨g, o + k * 9, none⟩) HGL.out).trans HC3.out; have h1 := (hSw.cell (p := ⟨g, o + k * 9 + 1, none⟩) HGL.out).trans HC4.out; go_simp)) hHeld ?_
        try simp only [List.setIfInBounds_toArray, List.set_cons_zero, List.set_cons_succ]
        refine held_take (i := 5) (d := 20) (v := (.agg #[.int .i64 b1, .int .i64 b2])) rfl rfl (by kernel_rfl) (by kernel_rfl) (by kernel_rfl) (fun _ _ _ h => h) (by kernel_rfl) (run_load_blk 26 (.tmp 5) rfl (w.heap.size + 1) 26 #[.int .i64 b1, .int .i64 b2] _ rfl (fun _ h => HBY.out.bel h) Try.underlying26 rfl (by kernel_rfl)) hHeld ?_
        try simp only [List.setIfInBounds_toArray, List.set_cons_zero, List.set_cons_succ]
        refine held_take (i := 6) (d := 21) (v := (.bool false)) rfl rfl (by kernel_rfl) (by kernel_rfl) (by kernel_rfl) (fun _ _ _ h => h) (by kernel_rfl) (fun w hSw => by (obtain hS := hSw); go_simp) hHeld ?_
        try simp only [List.setIfInBounds_toArray, List.set_cons_zero, List.set_cons_succ]
        refine held_take (i := 7) (d := 22) (v := (.bool false)) rfl rfl (by kernel_rfl) (by kernel_rfl) (by kernel_rfl) (fun _ _ _ h => h) (by kernel_rfl) (fun w hSw => by (obtain hS := hSw); go_simp) hHeld ?_
        try simp only [List.setIfInBounds_toArray, List.set_cons_zero, List.set_cons_succ]
        refine held_skip (i := 8) (d := 23) rfl rfl (by kernel_rfl) (by kernel_rfl) (by kernel_rfl) (fun _ _ _ h => h) (by kernel_rfl) hHeld ?_
        try simp only [List.setIfInBounds_toArray, List.set_cons_zero, List.set_cons_succ]
        refine held_skip (i := 9) (d := 24) rfl rfl (by kernel_rfl) (by kernel_rfl) (by kernel_rfl) (fun _ _ _ h => h) (by kernel_rfl) hHeld ?_
        try simp only [List.setIfInBounds_toArray, List.set_cons_zero, List.set_cons_succ]
        refine held_skip (i := 10) (d := 25) rfl rfl (by kernel_rfl) (by kernel_rfl) (by kernel_rfl) (fun _ _ _ h => h) (by kernel_rfl) hHeld ?_
        try simp only [List.setIfInBounds_toArray, List.set_cons_zero, List.set_cons_succ]
        refine held_skip (i := 11) (d := 26) rfl rfl (by kernel_rfl) (by kernel_rfl) (by kernel_rfl) (fun _ _ _ h => h) (by kernel_rfl) hHeld ?_
        try simp only [List.setIfInBounds_toArray, List.set_cons_zero, List.set_cons_succ]
        refine held_skip (i := 12) (d := 27) rfl rfl (by kernel_rfl) (by kernel_rfl) (by kernel_rfl) (fun _ _ _ h => h) (by kernel_rfl) hHeld ?_
        try simp only [List.setIfInBounds_toArray, List.set_cons_zero, List.set_cons_succ]
        refine held_skip (i := 13) (d := 28) rfl rfl (by kernel_rfl) (by kernel_rfl) (by kernel_rfl) (fun _ _ _ h => h) (by kernel_rfl) hHeld ?_
        try simp only [List.setIfInBounds_toArray, List.set_cons_zero, List.set_cons_succ]
        refine held_skip (i := 14) (d := 29) rfl rfl (by kernel_rfl) (by kernel_rfl) (by kernel_rfl) (fun _ _ _ h => h) (by kernel_rfl) hHeld ?_
        try simp only [List.setIfInBounds_toArray, List.set_cons_zero, List.set_cons_succ]
        refine held_take (i := 15) (d := 30) (v := (.bool false)) rfl rfl (by kernel_rfl) (by kernel_rfl) (by kernel_rfl) (fun _ _ _ h => h) (by kernel_rfl) (fun w hSw => by (obtain hS := hSw); go_simp) hHeld ?_
        try simp only [List.setIfInBounds_toArray, List.set_cons_zero, List.set_cons_succ]
        refine held_take (i := 16) (d := 31) (v := (.bool false)) rfl rfl (by kernel_rfl) (by kernel_rfl) (by kernel_rfl) (fun _ _ _ h => h) (by kernel_rfl) (fun w hSw => by (obtain hS := hSw); go_simp) hHeld ?_
        try simp only [List.setIfInBounds_toArray, List.set_cons_zero, List.set_cons_succ]
        refine held_skip (i := 17) (d := 32) rfl rfl (by kernel_rfl) (by kernel_rfl) (by kernel_rfl) (fun _ _ _ h => h) (by kernel_rfl) hHeld ?_
        try simp only [List.setIfInBounds_toArray, List.set_cons_zero, List.set_cons_succ]
        refine held_skip (i := 18) (d := 33) rfl rfl (by kernel_rfl) (by kernel_rfl) (by kernel_rfl) (fun _ _ _ h => h) (by kernel_rfl) hHeld ?_
        try simp only [List.setIfInBounds_toArray, List.set_cons_zero, List.set_cons_succ]
        refine held_skip (i := 19) (d := 34) rfl rfl (by kernel_rfl) (by kernel_rfl) (by kernel_rfl) (fun _ _ _ h => h) (by kernel_rfl) hHeld ?_
        try simp only [List.setIfInBounds_toArray, List.set_cons_zero, List.set_cons_succ]
        refine held_skip (i := 20) (d := 35) rfl rfl (by kernel_rfl) (by kernel_rfl) (by kernel_rfl) (fun _ _ _ h => h) (by kernel_rfl) hHeld ?_
        try simp only [List.setIfInBounds_toArray, List.set_cons_zero, List.set_cons_succ]
        refine held_skip (i := 21) (d := 36) rfl rfl (by kernel_rfl) (by kernel_rfl) (by kernel_rfl) (fun _ _ _ h => h) (by kernel_rfl) hHeld ?_
        try simp only [List.setIfInBounds_toArray, List.set_cons_zero, List.set_cons_succ]
        refine held_skip (i := 22) (d := 37) rfl rfl (by kernel_rfl) (by kernel_rfl) (by kernel_rfl) (fun _ _ _ h => h) (by kernel_rfl) hHeld ?_
        try simp only [List.setIfInBounds_toArray, List.set_cons_zero, List.set_cons_succ]
        refine held_skip (i := 23) (d := 38) rfl rfl (by kernel_rfl) (by kernel_rfl) (by kernel_rfl) (fun _ _ _ h => h) (by kernel_rfl) hHeld ?_
        try simp only [List.setIfInBounds_toArray, List.set_cons_zero, List.set_cons_succ]
        refine held_take (i := 24) (d := 39) (v := (.bool false)) rfl rfl (by kernel_rfl) (by kernel_rfl) (by kernel_rfl) (fun _ _ _ h => h) (by kernel_rfl) (fun w hSw => by (obtain hS := hSw); go_simp) hHeld ?_
        try simp only [List.setIfInBounds_toArray, List.set_cons_zero, List.set_cons_succ]
        refine wpAnyH_done (by kernel_rfl) ?_ _
        go_wp2_with fail
        go_roundw
        case rel => exact ⟨k + 1, t, rfl, by simp, by omega, by rw [HX.out.1]; exact HX.out.2.1, bel_trans HX.out.2.2 (by first | exact HS1.out | exact HS0.out)⟩
        case measure =>
          simp [intOf]
          omega
      | false =>
        cases b with
        | false =>
          rw [show (!false && false) = false from rfl, if_neg (by simp), List.append_nil] at hst
          have HX := Lib.hid (And.intro hst (And.intro hm hbw))
          clear hst hm hbw
          go_upto_region 5 with fail
          refine wp_region_held_drew (S := (fun w' => Below wr.heap.size wr w')) (by kernel_rfl) (by first | (with_reducible exact HS0.out) | (with_reducible exact HS1.out)) (fun hHeld => ?_)
          refine held_take (i := 0) (d := 15) (v := (.slice (some ⟨g, o, none⟩) n cc)) rfl rfl (by kernel_rfl) (by kernel_rfl) (by kernel_rfl) (fun _ _ _ h => h) (by kernel_rfl) (fun w hSw => by (obtain hS := hSw); go_simp) hHeld ?_
          try simp only [List.setIfInBounds_toArray, List.set_cons_zero, List.set_cons_succ]
          refine held_take (i := 1) (d := 16) (v := (.int .i64 (k : Int))) rfl rfl (by kernel_rfl) (by kernel_rfl) (by kernel_rfl) (fun _ _ _ h => h) (by kernel_rfl) (fun w hSw => by (obtain hS := hSw); go_simp) hHeld ?_
          try simp only [List.setIfInBounds_toArray, List.set_cons_zero, List.set_cons_succ]
          refine held_take (i := 2) (d := 17) (v := (.pointer (some ⟨g, o + k * 9, none⟩))) rfl rfl (by kernel_rfl) (by kernel_rfl) (by kernel_rfl) (fun _ _ _ h => h) (by kernel_rfl) (fun w hSw => by (obtain hS := hSw); go_simp) hHeld ?_
          try simp only [List.setIfInBounds_toArray, List.set_cons_zero, List.set_cons_succ]
          refine held_take (i := 3) (d := 18) (v := (.pointer (some ⟨g, o + k * 9, none⟩))) rfl rfl (by kernel_rfl) (by kernel_rfl) (by kernel_rfl) (fun _ _ _ h => h) (by kernel_rfl) (fun w hSw => by (obtain hS := hSw); go_simp) hHeld ?_
          try simp only [List.setIfInBounds_toArray, List.set_cons_zero, List.set_cons_succ]
          refine held_take (i := 4) (d := 19) (v := (.agg #[.int .i64 x1, .int .i64 x2])) rfl rfl (by kernel_rfl) (by kernel_rfl) (by kernel_rfl) (fun _ _ _ h => h) (by kernel_rfl) (fun w1 hSw => by (have h0 := (hSw.cell (p := ⟨g, o + k * 9, none⟩) HGL.out).trans HC3.out; have h1 := (hSw.cell (p := ⟨g, o + k * 9 + 1, none⟩) HGL.out).trans HC4.out; go_simp)) hHeld ?_
          try simp only [List.setIfInBounds_toArray, List.set_cons_zero, List.set_cons_succ]
          refine held_take (i := 5) (d := 20) (v := (.agg #[.int .i64 b1, .int .i64 b2])) rfl rfl (by kernel_rfl) (by kernel_rfl) (by kernel_rfl) (fun _ _ _ h => h) (by kernel_rfl) (run_load_blk 26 (.tmp 5) rfl (w.heap.size + 1) 26 #[.int .i64 b1, .int .i64 b2] _ rfl (fun _ h => HBY.out.bel h) Try.underlying26 rfl (by kernel_rfl)) hHeld ?_
          try simp only [List.setIfInBounds_toArray, List.set_cons_zero, List.set_cons_succ]
          refine held_take (i := 6) (d := 21) (v := (.bool true)) rfl rfl (by kernel_rfl) (by kernel_rfl) (by kernel_rfl) (fun _ _ _ h => h) (by kernel_rfl) (fun w hSw => by (obtain hS := hSw); go_simp) hHeld ?_
          try simp only [List.setIfInBounds_toArray, List.set_cons_zero, List.set_cons_succ]
          refine held_take (i := 7) (d := 22) (v := (.bool true)) rfl rfl (by kernel_rfl) (by kernel_rfl) (by kernel_rfl) (fun _ _ _ h => h) (by kernel_rfl) (fun w hSw => by (obtain hS := hSw); go_simp) hHeld ?_
          try simp only [List.setIfInBounds_toArray, List.set_cons_zero, List.set_cons_succ]
          refine held_take (i := 8) (d := 23) (v := (.agg #[.int .i64 ckd, .int .i64 ccl, .int .i64 csq, .string cky, .string cvl, .int .i64 crv])) rfl rfl (by kernel_rfl) (by kernel_rfl) (by kernel_rfl) (fun _ _ _ h => h) (by kernel_rfl) (run_load_blk 24 (.tmp 4) rfl w.heap.size 24 #[.int .i64 ckd, .int .i64 ccl, .int .i64 csq, .string cky, .string cvl, .int .i64 crv] _ rfl (fun _ h => HBX.out.bel h) Try.underlying24 rfl (by kernel_rfl)) hHeld ?_
          try simp only [List.setIfInBounds_toArray, List.set_cons_zero, List.set_cons_succ]
          refine held_take (i := 9) (d := 24) (v := (.slice (some ⟨g, o, none⟩) n cc)) rfl rfl (by kernel_rfl) (by kernel_rfl) (by kernel_rfl) (fun _ _ _ h => h) (by kernel_rfl) (fun w hSw => by (obtain hS := hSw); go_simp) hHeld ?_
          try simp only [List.setIfInBounds_toArray, List.set_cons_zero, List.set_cons_succ]
          refine held_take (i := 10) (d := 25) (v := (.int .i64 (k : Int))) rfl rfl (by kernel_rfl) (by kernel_rfl) (by kernel_rfl) (fun _ _ _ h => h) (by kernel_rfl) (fun w hSw => by (obtain hS := hSw); go_simp) hHeld ?_
          try simp only [List.setIfInBounds_toArray, List.set_cons_zero, List.set_cons_succ]
          refine held_take (i := 11) (d := 26) (v := (.pointer (some ⟨g, o + k * 9, none⟩))) rfl rfl (by kernel_rfl) (by kernel_rfl) (by kernel_rfl) (fun _ _ _ h => h) (by kernel_rfl) (fun w hSw => by (obtain hS := hSw); go_simp) hHeld ?_
          try simp only [List.setIfInBounds_toArray, List.set_cons_zero, List.set_cons_succ]
          refine held_take (i := 12) (d := 27) (v := (.pointer (some ⟨g, o + k * 9 + 2, none⟩))) rfl rfl (by kernel_rfl) (by kernel_rfl) (by kernel_rfl) (fun _ _ _ h => h) (by kernel_rfl) (fun w hSw => by (obtain hS := hSw); go_simp) hHeld ?_
          try simp only [List.setIfInBounds_toArray, List.set_cons_zero, List.set_cons_succ]
          refine held_take (i := 13) (d := 28) (v := (.agg #[.int .i64 kd, .int .i64 cl, .int .i64 sq, .string ky, .string vl, .int .i64 rv])) rfl rfl (by kernel_rfl) (by kernel_rfl) (by kernel_rfl) (fun _ _ _ h => h) (by kernel_rfl) (run_load_row 24 (.tmp 27) rfl g (o + k * 9 + 2) [.int .i64 kd, .int .i64 cl, .int .i64 sq, .string ky, .string vl, .int .i64 rv] _ rfl (fun _ h => range_bel h HGL.out HCR.out) Try.underlying24 rfl (by kernel_rfl)) hHeld ?_
          try simp only [List.setIfInBounds_toArray, List.set_cons_zero, List.set_cons_succ]
          refine wpAnyH_ready (rs := [14]) (by kernel_rfl) (by simp) ?_
          refine AllReadyH.cons rfl (fun K hK => ?_) AllReadyH.nil
          go_simp
          go_at_call 31
          (with_reducible refine (HME.out _).mono ?_)
          rintro e u ⟨rfl, hbu⟩
          have HS1 := Lib.hid (bel_trans HS0.out hbu)
          clear hbu
          refine hK.out _ _ (by first | (with_reducible exact HS0.out) | (with_reducible exact HS1.out)) (fun hHeld => ?_)
          clear hK K
          refine held_take (i := 15) (d := 30) (v := (.bool false)) rfl rfl (by kernel_rfl) (by kernel_rfl) (by kernel_rfl) (fun _ _ _ h => h) (by kernel_rfl) (fun w hSw => by (obtain hS := hSw); go_simp) hHeld ?_
          try simp only [List.setIfInBounds_toArray, List.set_cons_zero, List.set_cons_succ]
          refine held_take (i := 16) (d := 31) (v := (.bool false)) rfl rfl (by kernel_rfl) (by kernel_rfl) (by kernel_rfl) (fun _ _ _ h => h) (by kernel_rfl) (fun w hSw => by (obtain hS := hSw); go_simp) hHeld ?_
          try simp only [List.setIfInBounds_toArray, List.set_cons_zero, List.set_cons_succ]
          refine held_skip (i := 17) (d := 32) rfl rfl (by kernel_rfl) (by kernel_rfl) (by kernel_rfl) (fun _ _ _ h => h) (by kernel_rfl) hHeld ?_
          try simp only [List.setIfInBounds_toArray, List.set_cons_zero, List.set_cons_succ]
          refine held_skip (i := 18) (d := 33) rfl rfl (by kernel_rfl) (by kernel_rfl) (by kernel_rfl) (fun _ _ _ h => h) (by kernel_rfl) hHeld ?_
          try simp only [List.setIfInBounds_toArray, List.set_cons_zero, List.set_cons_succ]
          refine held_skip (i := 19) (d := 34) rfl rfl (by kernel_rfl) (by kernel_rfl) (by kernel_rfl) (fun _ _ _ h => h) (by kernel_rfl) hHeld ?_
          try simp only [List.setIfInBounds_toArray, List.set_cons_zero, List.set_cons_succ]
          refine held_skip (i := 20) (d := 35) rfl rfl (by kernel_rfl) (by kernel_rfl) (by kernel_rfl) (fun _ _ _ h => h) (by kernel_rfl) hHeld ?_
          try simp only [List.setIfInBounds_toArray, List.set_cons_zero, List.set_cons_succ]
          refine held_skip (i := 21) (d := 36) rfl rfl (by kernel_rfl) (by kernel_rfl) (by kernel_rfl) (fun _ _ _ h => h) (by kernel_rfl) hHeld ?_
          try simp only [List.setIfInBounds_toArray, List.set_cons_zero, List.set_cons_succ]
          refine held_skip (i := 22) (d := 37) rfl rfl (by kernel_rfl) (by kernel_rfl) (by kernel_rfl) (fun _ _ _ h => h) (by kernel_rfl) hHeld ?_
          try simp only [List.setIfInBounds_toArray, List.set_cons_zero, List.set_cons_succ]
          refine held_skip (i := 23) (d := 38) rfl rfl (by kernel_rfl) (by kernel_rfl) (by kernel_rfl) (fun _ _ _ h => h) (by kernel_rfl) hHeld ?_
          try simp only [List.setIfInBounds_toArray, List.set_cons_zero, List.set_cons_succ]
          refine held_take (i := 24) (d := 39) (v := (.bool false)) rfl rfl (by kernel_rfl) (by kernel_rfl) (by kernel_rfl) (fun _ _ _ h => h) (by kernel_rfl) (fun w hSw => by (obtain hS := hSw); go_simp) hHeld ?_
          try simp only [List.setIfInBounds_toArray, List.set_cons_zero, List.set_cons_succ]
          refine wpAnyH_done (by kernel_rfl) ?_ _
          go_wp2_with fail
          go_roundw
          case rel => exact ⟨k + 1, t, rfl, by simp, by omega, by rw [HX.out.1]; exact HX.out.2.1, bel_trans HX.out.2.2 (by first | exact HS1.out | exact HS0.out)⟩
          case measure =>
            simp [intOf]
            omega
        | true =>
          rw [show (!false && true) = true from rfl, if_pos rfl] at hst
          have hmap : (metE (l.take (k + 1)) C (b1, b2)).map (·.s) = (metE (l.take k) C (b1, b2)).map (·.s) ++ [s] := by rw [hst, List.map_append]; rfl
          have htop := top_snoc ((metE (l.take k) C (b1, b2)).map (·.s)) s
          rw [← hmap, hm] at htop
          have HX := Lib.hid hbw
          clear hst hm hbw hmap
          by_cases hgt : s > t
          · rw [Int.max_eq_right (by omega)] at htop
            have HTOP := Lib.hid htop
            have hd : decide (s > t) = true := decide_eq_true hgt
            clear htop
            go_upto_region 5 with fail
            refine wp_region_held_drew (S := (fun w' => Below wr.heap.size wr w')) (by kernel_rfl) (by first | (with_reducible exact HS0.out) | (with_reducible exact HS1.out)) (fun hHeld => ?_)
            refine held_take (i := 0) (d := 15) (v := (.slice (some ⟨g, o, none⟩) n cc)) rfl rfl (by kernel_rfl) (by kernel_rfl) (by kernel_rfl) (fun _ _ _ h => h) (by kernel_rfl) (fun w hSw => by (obtain hS := hSw); go_simp) hHeld ?_
            try simp only [List.setIfInBounds_toArray, List.set_cons_zero, List.set_cons_succ]
            refine held_take (i := 1) (d := 16) (v := (.int .i64 (k : Int))) rfl rfl (by kernel_rfl) (by kernel_rfl) (by kernel_rfl) (fun _ _ _ h => h) (by kernel_rfl) (fun w hSw => by (obtain hS := hSw); go_simp) hHeld ?_
            try simp only [List.setIfInBounds_toArray, List.set_cons_zero, List.set_cons_succ]
            refine held_take (i := 2) (d := 17) (v := (.pointer (some ⟨g, o + k * 9, none⟩))) rfl rfl (by kernel_rfl) (by kernel_rfl) (by kernel_rfl) (fun _ _ _ h => h) (by kernel_rfl) (fun w hSw => by (obtain hS := hSw); go_simp) hHeld ?_
            try simp only [List.setIfInBounds_toArray, List.set_cons_zero, List.set_cons_succ]
            refine held_take (i := 3) (d := 18) (v := (.pointer (some ⟨g, o + k * 9, none⟩))) rfl rfl (by kernel_rfl) (by kernel_rfl) (by kernel_rfl) (fun _ _ _ h => h) (by kernel_rfl) (fun w hSw => by (obtain hS := hSw); go_simp) hHeld ?_
            try simp only [List.setIfInBounds_toArray, List.set_cons_zero, List.set_cons_succ]
            refine held_take (i := 4) (d := 19) (v := (.agg #[.int .i64 x1, .int .i64 x2])) rfl rfl (by kernel_rfl) (by kernel_rfl) (by kernel_rfl) (fun _ _ _ h => h) (by kernel_rfl) (fun w1 hSw => by (have h0 := (hSw.cell (p := ⟨g, o + k * 9, none⟩) HGL.out).trans HC3.out; have h1 := (hSw.cell (p := ⟨g, o + k * 9 + 1, none⟩) HGL.out).trans HC4.out; go_simp)) hHeld ?_
            try simp only [List.setIfInBounds_toArray, List.set_cons_zero, List.set_cons_succ]
            refine held_take (i := 5) (d := 20) (v := (.agg #[.int .i64 b1, .int .i64 b2])) rfl rfl (by kernel_rfl) (by kernel_rfl) (by kernel_rfl) (fun _ _ _ h => h) (by kernel_rfl) (run_load_blk 26 (.tmp 5) rfl (w.heap.size + 1) 26 #[.int .i64 b1, .int .i64 b2] _ rfl (fun _ h => HBY.out.bel h) Try.underlying26 rfl (by kernel_rfl)) hHeld ?_
            try simp only [List.setIfInBounds_toArray, List.set_cons_zero, List.set_cons_succ]
            refine held_take (i := 6) (d := 21) (v := (.bool true)) rfl rfl (by kernel_rfl) (by kernel_rfl) (by kernel_rfl) (fun _ _ _ h => h) (by kernel_rfl) (fun w hSw => by (obtain hS := hSw); go_simp) hHeld ?_
            try simp only [List.setIfInBounds_toArray, List.set_cons_zero, List.set_cons_succ]
            refine held_take (i := 7) (d := 22) (v := (.bool true)) rfl rfl (by kernel_rfl) (by kernel_rfl) (by kernel_rfl) (fun _ _ _ h => h) (by kernel_rfl) (fun w hSw => by (obtain hS := hSw); go_simp) hHeld ?_
            try simp only [List.setIfInBounds_toArray, List.set_cons_zero, List.set_cons_succ]
            refine held_take (i := 8) (d := 23) (v := (.agg #[.int .i64 ckd, .int .i64 ccl, .int .i64 csq, .string cky, .string cvl, .int .i64 crv])) rfl rfl (by kernel_rfl) (by kernel_rfl) (by kernel_rfl) (fun _ _ _ h => h) (by kernel_rfl) (run_load_blk 24 (.tmp 4) rfl w.heap.size 24 #[.int .i64 ckd, .int .i64 ccl, .int .i64 csq, .string cky, .string cvl, .int .i64 crv] _ rfl (fun _ h => HBX.out.bel h) Try.underlying24 rfl (by kernel_rfl)) hHeld ?_
            try simp only [List.setIfInBounds_toArray, List.set_cons_zero, List.set_cons_succ]
            refine held_take (i := 9) (d := 24) (v := (.slice (some ⟨g, o, none⟩) n cc)) rfl rfl (by kernel_rfl) (by kernel_rfl) (by kernel_rfl) (fun _ _ _ h => h) (by kernel_rfl) (fun w hSw => by (obtain hS := hSw); go_simp) hHeld ?_
            try simp only [List.setIfInBounds_toArray, List.set_cons_zero, List.set_cons_succ]
            refine held_take (i := 10) (d := 25) (v := (.int .i64 (k : Int))) rfl rfl (by kernel_rfl) (by kernel_rfl) (by kernel_rfl) (fun _ _ _ h => h) (by kernel_rfl) (fun w hSw => by (obtain hS := hSw); go_simp) hHeld ?_
            try simp only [List.setIfInBounds_toArray, List.set_cons_zero, List.set_cons_succ]
            refine held_take (i := 11) (d := 26) (v := (.pointer (some ⟨g, o + k * 9, none⟩))) rfl rfl (by kernel_rfl) (by kernel_rfl) (by kernel_rfl) (fun _ _ _ h => h) (by kernel_rfl) (fun w hSw => by (obtain hS := hSw); go_simp) hHeld ?_
            try simp only [List.setIfInBounds_toArray, List.set_cons_zero, List.set_cons_succ]
            refine held_take (i := 12) (d := 27) (v := (.pointer (some ⟨g, o + k * 9 + 2, none⟩))) rfl rfl (by kernel_rfl) (by kernel_rfl) (by kernel_rfl) (fun _ _ _ h => h) (by kernel_rfl) (fun w hSw => by (obtain hS := hSw); go_simp) hHeld ?_
            try simp only [List.setIfInBounds_toArray, List.set_cons_zero, List.set_cons_succ]
            refine held_take (i := 13) (d := 28) (v := (.agg #[.int .i64 kd, .int .i64 cl, .int .i64 sq, .string ky, .string vl, .int .i64 rv])) rfl rfl (by kernel_rfl) (by kernel_rfl) (by kernel_rfl) (fun _ _ _ h => h) (by kernel_rfl) (run_load_row 24 (.tmp 27) rfl g (o + k * 9 + 2) [.int .i64 kd, .int .i64 cl, .int .i64 sq, .string ky, .string vl, .int .i64 rv] _ rfl (fun _ h => range_bel h HGL.out HCR.out) Try.underlying24 rfl (by kernel_rfl)) hHeld ?_
            try simp only [List.setIfInBounds_toArray, List.set_cons_zero, List.set_cons_succ]
            refine wpAnyH_ready (rs := [14]) (by kernel_rfl) (by simp) ?_
            refine AllReadyH.cons rfl (fun K hK => ?_) AllReadyH.nil
            go_simp
            go_at_call 31
            (with_reducible refine (HME.out _).mono ?_)
            rintro e u ⟨rfl, hbu⟩
            have HS1 := Lib.hid (bel_trans HS0.out hbu)
            clear hbu
            refine hK.out _ _ (by first | (with_reducible exact HS0.out) | (with_reducible exact HS1.out)) (fun hHeld => ?_)
            clear hK K
            refine held_take (i := 15) (d := 30) (v := (.bool true)) rfl rfl (by kernel_rfl) (by kernel_rfl) (by kernel_rfl) (fun _ _ _ h => h) (by kernel_rfl) (fun w hSw => by (obtain hS := hSw); go_simp) hHeld ?_
            try simp only [List.setIfInBounds_toArray, List.set_cons_zero, List.set_cons_succ]
            refine held_take (i := 16) (d := 31) (v := (.bool true)) rfl rfl (by kernel_rfl) (by kernel_rfl) (by kernel_rfl) (fun _ _ _ h => h) (by kernel_rfl) (fun w hSw => by (obtain hS := hSw); go_simp) hHeld ?_
            try simp only [List.setIfInBounds_toArray, List.set_cons_zero, List.set_cons_succ]
            refine held_take (i := 17) (d := 32) (v := (.slice (some ⟨g, o, none⟩) n cc)) rfl rfl (by kernel_rfl) (by kernel_rfl) (by kernel_rfl) (fun _ _ _ h => h) (by kernel_rfl) (fun w hSw => by (obtain hS := hSw); go_simp) hHeld ?_
            try simp only [List.setIfInBounds_toArray, List.set_cons_zero, List.set_cons_succ]
            refine held_take (i := 18) (d := 33) (v := (.int .i64 (k : Int))) rfl rfl (by kernel_rfl) (by kernel_rfl) (by kernel_rfl) (fun _ _ _ h => h) (by kernel_rfl) (fun w hSw => by (obtain hS := hSw); go_simp) hHeld ?_
            try simp only [List.setIfInBounds_toArray, List.set_cons_zero, List.set_cons_succ]
            refine held_take (i := 19) (d := 34) (v := (.pointer (some ⟨g, o + k * 9, none⟩))) rfl rfl (by kernel_rfl) (by kernel_rfl) (by kernel_rfl) (fun _ _ _ h => h) (by kernel_rfl) (fun w hSw => by (obtain hS := hSw); go_simp) hHeld ?_
            try simp only [List.setIfInBounds_toArray, List.set_cons_zero, List.set_cons_succ]
            refine held_take (i := 20) (d := 35) (v := (.pointer (some ⟨g, o + k * 9 + 8, none⟩))) rfl rfl (by kernel_rfl) (by kernel_rfl) (by kernel_rfl) (fun _ _ _ h => h) (by kernel_rfl) (fun w hSw => by (obtain hS := hSw); go_simp) hHeld ?_
            try simp only [List.setIfInBounds_toArray, List.set_cons_zero, List.set_cons_succ]
            refine held_take (i := 21) (d := 36) (v := (.int .i64 s)) rfl rfl (by kernel_rfl) (by kernel_rfl) (by kernel_rfl) (fun _ _ _ h => h) (by kernel_rfl) (fun w1 hSw => by (have h0 := (hSw.cell (p := ⟨g, o + k * 9 + 8, none⟩) HGL.out).trans HC11.out; go_simp)) hHeld ?_
            try simp only [List.setIfInBounds_toArray, List.set_cons_zero, List.set_cons_succ]
            refine held_take (i := 22) (d := 37) (v := (.int .i64 t)) rfl rfl (by kernel_rfl) (by kernel_rfl) (by kernel_rfl) (fun _ _ _ h => h) (by kernel_rfl) (fun w hSw => by (obtain hS := hSw); go_simp) hHeld ?_
            try simp only [List.setIfInBounds_toArray, List.set_cons_zero, List.set_cons_succ]
            refine held_take (i := 23) (d := 38) (v := (.bool true)) rfl rfl (by kernel_rfl) (by kernel_rfl) (by kernel_rfl) (fun _ _ _ h => h) (by kernel_rfl) (fun w hSw => by (obtain hS := hSw); go_simp) hHeld ?_
            try simp only [List.setIfInBounds_toArray, List.set_cons_zero, List.set_cons_succ]
            refine held_take (i := 24) (d := 39) (v := (.bool true)) rfl rfl (by kernel_rfl) (by kernel_rfl) (by kernel_rfl) (fun _ _ _ h => h) (by kernel_rfl) (fun w hSw => by (obtain hS := hSw); go_simp) hHeld ?_
            try simp only [List.setIfInBounds_toArray, List.set_cons_zero, List.set_cons_succ]
            refine wpAnyH_done (by kernel_rfl) ?_ _
            have d11 := (HS1.out.cell (p := ⟨g, o + k * 9 + 8, none⟩) HGL.out).trans HC11.out
            go_wp2_with fail
            go_roundw
            case rel => exact ⟨k + 1, s, rfl, by simp, by omega, HTOP.out, bel_trans HX.out HS1.out⟩
            case measure =>
              simp [intOf]
              omega
          · rw [Int.max_eq_left (by omega)] at htop
            have HTOP := Lib.hid htop
            have hd : decide (s > t) = false := decide_eq_false hgt
            clear htop
            go_upto_region 5 with fail
            refine wp_region_held_drew (S := (fun w' => Below wr.heap.size wr w')) (by kernel_rfl) (by first | (with_reducible exact HS0.out) | (with_reducible exact HS1.out)) (fun hHeld => ?_)
            refine held_take (i := 0) (d := 15) (v := (.slice (some ⟨g, o, none⟩) n cc)) rfl rfl (by kernel_rfl) (by kernel_rfl) (by kernel_rfl) (fun _ _ _ h => h) (by kernel_rfl) (fun w hSw => by (obtain hS := hSw); go_simp) hHeld ?_
            try simp only [List.setIfInBounds_toArray, List.set_cons_zero, List.set_cons_succ]
            refine held_take (i := 1) (d := 16) (v := (.int .i64 (k : Int))) rfl rfl (by kernel_rfl) (by kernel_rfl) (by kernel_rfl) (fun _ _ _ h => h) (by kernel_rfl) (fun w hSw => by (obtain hS := hSw); go_simp) hHeld ?_
            try simp only [List.setIfInBounds_toArray, List.set_cons_zero, List.set_cons_succ]
            refine held_take (i := 2) (d := 17) (v := (.pointer (some ⟨g, o + k * 9, none⟩))) rfl rfl (by kernel_rfl) (by kernel_rfl) (by kernel_rfl) (fun _ _ _ h => h) (by kernel_rfl) (fun w hSw => by (obtain hS := hSw); go_simp) hHeld ?_
            try simp only [List.setIfInBounds_toArray, List.set_cons_zero, List.set_cons_succ]
            refine held_take (i := 3) (d := 18) (v := (.pointer (some ⟨g, o + k * 9, none⟩))) rfl rfl (by kernel_rfl) (by kernel_rfl) (by kernel_rfl) (fun _ _ _ h => h) (by kernel_rfl) (fun w hSw => by (obtain hS := hSw); go_simp) hHeld ?_
            try simp only [List.setIfInBounds_toArray, List.set_cons_zero, List.set_cons_succ]
            refine held_take (i := 4) (d := 19) (v := (.agg #[.int .i64 x1, .int .i64 x2])) rfl rfl (by kernel_rfl) (by kernel_rfl) (by kernel_rfl) (fun _ _ _ h => h) (by kernel_rfl) (fun w1 hSw => by (have h0 := (hSw.cell (p := ⟨g, o + k * 9, none⟩) HGL.out).trans HC3.out; have h1 := (hSw.cell (p := ⟨g, o + k * 9 + 1, none⟩) HGL.out).trans HC4.out; go_simp)) hHeld ?_
            try simp only [List.setIfInBounds_toArray, List.set_cons_zero, List.set_cons_succ]
            refine held_take (i := 5) (d := 20) (v := (.agg #[.int .i64 b1, .int .i64 b2])) rfl rfl (by kernel_rfl) (by kernel_rfl) (by kernel_rfl) (fun _ _ _ h => h) (by kernel_rfl) (run_load_blk 26 (.tmp 5) rfl (w.heap.size + 1) 26 #[.int .i64 b1, .int .i64 b2] _ rfl (fun _ h => HBY.out.bel h) Try.underlying26 rfl (by kernel_rfl)) hHeld ?_
            try simp only [List.setIfInBounds_toArray, List.set_cons_zero, List.set_cons_succ]
            refine held_take (i := 6) (d := 21) (v := (.bool true)) rfl rfl (by kernel_rfl) (by kernel_rfl) (by kernel_rfl) (fun _ _ _ h => h) (by kernel_rfl) (fun w hSw => by (obtain hS := hSw); go_simp) hHeld ?_
            try simp only [List.setIfInBounds_toArray, List.set_cons_zero, List.set_cons_succ]
            refine held_take (i := 7) (d := 22) (v := (.bool true)) rfl rfl (by kernel_rfl) (by kernel_rfl) (by kernel_rfl) (fun _ _ _ h => h) (by kernel_rfl) (fun w hSw => by (obtain hS := hSw); go_simp) hHeld ?_
            try simp only [List.setIfInBounds_toArray, List.set_cons_zero, List.set_cons_succ]
            refine held_take (i := 8) (d := 23) (v := (.agg #[.int .i64 ckd, .int .i64 ccl, .int .i64 csq, .string cky, .string cvl, .int .i64 crv])) rfl rfl (by kernel_rfl) (by kernel_rfl) (by kernel_rfl) (fun _ _ _ h => h) (by kernel_rfl) (run_load_blk 24 (.tmp 4) rfl w.heap.size 24 #[.int .i64 ckd, .int .i64 ccl, .int .i64 csq, .string cky, .string cvl, .int .i64 crv] _ rfl (fun _ h => HBX.out.bel h) Try.underlying24 rfl (by kernel_rfl)) hHeld ?_
            try simp only [List.setIfInBounds_toArray, List.set_cons_zero, List.set_cons_succ]
            refine held_take (i := 9) (d := 24) (v := (.slice (some ⟨g, o, none⟩) n cc)) rfl rfl (by kernel_rfl) (by kernel_rfl) (by kernel_rfl) (fun _ _ _ h => h) (by kernel_rfl) (fun w hSw => by (obtain hS := hSw); go_simp) hHeld ?_
            try simp only [List.setIfInBounds_toArray, List.set_cons_zero, List.set_cons_succ]
            refine held_take (i := 10) (d := 25) (v := (.int .i64 (k : Int))) rfl rfl (by kernel_rfl) (by kernel_rfl) (by kernel_rfl) (fun _ _ _ h => h) (by kernel_rfl) (fun w hSw => by (obtain hS := hSw); go_simp) hHeld ?_
            try simp only [List.setIfInBounds_toArray, List.set_cons_zero, List.set_cons_succ]
            refine held_take (i := 11) (d := 26) (v := (.pointer (some ⟨g, o + k * 9, none⟩))) rfl rfl (by kernel_rfl) (by kernel_rfl) (by kernel_rfl) (fun _ _ _ h => h) (by kernel_rfl) (fun w hSw => by (obtain hS := hSw); go_simp) hHeld ?_
            try simp only [List.setIfInBounds_toArray, List.set_cons_zero, List.set_cons_succ]
            refine held_take (i := 12) (d := 27) (v := (.pointer (some ⟨g, o + k * 9 + 2, none⟩))) rfl rfl (by kernel_rfl) (by kernel_rfl) (by kernel_rfl) (fun _ _ _ h => h) (by kernel_rfl) (fun w hSw => by (obtain hS := hSw); go_simp) hHeld ?_
            try simp only [List.setIfInBounds_toArray, List.set_cons_zero, List.set_cons_succ]
            refine held_take (i := 13) (d := 28) (v := (.agg #[.int .i64 kd, .int .i64 cl, .int .i64 sq, .string ky, .string vl, .int .i64 rv])) rfl rfl (by kernel_rfl) (by kernel_rfl) (by kernel_rfl) (fun _ _ _ h => h) (by kernel_rfl) (run_load_row 24 (.tmp 27) rfl g (o + k * 9 + 2) [.int .i64 kd, .int .i64 cl, .int .i64 sq, .string ky, .string vl, .int .i64 rv] _ rfl (fun _ h => range_bel h HGL.out HCR.out) Try.underlying24 rfl (by kernel_rfl)) hHeld ?_
            try simp only [List.setIfInBounds_toArray, List.set_cons_zero, List.set_cons_succ]
            refine wpAnyH_ready (rs := [14]) (by kernel_rfl) (by simp) ?_
            refine AllReadyH.cons rfl (fun K hK => ?_) AllReadyH.nil
            go_simp
            go_at_call 31
            (with_reducible refine (HME.out _).mono ?_)
            rintro e u ⟨rfl, hbu⟩
            have HS1 := Lib.hid (bel_trans HS0.out hbu)
            clear hbu
            refine hK.out _ _ (by first | (with_reducible exact HS0.out) | (with_reducible exact HS1.out)) (fun hHeld => ?_)
            clear hK K
            refine held_take (i := 15) (d := 30) (v := (.bool true)) rfl rfl (by kernel_rfl) (by kernel_rfl) (by kernel_rfl) (fun _ _ _ h => h) (by kernel_rfl) (fun w hSw => by (obtain hS := hSw); go_simp) hHeld ?_
            try simp only [List.setIfInBounds_toArray, List.set_cons_zero, List.set_cons_succ]
            refine held_take (i := 16) (d := 31) (v := (.bool true)) rfl rfl (by kernel_rfl) (by kernel_rfl) (by kernel_rfl) (fun _ _ _ h => h) (by kernel_rfl) (fun w hSw => by (obtain hS := hSw); go_simp) hHeld ?_
            try simp only [List.setIfInBounds_toArray, List.set_cons_zero, List.set_cons_succ]
            refine held_take (i := 17) (d := 32) (v := (.slice (some ⟨g, o, none⟩) n cc)) rfl rfl (by kernel_rfl) (by kernel_rfl) (by kernel_rfl) (fun _ _ _ h => h) (by kernel_rfl) (fun w hSw => by (obtain hS := hSw); go_simp) hHeld ?_
            try simp only [List.setIfInBounds_toArray, List.set_cons_zero, List.set_cons_succ]
            refine held_take (i := 18) (d := 33) (v := (.int .i64 (k : Int))) rfl rfl (by kernel_rfl) (by kernel_rfl) (by kernel_rfl) (fun _ _ _ h => h) (by kernel_rfl) (fun w hSw => by (obtain hS := hSw); go_simp) hHeld ?_
            try simp only [List.setIfInBounds_toArray, List.set_cons_zero, List.set_cons_succ]
            refine held_take (i := 19) (d := 34) (v := (.pointer (some ⟨g, o + k * 9, none⟩))) rfl rfl (by kernel_rfl) (by kernel_rfl) (by kernel_rfl) (fun _ _ _ h => h) (by kernel_rfl) (fun w hSw => by (obtain hS := hSw); go_simp) hHeld ?_
            try simp only [List.setIfInBounds_toArray, List.set_cons_zero, List.set_cons_succ]
            refine held_take (i := 20) (d := 35) (v := (.pointer (some ⟨g, o + k * 9 + 8, none⟩))) rfl rfl (by kernel_rfl) (by kernel_rfl) (by kernel_rfl) (fun _ _ _ h => h) (by kernel_rfl) (fun w hSw => by (obtain hS := hSw); go_simp) hHeld ?_
            try simp only [List.setIfInBounds_toArray, List.set_cons_zero, List.set_cons_succ]
            refine held_take (i := 21) (d := 36) (v := (.int .i64 s)) rfl rfl (by kernel_rfl) (by kernel_rfl) (by kernel_rfl) (fun _ _ _ h => h) (by kernel_rfl) (fun w1 hSw => by (have h0 := (hSw.cell (p := ⟨g, o + k * 9 + 8, none⟩) HGL.out).trans HC11.out; go_simp)) hHeld ?_
            try simp only [List.setIfInBounds_toArray, List.set_cons_zero, List.set_cons_succ]
            refine held_take (i := 22) (d := 37) (v := (.int .i64 t)) rfl rfl (by kernel_rfl) (by kernel_rfl) (by kernel_rfl) (fun _ _ _ h => h) (by kernel_rfl) (fun w hSw => by (obtain hS := hSw); go_simp) hHeld ?_
            try simp only [List.setIfInBounds_toArray, List.set_cons_zero, List.set_cons_succ]
            refine held_take (i := 23) (d := 38) (v := (.bool false)) rfl rfl (by kernel_rfl) (by kernel_rfl) (by kernel_rfl) (fun _ _ _ h => h) (by kernel_rfl) (fun w hSw => by (obtain hS := hSw); go_simp) hHeld ?_
            try simp only [List.setIfInBounds_toArray, List.set_cons_zero, List.set_cons_succ]
            refine held_take (i := 24) (d := 39) (v := (.bool false)) rfl rfl (by kernel_rfl) (by kernel_rfl) (by kernel_rfl) (fun _ _ _ h => h) (by kernel_rfl) (fun w hSw => by (obtain hS := hSw); go_simp) hHeld ?_
            try simp only [List.setIfInBounds_toArray, List.set_cons_zero, List.set_cons_succ]
            refine wpAnyH_done (by kernel_rfl) ?_ _
            go_wp2_with fail
            go_roundw
            case rel => exact ⟨k + 1, t, rfl, by simp, by omega, HTOP.out, bel_trans HX.out HS1.out⟩
            case measure =>
              simp [intOf]
              omega
    · have hkn : k = l.length := by omega
      rw [hkn, List.take_length] at hm
      have hm : topE l C (b1, b2) = t := hm
      have h0 : 0 ≤ t := by rw [← hm]; exact top_nonneg _
      have h1 : t ≤ 4611686018427387904 := by have := HTO.out; rw [show (⟨ckd, ccl, csq, cky, cvl, crv⟩ : Cm) = C from HCE.out, hm] at this; exact this
      have HX := Lib.hid (And.intro hm hbw)
      clear hm hbw
      go_wp2_with fail
      go_ret
      rw [HX.out.1]
      exact ⟨rfl, bel_trans HR.out.2 HX.out.2⟩
end Go.Proofs.Ytlcggldcofncgaa.Ix
