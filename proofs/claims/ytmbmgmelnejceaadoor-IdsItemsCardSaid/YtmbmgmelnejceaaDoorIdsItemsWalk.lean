/-
  The walk of the statement IdsItems.
-/
import Derived.Test.YtmbmgmelnejceaaDoorIdsAwake
import Derived.Test.YtmbmgmelnejceaaDoorIdsRefItem
import Derived.Test.YtmbmgmelnejceaaDoorIdsRefTake
import Derived.Test.YtmbmgmelnejceaaDoorIdsRefEq
import Derived.Test.YtmbmgmelnejceaaDoorCodSize
namespace Go.Proofs.YtmbmgmelnejceaaDoor
open Go.RowKit Mem Ids Cod Go.Sort

set_option maxRecDepth 100000 in
set_option maxHeartbeats 8000000 in
theorem idsitems_true (l : List (Int × Int)) (x : It) (A B : Option Addr) (n c d : Nat) (w : World) (ha : Rs w A n c l) (hx : Lies w (fun b => b < w.heap.size) x B d) (hT : Tab w) :
    Calls Tryd.prog 4 #[.slice A n c, .agg #[.int .i64 x.kind, .int .u64 (x.num : Int), .string x.str, .slice B x.kids.length d]] w (Tells true w) := by
  have hla := ha.len
  have hcA := And.intro ha.le ha.cap
  unfold maxLen at hcA
  obtain ⟨n2, hn2⟩ : ∃ m, x.kids.length = m := ⟨_, rfl⟩
  obtain ⟨b1, b2, b3, b4, b5, b6⟩ := hx.bounds
  rw [hn2] at b5 ⊢
  obtain ⟨W, hW⟩ : ∃ W, W = w.alloc (.cells #[.int .i64 x.kind, .int .u64 (x.num : Int), .string x.str, .slice B n2 d] 39) := ⟨_, rfl⟩
  have hbw : Below w.heap.size w W := by rw [hW]; exact bel_alloc (Below.refl _ _) _
  have kx : Blk W w.heap.size 39 #[.int .i64 x.kind, .int .u64 (x.num : Int), .string x.str, .slice B n2 d] := by rw [hW]; exact Blk.new _ _ _
  have hsW : W.heap.size = w.heap.size + 1 := by rw [hW]; exact size_alloc _ _
  have HR := Lib.hid (ha.below hbw)
  have HLX := Lib.hid (hx.below hbw fun b hb => hb)
  have hT1 := hT.below hbw
  have HB := Lib.hid hbw
  have HKX := Lib.hid kx
  have HM := Lib.hid hn2
  have hA : ∀ W', Below W.heap.size W W' → Calls Tryd.prog 7 #[] W' (Tells true W') := fun W' h => awake_any W' (hT1.below h)
  have HA := Lib.hid hA
  have hsz := sizeof_any 300 (by omega) 40 x B d _ W (by omega) HLX.out
  rw [hn2] at hsz
  have HSZ := Lib.hid hsz
  obtain ⟨k0, k1, k2, k3⟩ := blk4 kx
  have HW := Lib.hid hW
  clear ha hx hT hT1 hbw hA kx hn2 hsz hW
  go_enter Tryd.func4, Tryd.ntmps4
  by_cases h60 : 60 < n
  · go_wp2_with fail
    rw [← HW.out]
    refine (HA.out W (Below.refl _ _)).mono ?_
    rintro e w9 ⟨rfl, hb9⟩
    have HB9 := Lib.hid hb9
    clear hb9
    go_wp2_with fail
    go_ret
    exact ⟨rfl, bel_trans HB.out (bel_trans (Below.refl _ _) HB9.out)⟩
  · go_wp2_with fail
    rw [← HW.out]
    refine HSZ.out.mono ?_
    rintro e w1 ⟨r, rfl, r0, r1, hr, hb1⟩
    have HRR := Lib.hid hr
    have HB1 := Lib.hid hb1
    have hs1 := hb1.size
    clear hr hb1 HSZ k0 k1 k2 k3
    by_cases h6 : 300 < r
    · go_wp2_with fail
      refine (HA.out w1 HB1.out).mono ?_
      rintro e w9 ⟨rfl, hb9⟩
      have HB9 := Lib.hid hb9
      clear hb9
      go_wp2_with fail
      go_ret
      exact ⟨rfl, bel_trans HB.out (bel_trans HB1.out HB9.out)⟩
    · have hc1 := refcheck_any l A n c w1 (HR.out.below HB1.out)
      obtain ⟨t, ht⟩ : ∃ t, Ids.chk l = t := ⟨_, rfl⟩
      rw [ht] at hc1
      have HC1 := Lib.hid hc1
      have HT := Lib.hid ht
      clear hc1 ht
      go_wp2_with fail
      refine HC1.out.mono ?_
      rintro e w2 ⟨rfl, hb2⟩
      have HB2 := Lib.hid (bel_trans HB1.out hb2)
      have hs2 := hb2.size
      clear hb2
      cases t with
      | false =>
        have HBZ := Lib.hid (HB2.out)
        have hzs := HBZ.out.size
        obtain ⟨e0, e1, e2, e3⟩ := blk4 (HKX.out.bel HBZ.out)
        have hlz : Lies w2 (fun b => b < w.heap.size) x B d := HLX.out.below HBZ.out fun b hb => by omega
        have HLZ := Lib.hid hlz
        clear hlz
        go_wp2_with fail
        have htz := take_any x B d _ w2 HLZ.out (fun b hb => by omega)
        rw [HM.out] at htz
        refine htz.mono ?_
        clear htz
        rintro e z1 ⟨V5, n5, c5, l5, t5, rfl, hr5, hl5, ht5, hb5⟩
        have hs5 := hb5.size
        obtain ⟨g0, g1, g2, g3⟩ := blk4 ((HKX.out.bel HBZ.out).bel hb5)
        have HL5 := Lib.hid (HLZ.out.below hb5 fun b hb => by omega)
        have HR5 := Lib.hid hr5
        have HX5 := Lib.hid (And.intro hl5 ht5)
        have HB5 := Lib.hid hb5
        clear hr5 hl5 ht5 hb5 e0 e1 e2 e3
        go_wp2_with fail
        have htz := reftake_any x B d _ z1 HL5.out (fun b hb => by omega)
        rw [HM.out] at htz
        refine htz.mono ?_
        clear htz
        rintro e z2 ⟨V6, n6, c6, l6, t6, rfl, hr6, hl6, ht6, hb6⟩
        have hs6 := hb6.size
        obtain ⟨h1, h2⟩ := HX5.out
        have hll : l6 = l5 := by rw [hl6, h1]
        have htt : t6 = t5 := by rw [ht6, h2]
        subst hll; subst htt
        have hqq := refequal_any l6 l6 V5 V6 n5 c5 n6 c6 z2 (HR5.out.below hb6) hr6
        rw [decide_eq_true rfl] at hqq
        have HQQ := Lib.hid hqq
        have HBV := Lib.hid (bel_trans HBZ.out (bel_trans HB5.out hb6))
        clear hr6 hl6 ht6 hb6 hqq h1 h2 g0 g1 g2 g3
        go_wp2_with fail
        refine HQQ.out.mono ?_
        rintro e z3 ⟨rfl, hb7⟩
        have HBW := Lib.hid (bel_trans HBV.out hb7)
        clear hb7
        cases t6 with
        | true =>
          go_wp2_with fail
          refine (HA.out z3 HBW.out).mono ?_
          rintro e z4 ⟨rfl, hb8⟩
          have HB8 := Lib.hid hb8
          clear hb8
          go_wp2_with fail
          go_ret
          exact ⟨rfl, bel_trans HB.out (bel_trans HBW.out HB8.out)⟩
        | false =>
          go_wp2_with fail
          refine (HA.out z3 HBW.out).mono ?_
          rintro e z4 ⟨rfl, hb8⟩
          have HB8 := Lib.hid hb8
          clear hb8
          go_wp2_with fail
          go_ret
          exact ⟨rfl, bel_trans HB.out (bel_trans HBW.out HB8.out)⟩
      | true =>
        have hit := item_any l A n c w2 (HR.out.below HB2.out)
        have hit2 := fun W3 (h : Rs W3 A n c l) => refitem_any l A n c W3 h HT.out
        have htk := take_set HT.out
        have hwt : wt (setIt l) ≤ 100000 := by
          show 1 + ByteArray.empty.size + wts (its l) ≤ _
          rw [wts_its]
          simp
          omega
        rw [show itemOf l = setIt l by rw [itemOf, if_pos HT.out]] at hit
        generalize setIt l = y at hit hit2 htk hwt
        obtain ⟨m, hm⟩ : ∃ m, y.kids.length = m := ⟨_, rfl⟩
        have HIT := Lib.hid hit
        have HIT2 := Lib.hid hit2
        have HTK := Lib.hid htk
        have HY := Lib.hid hm
        have HWT := Lib.hid hwt
        clear hit hit2 htk hm hwt
        go_wp2_with fail
        refine HIT.out.mono ?_
        rintro e w3 ⟨V3, c3, rfl, hl3, hb3⟩
        have hs3 := hb3.size
        rw [HY.out]
        have HB3 := Lib.hid (bel_trans HB2.out hb3)
        have HL3 := Lib.hid hl3
        clear hb3 hl3
        go_wp2_with fail
        have hl4 := HL3.out.alloc (.cells #[.int .i64 y.kind, .int .u64 (y.num : Int), .string y.str, .slice V3 m c3] 39)
        have hk4 := Blk.new w3 39 #[.int .i64 y.kind, .int .u64 (y.num : Int), .string y.str, .slice V3 m c3]
        have hs4 := size_alloc w3 (.cells #[.int .i64 y.kind, .int .u64 (y.num : Int), .string y.str, .slice V3 m c3] 39)
        have hb4 := HB3.out.alloc (by omega) (.cells #[.int .i64 y.kind, .int .u64 (y.num : Int), .string y.str, .slice V3 m c3] 39)
        generalize w3.alloc (.cells #[.int .i64 y.kind, .int .u64 (y.num : Int), .string y.str, .slice V3 m c3] 39) = w4 at hl4 hk4 hs4 hb4 ⊢
        have htk := take_any y V3 c3 _ w4 hl4 (fun b hb => by omega)
        rw [HY.out, HTK.out] at htk
        have HL4 := Lib.hid hl4
        have HK4 := Lib.hid hk4
        have HB4 := Lib.hid hb4
        clear hl4 hk4 hb4
        refine htk.mono ?_
        clear htk
        rintro e w5 ⟨V5, n5, c5, l5, t5, rfl, hr5, hl5, ht5, hb5⟩
        have hl5' : l5 = l := hl5
        have ht5' : t5 = true := ht5
        subst ht5'
        rw [hl5'] at hr5
        clear hl5 ht5 hl5'
        have hs5 := hb5.size
        have hlt5 : w3.heap.size < w5.heap.size := by omega
        obtain ⟨f0, f1, f2, f3⟩ := blk4 (HK4.out.bel hb5)
        have hrl := HR.out.below (bel_trans HB4.out hb5)
        have HRL := Lib.hid hrl
        have HIR := Lib.hid (HIT2.out _ hrl.drew)
        have HL5 := Lib.hid (HL4.out.below hb5 fun b hb => by omega)
        have HR5 := Lib.hid hr5
        have HB5 := Lib.hid (bel_trans HB4.out hb5)
        have HCUR := Lib.hid (Below.drew (Below.refl w5.heap.size w5))
        clear hrl hr5 hb5
        go_wp2_with fail
        go_region_held3 (fun w' => w'.cell? ⟨w3.heap.size, 0, none⟩ = some (.int .i64 y.kind) ∧ w'.cell? ⟨w3.heap.size, 1, none⟩ = some (.int .u64 (y.num : Int)) ∧ w'.cell? ⟨w3.heap.size, 2, none⟩ = some (.string y.str) ∧ w'.cell? ⟨w3.heap.size, 3, none⟩ = some (.slice V3 m c3)) (exact ⟨(HCUR.out.cell (p := ⟨w3.heap.size, 0, none⟩) hlt5).trans f0, (HCUR.out.cell (p := ⟨w3.heap.size, 1, none⟩) hlt5).trans f1, (HCUR.out.cell (p := ⟨w3.heap.size, 2, none⟩) hlt5).trans f2, (HCUR.out.cell (p := ⟨w3.heap.size, 3, none⟩) hlt5).trans f3⟩)
          (first
            | (go_at_call 30
               refine HIR.out.mono ?_
               rintro e v1 ⟨V1, c1, rfl, hl1, hb1⟩
               rw [HY.out]
               have hnow := HCUR.out.trans (hb1.mono HCUR.out.size)
               have hly := (HL5.out.below hnow fun b hb => by omega).more (S' := fun b => b < v1.heap.size) fun b hb _ => by have := hnow.size; omega
               have hsm := same_item y y V3 V1 c3 c1 _ v1 hly hl1 (fun b hb => hb) HWT.out
               rw [HY.out, (same_iff y y).2 rfl] at hsm
               have HSM := Lib.hid hsm
               replace HCUR := Lib.hid hnow
               clear HIR hb1 hnow hl1 hly hsm)
            | (go_at_call 29
               refine HSM.out.mono ?_
               rintro e v2 ⟨rfl, hb1⟩
               have hnow := HCUR.out.trans (hb1.mono HCUR.out.size)
               have heq := refequal_any l l A V5 n c n5 c5 v2 (HRL.out.below hnow) (HR5.out.below hnow)
               rw [decide_eq_true rfl] at heq
               have HEQ := Lib.hid heq
               replace HCUR := Lib.hid hnow
               clear HSM hb1 hnow heq)
            | (go_at_call 9
               refine HEQ.out.mono ?_
               rintro e v3 ⟨rfl, hb1⟩
               have hnow := HCUR.out.trans (hb1.mono HCUR.out.size)
               replace HCUR := Lib.hid hnow
               clear HEQ hb1 hnow))
        clear f0 f1 f2 f3
        have HBZ := Lib.hid (bel_trans HB5.out HCUR.out)
        have hzs := HBZ.out.size
        obtain ⟨e0, e1, e2, e3⟩ := blk4 (HKX.out.bel HBZ.out)
        have hlz : Lies v3 (fun b => b < w.heap.size) x B d := HLX.out.below HBZ.out fun b hb => by omega
        have HLZ := Lib.hid hlz
        clear hlz
        go_wp2_with fail
        have htz := take_any x B d _ v3 HLZ.out (fun b hb => by omega)
        rw [HM.out] at htz
        refine htz.mono ?_
        clear htz
        rintro e z1 ⟨V5, n5, c5, l5, t5, rfl, hr5, hl5, ht5, hb5⟩
        have hs5 := hb5.size
        obtain ⟨g0, g1, g2, g3⟩ := blk4 ((HKX.out.bel HBZ.out).bel hb5)
        have HL5 := Lib.hid (HLZ.out.below hb5 fun b hb => by omega)
        have HR5 := Lib.hid hr5
        have HX5 := Lib.hid (And.intro hl5 ht5)
        have HB5 := Lib.hid hb5
        clear hr5 hl5 ht5 hb5 e0 e1 e2 e3
        go_wp2_with fail
        have htz := reftake_any x B d _ z1 HL5.out (fun b hb => by omega)
        rw [HM.out] at htz
        refine htz.mono ?_
        clear htz
        rintro e z2 ⟨V6, n6, c6, l6, t6, rfl, hr6, hl6, ht6, hb6⟩
        have hs6 := hb6.size
        obtain ⟨h1, h2⟩ := HX5.out
        have hll : l6 = l5 := by rw [hl6, h1]
        have htt : t6 = t5 := by rw [ht6, h2]
        subst hll; subst htt
        have hqq := refequal_any l6 l6 V5 V6 n5 c5 n6 c6 z2 (HR5.out.below hb6) hr6
        rw [decide_eq_true rfl] at hqq
        have HQQ := Lib.hid hqq
        have HBV := Lib.hid (bel_trans HBZ.out (bel_trans HB5.out hb6))
        clear hr6 hl6 ht6 hb6 hqq h1 h2 g0 g1 g2 g3
        go_wp2_with fail
        refine HQQ.out.mono ?_
        rintro e z3 ⟨rfl, hb7⟩
        have HBW := Lib.hid (bel_trans HBV.out hb7)
        clear hb7
        cases t6 with
        | true =>
          go_wp2_with fail
          refine (HA.out z3 HBW.out).mono ?_
          rintro e z4 ⟨rfl, hb8⟩
          have HB8 := Lib.hid hb8
          clear hb8
          go_wp2_with fail
          go_ret
          exact ⟨rfl, bel_trans HB.out (bel_trans HBW.out HB8.out)⟩
        | false =>
          go_wp2_with fail
          refine (HA.out z3 HBW.out).mono ?_
          rintro e z4 ⟨rfl, hb8⟩
          have HB8 := Lib.hid hb8
          clear hb8
          go_wp2_with fail
          go_ret
          exact ⟨rfl, bel_trans HB.out (bel_trans HBW.out HB8.out)⟩
end Go.Proofs.YtmbmgmelnejceaaDoor
