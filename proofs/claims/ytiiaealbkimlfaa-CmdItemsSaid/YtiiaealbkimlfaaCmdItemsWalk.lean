/-
  The walk of the statement CmdItems.
-/
import Derived.Test.YtiiaealbkimlfaaCmdAwake
import Derived.Test.YtiiaealbkimlfaaCmdRefTake
import Derived.Test.YtiiaealbkimlfaaCmdChecksWalk
import Derived.Test.YtiiaealbkimlfaaCodSize
namespace Go.Proofs.Ytiiaealbkimlfaa
open Go.RowKit Mem Cmd Cod

theorem kid_str (x : It) (i : Nat) : (kid x i).str.size ≤ wt x := by
  by_cases h : i < x.kids.length
  · rw [← kid_eq h]
    have h1 := wt_mem (List.getElem_mem h)
    have h2 := wt_eq x.kids[i]
    have h3 := wt_eq x
    omega
  · have : kid x i = zeroIt := by rw [kid, List.getD_eq_getElem?_getD, List.getElem?_eq_none (by omega)]; rfl
    rw [this]
    exact Nat.zero_le _

theorem held16 {w w' : World} {g h k : Nat} {t u s : TypeId} {a b c d a1 b1 c1 d1 e1 f1 a2 b2 c2 d2 e2 f2 : Value} (h1 : Blk w g t #[a, b, c, d]) (h2 : Blk w h u #[a1, b1, c1, d1, e1, f1]) (h3 : Blk w k s #[a2, b2, c2, d2, e2, f2]) (hb : Below w.heap.size w w') :
    w'.cell? ⟨g, 0, none⟩ = some a ∧ w'.cell? ⟨g, 1, none⟩ = some b ∧ w'.cell? ⟨g, 2, none⟩ = some c ∧ w'.cell? ⟨g, 3, none⟩ = some d ∧
    w'.cell? ⟨h, 0, none⟩ = some a1 ∧ w'.cell? ⟨h, 1, none⟩ = some b1 ∧ w'.cell? ⟨h, 2, none⟩ = some c1 ∧ w'.cell? ⟨h, 3, none⟩ = some d1 ∧ w'.cell? ⟨h, 4, none⟩ = some e1 ∧ w'.cell? ⟨h, 5, none⟩ = some f1 ∧
    w'.cell? ⟨k, 0, none⟩ = some a2 ∧ w'.cell? ⟨k, 1, none⟩ = some b2 ∧ w'.cell? ⟨k, 2, none⟩ = some c2 ∧ w'.cell? ⟨k, 3, none⟩ = some d2 ∧ w'.cell? ⟨k, 4, none⟩ = some e2 ∧ w'.cell? ⟨k, 5, none⟩ = some f2 := by
  obtain ⟨x0, x1, x2, x3⟩ := blk4 (h1.bel hb)
  obtain ⟨y0, y1, y2, y3, y4, y5⟩ := blk6 (h2.bel hb)
  obtain ⟨z0, z1, z2, z3, z4, z5⟩ := blk6 (h3.bel hb)
  exact ⟨x0, x1, x2, x3, y0, y1, y2, y3, y4, y5, z0, z1, z2, z3, z4, z5⟩

set_option maxRecDepth 100000 in
set_option maxHeartbeats 8000000 in
theorem cmditems_true (kd cl sq : Int) (ky vl : ByteArray) (rv : Int) (x : It) (B : Option Addr) (d : Nat) (w : World) (hx : Lies w (fun b => b < w.heap.size) x B d) :
    Calls Try.prog 4 #[.agg #[.int .i64 kd, .int .i64 cl, .int .i64 sq, .string ky, .string vl, .int .i64 rv], .agg #[.int .i64 x.kind, .int .u64 (x.num : Int), .string x.str, .slice B x.kids.length d]] w (Tells true w) := by
  obtain ⟨n2, hn2⟩ : ∃ m, x.kids.length = m := ⟨_, rfl⟩
  rw [hn2]
  obtain ⟨W, hW⟩ : ∃ W, (w.alloc (.cells #[.int .i64 kd, .int .i64 cl, .int .i64 sq, .string ky, .string vl, .int .i64 rv] 23)).alloc (.cells #[.int .i64 x.kind, .int .u64 (x.num : Int), .string x.str, .slice B n2 d] 33) = W := ⟨_, rfl⟩
  obtain ⟨k1, k2, kb, hsW⟩ := two_kinds w _ _ _ _ W hW
  have HLX := Lib.hid (hx.below kb fun b hb => hb)
  have HK1 := Lib.hid k1
  have HKX := Lib.hid k2
  have HB0 := Lib.hid kb
  have HW := Lib.hid hW
  have HM := Lib.hid hn2
  have HA := Lib.hid awake_any
  have hwW : w.heap.size + 2 ≤ W.heap.size := by omega
  have g1 := fun w => great_any kd cl sq ky vl rv w
  have hky := (fun h => (great_key (c := ⟨kd, cl, sq, ky, vl, rv⟩) h).1)
  generalize great ⟨kd, cl, sq, ky, vl, rv⟩ = r1 at g1 hky
  have HG := Lib.hid g1
  have hsz := sizeof_any 300 (by omega) 40 x B d (fun b => b < w.heap.size)
  rw [hn2] at hsz
  have HSZ := Lib.hid hsz
  clear hx k1 k2 kb hW hsW g1 hn2 hsz
  go_enter Try.func4, Try.ntmps4
  go_wp2_with fail
  rw [HW.out]
  refine (HG.out W).mono ?_
  rintro e w1 ⟨rfl, hb1⟩
  have hs1 := hb1.size
  have HB1 := Lib.hid hb1
  obtain ⟨x0, x1, x2, x3⟩ := blk4 (HKX.out.bel hb1)
  clear hb1
  cases r1
  case true =>
    go_wp2_with (go_at_call 8; refine (HA.out _).mono ?_; rintro e z9 ⟨rfl, hb9⟩; have HB9 := Lib.hid hb9; clear hb9)
    go_ret
    exact ⟨rfl, bel_trans HB0.out (bel_trans HB1.out HB9.out)⟩
  have h200 : ky.size ≤ 200 := hky rfl
  clear hky
  go_wp2_with fail
  refine (HSZ.out w1 (by omega) (HLX.out.below HB1.out fun b hb => by omega)).mono ?_
  rintro e w2 ⟨r, rfl, r0, r1, hr, hb2⟩
  have HRR := Lib.hid hr
  have HB2 := Lib.hid (bel_trans HB1.out hb2)
  have hs2 := hb2.size
  clear hr hb2 x0 x1 x2 x3
  by_cases h6 : 300 < r
  · go_wp2_with (go_at_call 8; refine (HA.out _).mono ?_; rintro e z9 ⟨rfl, hb9⟩; have HB9 := Lib.hid hb9; clear hb9)
    go_ret
    exact ⟨rfl, bel_trans HB0.out (bel_trans HB2.out HB9.out)⟩
  have HKS := Lib.hid (show (kid x 3).str.size ≤ 1073741824 by have h1 := kid_str x 3; have h2 := HRR.out (by omega); omega)
  have hck := refcheck_any kd cl sq ky vl rv w2 (by omega)
  obtain ⟨p0, p1, p2, p3, p4, p5⟩ := blk6 (HK1.out.bel HB2.out)
  obtain ⟨v, hv⟩ : ∃ v, Cmd.chk ⟨kd, cl, sq, ky, vl, rv⟩ = v := ⟨_, rfl⟩
  rw [hv] at hck
  have HCK := Lib.hid hck
  have HV := Lib.hid hv
  clear hck hv r0 r1 HRR
  go_wp2_with fail
  refine HCK.out.mono ?_
  rintro e w20 ⟨rfl, hb20⟩
  have HB20 := Lib.hid (bel_trans HB2.out hb20)
  have hs20 := hb20.size
  clear hb20 p0 p1 p2 p3 p4 p5 HCK
  by_cases h0 : v = 0
  case neg =>
    have hn0 : (v == 0) = false := by simpa using h0
    have HBZ := Lib.hid HB20.out
    clear h0
    have hzs := HBZ.out.size
    obtain ⟨e0, e1, e2, e3⟩ := blk4 (HKX.out.bel HBZ.out)
    have hlz : Lies w20 (fun b => b < w.heap.size) x B d := HLX.out.below HBZ.out fun b hb => by omega
    have HLZ := Lib.hid hlz
    clear hlz
    go_wp2_with fail
    have htz := cmtake_any x B d _ w20 HLZ.out (fun b hb => by omega)
    rw [HM.out] at htz
    refine htz.mono ?_
    clear htz
    rintro e z1 ⟨c5, b5, rfl, hc5, ht5, hb5⟩
    have hs5 := hb5.size
    obtain ⟨d1, d2, d3, d4, d5, d6⟩ := c5
    simp only
    have HKZ := Lib.hid ((HKX.out.bel HBZ.out).bel hb5)
    have hk8 := Blk.new z1 23 #[.int .i64 d1, .int .i64 d2, .int .i64 d3, .string d4, .string d5, .int .i64 d6]
    have hl8 := (HLZ.out.below hb5 fun b hb => by omega).alloc (.cells #[.int .i64 d1, .int .i64 d2, .int .i64 d3, .string d4, .string d5, .int .i64 d6] 23)
    have hs8 := size_alloc z1 (.cells #[.int .i64 d1, .int .i64 d2, .int .i64 d3, .string d4, .string d5, .int .i64 d6] 23)
    have hb8 := (bel_trans HBZ.out hb5).alloc (by omega) (.cells #[.int .i64 d1, .int .i64 d2, .int .i64 d3, .string d4, .string d5, .int .i64 d6] 23)
    have HX5 := Lib.hid (And.intro hc5 ht5)
    clear hc5 ht5 hb5 e0 e1 e2 e3
    obtain ⟨e0, e1, e2, e3⟩ := blk4 HKZ.out
    have hwz : w.heap.size + 1 < z1.heap.size := HKZ.out.lt
    have HZ2 := Lib.hid (And.intro hk8 (And.intro hl8 (And.intro hs8 hb8)))
    obtain ⟨Z2, hZ2⟩ : ∃ Z2, z1.alloc (.cells #[.int .i64 d1, .int .i64 d2, .int .i64 d3, .string d4, .string d5, .int .i64 d6] 23) = Z2 := ⟨_, rfl⟩
    rw [hZ2] at HZ2
    have HZE := Lib.hid hZ2
    clear hZ2 hk8 hl8 hs8 hb8
    go_wp2_with fail
    rw [HZE.out]
    obtain ⟨hk8, hl8, hs8, hb8⟩ := HZ2.out
    have htz := refcmtake_any x B d _ Z2 hl8 (fun b hb => by omega) HKS.out
    rw [HM.out] at htz
    have HK8 := Lib.hid hk8
    have HB8 := Lib.hid hb8
    have hz12 : z1.heap.size < Z2.heap.size := by omega
    clear hk8 hl8 hs8 hb8 HZ2 HZE
    refine htz.mono ?_
    clear htz
    rintro e z3 ⟨c6, b6, rfl, hc6, ht6, hb6⟩
    obtain ⟨h1, h2⟩ := HX5.out
    have hcc : c6 = ⟨d1, d2, d3, d4, d5, d6⟩ := hc6.trans h1.symm
    have hbb : b6 = b5 := ht6.trans h2.symm
    subst hcc
    subst hbb
    simp only
    have hs6 := hb6.size
    obtain ⟨j0, j1, j2, j3, j4, j5⟩ := blk6 (HK8.out.bel hb6)
    have hz13 : z1.heap.size < z3.heap.size := by omega
    have heq : ∀ w, Sem.run Try.prog (binOp .eql 23 (.agg #[.int .i64 d1, .int .i64 d2, .int .i64 d3, .string d4, .string d5, .int .i64 d6]) (.agg #[.int .i64 d1, .int .i64 d2, .int .i64 d3, .string d4, .string d5, .int .i64 d6])) w = .ok (.bool true) w := fun w => by rw [eql_cmd, eqv_refl]
    have HBV := Lib.hid ((bel_trans HB8.out hb6).alloc (by have := HB8.out.size; omega) (.cells #[.int .i64 d1, .int .i64 d2, .int .i64 d3, .string d4, .string d5, .int .i64 d6] 23))
    clear hc6 ht6 hb6 h1 h2 hs6 hz12
    cases b6
    all_goals
      go_wp2_with (go_at_call 8; refine (HA.out _).mono ?_; rintro e z9 ⟨rfl, hb9⟩; have HB9 := Lib.hid hb9; clear hb9)
      go_ret
      exact ⟨rfl, bel_trans HB0.out (bel_trans HBV.out HB9.out)⟩
  case pos =>
    subst h0
    have hit := cmitem_any kd cl sq ky vl rv w20
    rw [show itemOf ⟨kd, cl, sq, ky, vl, rv⟩ = cmIt ⟨kd, cl, sq, ky, vl, rv⟩ by rw [itemOf, if_pos HV.out]] at hit
    have hit2 := fun w => refcmitem_any kd cl sq ky vl rv w HV.out
    have htk : ∀ (w : World) (V : Option Addr) (k : Nat), Lies w (fun b => b < w.heap.size) (cmIt ⟨kd, cl, sq, ky, vl, rv⟩) V k → Calls Try.prog 17 #[.agg #[.int .i64 (cmIt ⟨kd, cl, sq, ky, vl, rv⟩).kind, .int .u64 ((cmIt ⟨kd, cl, sq, ky, vl, rv⟩).num : Int), .string (cmIt ⟨kd, cl, sq, ky, vl, rv⟩).str, .slice V (cmIt ⟨kd, cl, sq, ky, vl, rv⟩).kids.length k]] w fun e w' => e = .returned (.tuple #[.agg #[.int .i64 kd, .int .i64 cl, .int .i64 sq, .string ky, .string vl, .int .i64 rv], .bool true]) ∧ Below w.heap.size w w' := by
      intro w V k hl
      refine (cmtake_any (cmIt ⟨kd, cl, sq, ky, vl, rv⟩) V k _ w hl (fun b hb => hb)).mono ?_
      rintro e w' ⟨c, b, rfl, h1, h2, hb⟩
      rw [take_cm HV.out] at h1 h2
      subst h1; subst h2
      exact ⟨rfl, hb⟩
    have hwt := wt_item ⟨kd, cl, sq, ky, vl, rv⟩
    rw [show itemOf ⟨kd, cl, sq, ky, vl, rv⟩ = cmIt ⟨kd, cl, sq, ky, vl, rv⟩ by rw [itemOf, if_pos HV.out]] at hwt
    generalize cmIt ⟨kd, cl, sq, ky, vl, rv⟩ = y at hit hit2 htk hwt
    obtain ⟨m, hm⟩ : ∃ m, y.kids.length = m := ⟨_, rfl⟩
    rw [hm] at htk
    have HIT := Lib.hid hit
    have HIT2 := Lib.hid hit2
    have HTK := Lib.hid htk
    have HY := Lib.hid hm
    have HWT := Lib.hid hwt
    obtain ⟨p0, p1, p2, p3, p4, p5⟩ := blk6 (HK1.out.bel HB20.out)
    clear hit hit2 htk hm hwt
    go_wp2_with fail
    refine HIT.out.mono ?_
    rintro e w3 ⟨V3, c3, rfl, hl3, hb3⟩
    have hs3 := hb3.size
    rw [HY.out]
    have HB3 := Lib.hid (bel_trans HB20.out hb3)
    have HL3 := Lib.hid hl3
    clear hb3 hl3 p0 p1 p2 p3 p4 p5
    go_wp2_with fail
    have hl4 := HL3.out.alloc (.cells #[.int .i64 y.kind, .int .u64 (y.num : Int), .string y.str, .slice V3 m c3] 33)
    have hk4 := Blk.new w3 33 #[.int .i64 y.kind, .int .u64 (y.num : Int), .string y.str, .slice V3 m c3]
    have hs4 := size_alloc w3 (.cells #[.int .i64 y.kind, .int .u64 (y.num : Int), .string y.str, .slice V3 m c3] 33)
    have hb4 := HB3.out.alloc (by omega) (.cells #[.int .i64 y.kind, .int .u64 (y.num : Int), .string y.str, .slice V3 m c3] 33)
    generalize w3.alloc (.cells #[.int .i64 y.kind, .int .u64 (y.num : Int), .string y.str, .slice V3 m c3] 33) = w4 at hl4 hk4 hs4 hb4 ⊢
    have hl4' := hl4.more (S' := fun b => b < w4.heap.size) fun b hb _ => by omega
    have htk := HTK.out w4 V3 c3 hl4'
    have HL4 := Lib.hid hl4
    have HK4 := Lib.hid hk4
    have HB4 := Lib.hid hb4
    clear hl4 hk4 hb4 hl4'
    refine htk.mono ?_
    clear htk
    rintro e w5 ⟨rfl, hb5⟩
    have hs5 := hb5.size
    have hk6 := Blk.new w5 23 #[.int .i64 kd, .int .i64 cl, .int .i64 sq, .string ky, .string vl, .int .i64 rv]
    have hky6 := (HK4.out.bel hb5).alloc (.cells #[.int .i64 kd, .int .i64 cl, .int .i64 sq, .string ky, .string vl, .int .i64 rv] 23)
    have hkc6 := (HK1.out.bel (bel_trans HB4.out hb5)).alloc (.cells #[.int .i64 kd, .int .i64 cl, .int .i64 sq, .string ky, .string vl, .int .i64 rv] 23)
    have hs6 := size_alloc w5 (.cells #[.int .i64 kd, .int .i64 cl, .int .i64 sq, .string ky, .string vl, .int .i64 rv] 23)
    have hb6 := (bel_trans HB4.out hb5).alloc (by omega) (.cells #[.int .i64 kd, .int .i64 cl, .int .i64 sq, .string ky, .string vl, .int .i64 rv] 23)
    have hl6 := (HL4.out.below hb5 fun b hb => by omega).alloc (.cells #[.int .i64 kd, .int .i64 cl, .int .i64 sq, .string ky, .string vl, .int .i64 rv] 23)
    obtain ⟨w6, hw6⟩ : ∃ w6, w5.alloc (.cells #[.int .i64 kd, .int .i64 cl, .int .i64 sq, .string ky, .string vl, .int .i64 rv] 23) = w6 := ⟨_, rfl⟩
    rw [hw6] at hk6 hky6 hkc6 hs6 hb6 hl6
    have H6A := Lib.hid hk6
    have H6B := Lib.hid hky6
    have H6C := Lib.hid hkc6
    have HB6 := Lib.hid hb6
    have HL6 := Lib.hid hl6
    have HW6 := Lib.hid hw6
    have hw36 : w3.heap.size < w6.heap.size := by omega
    have hneq : ∀ w, Sem.run Try.prog (binOp .neq 23 (.agg #[.int .i64 kd, .int .i64 cl, .int .i64 sq, .string ky, .string vl, .int .i64 rv]) (.agg #[.int .i64 kd, .int .i64 cl, .int .i64 sq, .string ky, .string vl, .int .i64 rv])) w = .ok (.bool false) w := fun w => by rw [neq_cmd, eqv_refl]; rfl
    clear hk6 hky6 hkc6 hb6 hl6 hw6 hb5 hs6 hs4 hs5
    go_wp2_with fail
    rw [HW6.out]
    have HCUR := Lib.hid (Below.drew (Below.refl w6.heap.size w6))
    go_region_held3 (fun w' => w'.cell? ⟨w3.heap.size, 0, none⟩ = some (.int .i64 y.kind) ∧ w'.cell? ⟨w3.heap.size, 1, none⟩ = some (.int .u64 (y.num : Int)) ∧ w'.cell? ⟨w3.heap.size, 2, none⟩ = some (.string y.str) ∧ w'.cell? ⟨w3.heap.size, 3, none⟩ = some (.slice V3 m c3) ∧ w'.cell? ⟨w.heap.size, 0, none⟩ = some (.int .i64 kd) ∧ w'.cell? ⟨w.heap.size, 1, none⟩ = some (.int .i64 cl) ∧ w'.cell? ⟨w.heap.size, 2, none⟩ = some (.int .i64 sq) ∧ w'.cell? ⟨w.heap.size, 3, none⟩ = some (.string ky) ∧ w'.cell? ⟨w.heap.size, 4, none⟩ = some (.string vl) ∧ w'.cell? ⟨w.heap.size, 5, none⟩ = some (.int .i64 rv) ∧ w'.cell? ⟨w5.heap.size, 0, none⟩ = some (.int .i64 kd) ∧ w'.cell? ⟨w5.heap.size, 1, none⟩ = some (.int .i64 cl) ∧ w'.cell? ⟨w5.heap.size, 2, none⟩ = some (.int .i64 sq) ∧ w'.cell? ⟨w5.heap.size, 3, none⟩ = some (.string ky) ∧ w'.cell? ⟨w5.heap.size, 4, none⟩ = some (.string vl) ∧ w'.cell? ⟨w5.heap.size, 5, none⟩ = some (.int .i64 rv)) (with_reducible exact held16 H6B.out H6C.out H6A.out HCUR.out)
      (first
      | (go_at_call 19
         refine (HIT2.out _).mono ?_
         rintro e v1 ⟨V1, k1, rfl, hl1, hb1⟩
         rw [HY.out]
         have hnow := HCUR.out.trans (hb1.mono HCUR.out.size)
         have hly := (HL6.out.below hnow fun b hb => by omega).more (S' := fun b => b < v1.heap.size) fun b hb _ => by have := hnow.size; omega
         have hsm := same_item y y V3 V1 c3 k1 _ v1 hly hl1 (fun b hb => hb) (Nat.le_trans HWT.out (by decide))
         rw [HY.out, (same_iff y y).2 rfl] at hsm
         have HSM := Lib.hid hsm
         replace HCUR := Lib.hid hnow
         clear HIT2 hb1 hnow hl1 hly hsm)
      | (go_at_call 18
         refine HSM.out.mono ?_
         rintro e v2 ⟨rfl, hb1⟩
         have hnow := HCUR.out.trans (hb1.mono HCUR.out.size)
         replace HCUR := Lib.hid hnow
         clear HSM hb1 hnow))
    have HBZ := Lib.hid (bel_trans HB6.out HCUR.out)
    clear hneq
    have hzs := HBZ.out.size
    obtain ⟨e0, e1, e2, e3⟩ := blk4 (HKX.out.bel HBZ.out)
    have hlz : Lies v2 (fun b => b < w.heap.size) x B d := HLX.out.below HBZ.out fun b hb => by omega
    have HLZ := Lib.hid hlz
    clear hlz
    go_wp2_with fail
    have htz := cmtake_any x B d _ v2 HLZ.out (fun b hb => by omega)
    rw [HM.out] at htz
    refine htz.mono ?_
    clear htz
    rintro e z1 ⟨c5, b5, rfl, hc5, ht5, hb5⟩
    have hs5 := hb5.size
    obtain ⟨d1, d2, d3, d4, d5, d6⟩ := c5
    simp only
    have HKZ := Lib.hid ((HKX.out.bel HBZ.out).bel hb5)
    have hk8 := Blk.new z1 23 #[.int .i64 d1, .int .i64 d2, .int .i64 d3, .string d4, .string d5, .int .i64 d6]
    have hl8 := (HLZ.out.below hb5 fun b hb => by omega).alloc (.cells #[.int .i64 d1, .int .i64 d2, .int .i64 d3, .string d4, .string d5, .int .i64 d6] 23)
    have hs8 := size_alloc z1 (.cells #[.int .i64 d1, .int .i64 d2, .int .i64 d3, .string d4, .string d5, .int .i64 d6] 23)
    have hb8 := (bel_trans HBZ.out hb5).alloc (by omega) (.cells #[.int .i64 d1, .int .i64 d2, .int .i64 d3, .string d4, .string d5, .int .i64 d6] 23)
    have HX5 := Lib.hid (And.intro hc5 ht5)
    clear hc5 ht5 hb5 e0 e1 e2 e3
    obtain ⟨e0, e1, e2, e3⟩ := blk4 HKZ.out
    have hwz : w.heap.size + 1 < z1.heap.size := HKZ.out.lt
    have HZ2 := Lib.hid (And.intro hk8 (And.intro hl8 (And.intro hs8 hb8)))
    obtain ⟨Z2, hZ2⟩ : ∃ Z2, z1.alloc (.cells #[.int .i64 d1, .int .i64 d2, .int .i64 d3, .string d4, .string d5, .int .i64 d6] 23) = Z2 := ⟨_, rfl⟩
    rw [hZ2] at HZ2
    have HZE := Lib.hid hZ2
    clear hZ2 hk8 hl8 hs8 hb8
    go_wp2_with fail
    rw [HZE.out]
    obtain ⟨hk8, hl8, hs8, hb8⟩ := HZ2.out
    have htz := refcmtake_any x B d _ Z2 hl8 (fun b hb => by omega) HKS.out
    rw [HM.out] at htz
    have HK8 := Lib.hid hk8
    have HB8 := Lib.hid hb8
    have hz12 : z1.heap.size < Z2.heap.size := by omega
    clear hk8 hl8 hs8 hb8 HZ2 HZE
    refine htz.mono ?_
    clear htz
    rintro e z3 ⟨c6, b6, rfl, hc6, ht6, hb6⟩
    obtain ⟨h1, h2⟩ := HX5.out
    have hcc : c6 = ⟨d1, d2, d3, d4, d5, d6⟩ := hc6.trans h1.symm
    have hbb : b6 = b5 := ht6.trans h2.symm
    subst hcc
    subst hbb
    simp only
    have hs6 := hb6.size
    obtain ⟨j0, j1, j2, j3, j4, j5⟩ := blk6 (HK8.out.bel hb6)
    have hz13 : z1.heap.size < z3.heap.size := by omega
    have heq : ∀ w, Sem.run Try.prog (binOp .eql 23 (.agg #[.int .i64 d1, .int .i64 d2, .int .i64 d3, .string d4, .string d5, .int .i64 d6]) (.agg #[.int .i64 d1, .int .i64 d2, .int .i64 d3, .string d4, .string d5, .int .i64 d6])) w = .ok (.bool true) w := fun w => by rw [eql_cmd, eqv_refl]
    have HBV := Lib.hid ((bel_trans HB8.out hb6).alloc (by have := HB8.out.size; omega) (.cells #[.int .i64 d1, .int .i64 d2, .int .i64 d3, .string d4, .string d5, .int .i64 d6] 23))
    clear hc6 ht6 hb6 h1 h2 hs6 hz12
    cases b6
    all_goals
      go_wp2_with (go_at_call 8; refine (HA.out _).mono ?_; rintro e z9 ⟨rfl, hb9⟩; have HB9 := Lib.hid hb9; clear hb9)
      go_ret
      exact ⟨rfl, bel_trans HB0.out (bel_trans HBV.out HB9.out)⟩
end Go.Proofs.Ytiiaealbkimlfaa
