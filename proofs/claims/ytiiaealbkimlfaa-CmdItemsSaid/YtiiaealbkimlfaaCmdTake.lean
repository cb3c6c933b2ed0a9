/-
  cmd.Take of any item: the command whose item that is, or none.
-/
import Derived.Test.YtiiaealbkimlfaaCmdItem
import Derived.Test.YtiiaealbkimlfaaCodSame
import Derived.BigRegion
import Derived.Deep.Cut
namespace Go.Proofs.Ytiiaealbkimlfaa
open Go.RowKit Mem Cmd Cod


/-- The command that was taken, or none. -/
def CmTakes (w : World) (r : Option Cm) (e : Ending) (w' : World) : Prop :=
  ∃ (c : Cm) (b : Bool), e = .returned (.tuple #[.agg #[.int .i64 c.kd, .int .i64 c.cl, .int .i64 c.sq, .string c.ky, .string c.vl, .int .i64 c.rv], .bool b]) ∧ c = r.getD zeroCm ∧ b = r.isSome ∧ Below w.heap.size w w'

theorem kid_eq {x : It} {i : Nat} (h : i < x.kids.length) : x.kids[i] = kid x i := by rw [kid, List.getD_eq_getElem?_getD, List.getElem?_eq_getElem h]; rfl
/-- An item's six parts, where they lie. -/
theorem kids_lie {w : World} {S : Nat → Prop} {x : It} {A : Option Addr} {c : Nat} (h : Lies w S x A c) (h6 : x.kids.length = 6) :
    ∃ g o, A = some ⟨g, o, none⟩ ∧ S g ∧ g < w.heap.size ∧ (∃ A' c', w.cell? ⟨g, o, none⟩ = some (.int .i64 (kid x 0).kind) ∧ w.cell? ⟨g, o + 1, none⟩ = some (.int .u64 ((kid x 0).num : Int)) ∧ w.cell? ⟨g, o + 2, none⟩ = some (.string (kid x 0).str) ∧ w.cell? ⟨g, o + 3, none⟩ = some (.slice A' (kid x 0).kids.length c') ∧ (kid x 0).num ≤ 18446744073709551615) ∧ (∃ A' c', w.cell? ⟨g, o + 4, none⟩ = some (.int .i64 (kid x 1).kind) ∧ w.cell? ⟨g, o + 4 + 1, none⟩ = some (.int .u64 ((kid x 1).num : Int)) ∧ w.cell? ⟨g, o + 4 + 2, none⟩ = some (.string (kid x 1).str) ∧ w.cell? ⟨g, o + 4 + 3, none⟩ = some (.slice A' (kid x 1).kids.length c') ∧ (kid x 1).num ≤ 18446744073709551615) ∧ (∃ A' c', w.cell? ⟨g, o + 8, none⟩ = some (.int .i64 (kid x 2).kind) ∧ w.cell? ⟨g, o + 8 + 1, none⟩ = some (.int .u64 ((kid x 2).num : Int)) ∧ w.cell? ⟨g, o + 8 + 2, none⟩ = some (.string (kid x 2).str) ∧ w.cell? ⟨g, o + 8 + 3, none⟩ = some (.slice A' (kid x 2).kids.length c') ∧ (kid x 2).num ≤ 18446744073709551615) ∧ (∃ A' c', w.cell? ⟨g, o + 12, none⟩ = some (.int .i64 (kid x 3).kind) ∧ w.cell? ⟨g, o + 12 + 1, none⟩ = some (.int .u64 ((kid x 3).num : Int)) ∧ w.cell? ⟨g, o + 12 + 2, none⟩ = some (.string (kid x 3).str) ∧ w.cell? ⟨g, o + 12 + 3, none⟩ = some (.slice A' (kid x 3).kids.length c') ∧ (kid x 3).num ≤ 18446744073709551615) ∧ (∃ A' c', w.cell? ⟨g, o + 16, none⟩ = some (.int .i64 (kid x 4).kind) ∧ w.cell? ⟨g, o + 16 + 1, none⟩ = some (.int .u64 ((kid x 4).num : Int)) ∧ w.cell? ⟨g, o + 16 + 2, none⟩ = some (.string (kid x 4).str) ∧ w.cell? ⟨g, o + 16 + 3, none⟩ = some (.slice A' (kid x 4).kids.length c') ∧ (kid x 4).num ≤ 18446744073709551615) ∧ (∃ A' c', w.cell? ⟨g, o + 20, none⟩ = some (.int .i64 (kid x 5).kind) ∧ w.cell? ⟨g, o + 20 + 1, none⟩ = some (.int .u64 ((kid x 5).num : Int)) ∧ w.cell? ⟨g, o + 20 + 2, none⟩ = some (.string (kid x 5).str) ∧ w.cell? ⟨g, o + 20 + 3, none⟩ = some (.slice A' (kid x 5).kids.length c') ∧ (kid x 5).num ≤ 18446744073709551615) := by
  obtain ⟨g, o, A0, c0, rfl, hS, hg, a0, a1, a2, a3, hl0⟩ := lies_kid h (i := 0) (by omega)
  obtain ⟨g1, o1, A1, c1, e1, -, -, m0, m1, m2, m3, hl1⟩ := lies_kid h (i := 1) (by omega)
  injection e1 with e1
  injection e1 with e1a e1b
  subst e1a
  subst e1b
  obtain ⟨g2, o2, A2, c2, e2, -, -, n0, n1, n2, n3, hl2⟩ := lies_kid h (i := 2) (by omega)
  injection e2 with e2
  injection e2 with e2a e2b
  subst e2a
  subst e2b
  obtain ⟨g3, o3, A3, c3, e3, -, -, p0, p1, p2, p3, hl3⟩ := lies_kid h (i := 3) (by omega)
  injection e3 with e3
  injection e3 with e3a e3b
  subst e3a
  subst e3b
  obtain ⟨g4, o4, A4, c4, e4, -, -, q0, q1, q2, q3, hl4⟩ := lies_kid h (i := 4) (by omega)
  injection e4 with e4
  injection e4 with e4a e4b
  subst e4a
  subst e4b
  obtain ⟨g5, o5, A5, c5, e5, -, -, r0, r1, r2, r3, hl5⟩ := lies_kid h (i := 5) (by omega)
  injection e5 with e5
  injection e5 with e5a e5b
  subst e5a
  subst e5b
  rw [kid_eq] at a0 a1 a2 a3 hl0
  rw [kid_eq] at m0 m1 m2 m3 hl1
  rw [kid_eq] at n0 n1 n2 n3 hl2
  rw [kid_eq] at p0 p1 p2 p3 hl3
  rw [kid_eq] at q0 q1 q2 q3 hl4
  rw [kid_eq] at r0 r1 r2 r3 hl5
  exact ⟨g, o, rfl, hS, hg, ⟨A0, c0, a0, a1, a2, a3, hl0.bounds.2.2.1⟩, ⟨A1, c1, m0, m1, m2, m3, hl1.bounds.2.2.1⟩, ⟨A2, c2, n0, n1, n2, n3, hl2.bounds.2.2.1⟩, ⟨A3, c3, p0, p1, p2, p3, hl3.bounds.2.2.1⟩, ⟨A4, c4, q0, q1, q2, q3, hl4.bounds.2.2.1⟩, ⟨A5, c5, r0, r1, r2, r3, hl5.bounds.2.2.1⟩⟩

theorem held10 {w w' : World} {g h : Nat} {t u : TypeId} {a b c d e f a' b' c' d' : Value} (h1 : Blk w g t #[a, b, c, d, e, f]) (h2 : Blk w h u #[a', b', c', d']) (hb : Below w.heap.size w w') :
    w'.cell? ⟨g, 0, none⟩ = some a ∧ w'.cell? ⟨g, 1, none⟩ = some b ∧ w'.cell? ⟨g, 2, none⟩ = some c ∧ w'.cell? ⟨g, 3, none⟩ = some d ∧ w'.cell? ⟨g, 4, none⟩ = some e ∧ w'.cell? ⟨g, 5, none⟩ = some f ∧
    w'.cell? ⟨h, 0, none⟩ = some a' ∧ w'.cell? ⟨h, 1, none⟩ = some b' ∧ w'.cell? ⟨h, 2, none⟩ = some c' ∧ w'.cell? ⟨h, 3, none⟩ = some d' := by
  obtain ⟨x0, x1, x2, x3, x4, x5⟩ := blk6 (h1.bel hb)
  obtain ⟨y0, y1, y2, y3⟩ := blk4 (h2.bel hb)
  exact ⟨x0, x1, x2, x3, x4, x5, y0, y1, y2, y3⟩
theorem blk6_set {w : World} {g : Nat} {t : TypeId} {a b c d e f : Value} (h : Blk w g t #[a, b, c, d, e, f]) (a' b' c' d' e' f' : Value) :
    Blk ((((((w.setCell ⟨g, 0, none⟩ a').setCell ⟨g, 1, none⟩ b').setCell ⟨g, 2, none⟩ c').setCell ⟨g, 3, none⟩ d').setCell ⟨g, 4, none⟩ e').setCell ⟨g, 5, none⟩ f') g t #[a', b', c', d', e', f'] ∧ w.grownBy ((((((w.setCell ⟨g, 0, none⟩ a').setCell ⟨g, 1, none⟩ b').setCell ⟨g, 2, none⟩ c').setCell ⟨g, 3, none⟩ d').setCell ⟨g, 4, none⟩ e').setCell ⟨g, 5, none⟩ f') (some g) :=
  ⟨by simpa using (((((h.put 0 a').put 1 b').put 2 c').put 3 d').put 4 e').put 5 f', gr_set (p := ⟨g, 5, none⟩) (gr_set (p := ⟨g, 4, none⟩) (gr_set (p := ⟨g, 3, none⟩) (gr_set (p := ⟨g, 2, none⟩) (gr_set (p := ⟨g, 1, none⟩) (gr_set (p := ⟨g, 0, none⟩) (gr_refl w (some g)) (.inl rfl) _) (.inl rfl) _) (.inl rfl) _) (.inl rfl) _) (.inl rfl) _) (.inl rfl) _⟩

set_option maxRecDepth 100000 in
set_option maxHeartbeats 4000000 in
theorem cmtake_any (x : It) (A : Option Addr) (c : Nat) (S : Nat → Prop) (w : World) (hl : Lies w S x A c) (hS : ∀ b, S b → b < w.heap.size) :
    Calls Try.prog 17 #[.agg #[.int .i64 x.kind, .int .u64 (x.num : Int), .string x.str, .slice A x.kids.length c]] w (CmTakes w (takeOf x)) := by
  have hsm := fun (W : World) (y : It) (V1 : Option Addr) (c1 : Nat) (hy : wt y ≤ 100000) (h1 : Lies W (fun b => b < W.heap.size) y V1 c1) (h2 : Lies W (fun b => b < W.heap.size) x A c) => same_item y x V1 A c1 c _ W h1 h2 (fun b hb => hb) hy
  obtain ⟨n, hn⟩ : ∃ n, x.kids.length = n := ⟨_, rfl⟩
  obtain ⟨b1, b2, b3, b4, b5, b6⟩ := hl.bounds
  rw [hn] at b5 hsm ⊢
  obtain ⟨W, hW⟩ : ∃ W, (w.alloc (.cells #[.int .i64 x.kind, .int .u64 (x.num : Int), .string x.str, .slice A n c] 33)).alloc (.cells #[.int .i64 0, .int .i64 0, .int .i64 0, .string ⟨#[]⟩, .string ⟨#[]⟩, .int .i64 0] 23) = W := ⟨_, rfl⟩
  obtain ⟨k1, k2, kb, hsW⟩ := two_kinds w _ _ _ _ W hW
  have HL := Lib.hid (hl.below kb hS)
  have HX := Lib.hid k1
  have HBX := Lib.hid k2
  have HB0 := Lib.hid kb
  have HW := Lib.hid hW
  have HSS := Lib.hid hS
  have HN := Lib.hid hn
  clear hl hS k1 k2 kb hW hn b1 b2 b3 b4 b6
  go_enter Try.func17, Try.ntmps17
  by_cases h6 : n = 6
  case neg =>
    have HNO := Lib.hid (show takeOf x = none from if_neg fun h => h6 (HN.out.symm.trans h.1))
    have hne : ((n : Int) != 6) = true := by simp; omega
    clear h6 hsm
    go_wp2_with fail
    refine bodyPost_ret (v := .tuple #[.agg #[.int .i64 0, .int .i64 0, .int .i64 0, .string ⟨#[]⟩, .string ⟨#[]⟩, .int .i64 0], .bool false]) (by simp [results, Try.results17, go_sem]) rfl ?_
    rw [HNO.out, HW.out]
    exact ⟨zeroCm, false, rfl, rfl, rfl, HB0.out⟩
  subst h6
  have HSM := Lib.hid hsm
  obtain ⟨g, o, rfl, hSg, hg, ⟨A0, c0, a0, a1, a2, a3, ab⟩, ⟨A1, c1, m0, m1, m2, m3, mb⟩, ⟨A2, c2, n0, n1, n2, n3, nb⟩, ⟨A3, c3, p0, p1, p2, p3, pb⟩, ⟨A4, c4, q0, q1, q2, q3, qb⟩, A5, c5, r0, r1, r2, r3, rb⟩ := kids_lie HL.out HN.out
  have htk : takeOf x = if same (itemOf (cmOf x)) x = true then some (cmOf x) else none := by
    unfold takeOf
    simp only [HN.out, true_and]
  obtain ⟨R0, hR0⟩ : ∃ R : Int, w64 (kid x 0).num = R := ⟨_, rfl⟩
  obtain ⟨R1, hR1⟩ : ∃ R : Int, w64 (kid x 1).num = R := ⟨_, rfl⟩
  obtain ⟨R2, hR2⟩ : ∃ R : Int, w64 (kid x 2).num = R := ⟨_, rfl⟩
  obtain ⟨R5, hR5⟩ : ∃ R : Int, w64 (kid x 5).num = R := ⟨_, rfl⟩
  obtain ⟨s3, hs3⟩ : ∃ s, (kid x 3).str = s := ⟨_, rfl⟩
  obtain ⟨s4, hs4⟩ : ∃ s, (kid x 4).str = s := ⟨_, rfl⟩
  have hcm : cmOf x = ⟨R0, R1, R2, s3, s4, R5⟩ := by rw [cmOf, hR0, hR1, hR2, hR5, hs3, hs4]
  rw [hs3] at p2
  rw [hs4] at q2
  rw [hcm] at htk
  have hit := fun w => cmitem_any R0 R1 R2 s3 s4 R5 w
  have hwt := wt_item ⟨R0, R1, R2, s3, s4, R5⟩
  generalize itemOf ⟨R0, R1, R2, s3, s4, R5⟩ = y at htk hit hwt
  generalize hr : same y x = r at htk
  have HRS := Lib.hid hr
  have HIT := Lib.hid hit
  have HWT := Lib.hid hwt
  have HTK := Lib.hid htk
  unfold w64 at hR0 hR1 hR2 hR5
  obtain ⟨x0, x1, x2, x3⟩ := blk4 HX.out
  clear htk hcm hs3 hs4 hr hit hwt hsm a0 a2 a3 m0 m2 m3 n0 n2 n3 p0 p1 p3 q0 q1 q3 r0 r2 r3 ab mb nb pb qb rb
  have HSW := Lib.hid hsW
  have hwW : w.heap.size < W.heap.size := by omega
  clear hsW
  go_upto_region 3 with fail
  rw [HW.out]
  have hn1 := World.new_ne W ⟨w.heap.size, 3, none⟩ x3
  have hn2 := World.new_ne W ⟨g, o + 1, none⟩ a1
  go_region_held3 (fun w' => w'.cell? ⟨w.heap.size, 3, none⟩ = some (.slice (some ⟨g, o, none⟩) 6 c) ∧ w'.cell? ⟨g, o + 1, none⟩ = some (.int .u64 ((kid x 0).num : Int)) ∧ w'.cell? ⟨g, o + 4 + 1, none⟩ = some (.int .u64 ((kid x 1).num : Int)) ∧ w'.cell? ⟨g, o + 8 + 1, none⟩ = some (.int .u64 ((kid x 2).num : Int)) ∧ w'.cell? ⟨g, o + 12 + 2, none⟩ = some (.string s3) ∧ w'.cell? ⟨g, o + 16 + 2, none⟩ = some (.string s4) ∧ w'.cell? ⟨g, o + 20 + 1, none⟩ = some (.int .u64 ((kid x 5).num : Int))) (go_keep) (fail)
  have hsW := HSW.out
  have hc4 := Blk.drew (Blk.new W 23 #[.int .i64 R0, .int .i64 R1, .int .i64 R2, .string s3, .string s4, .int .i64 R5])
  have hbe := Below.drew (bel_alloc (Below.refl W.heap.size W) (.cells #[.int .i64 R0, .int .i64 R1, .int .i64 R2, .string s3, .string s4, .int .i64 R5] 23))
  have hs2 := size_alloc W (.cells #[.int .i64 R0, .int .i64 R1, .int .i64 R2, .string s3, .string s4, .int .i64 R5] 23)
  have hs2' : (W.alloc (.cells #[.int .i64 R0, .int .i64 R1, .int .i64 R2, .string s3, .string s4, .int .i64 R5] 23)).drew.heap.size = W.heap.size + 1 := hs2
  generalize (W.alloc (.cells #[.int .i64 R0, .int .i64 R1, .int .i64 R2, .string s3, .string s4, .int .i64 R5] 23)).drew = W2 at hc4 hbe hs2' ⊢
  have HC4 := Lib.hid hc4
  have HX2 := Lib.hid (HX.out.bel hbe)
  have HBE := Lib.hid hbe
  have HCUR := Lib.hid (Below.drew (Below.refl W2.heap.size W2))
  have hL2 := HL.out.below hbe (fun b hb => by have := HSS.out b hb; omega)
  have HL2 := Lib.hid hL2
  have hle1 : w.heap.size + 2 ≤ W.heap.size := by omega
  have hle2 : W.heap.size + 1 ≤ W2.heap.size := by omega
  clear hsW hs2' hc4 hbe hs2 hL2 a1 m1 n1 p2 q2 r1 x0 x1 x2 x3 hR0 hR1 hR2 hR5
  go_wp2_with fail
  go_region_held3 (fun w' => w'.cell? ⟨W.heap.size, 0, none⟩ = some (.int .i64 R0) ∧ w'.cell? ⟨W.heap.size, 1, none⟩ = some (.int .i64 R1) ∧ w'.cell? ⟨W.heap.size, 2, none⟩ = some (.int .i64 R2) ∧ w'.cell? ⟨W.heap.size, 3, none⟩ = some (.string s3) ∧ w'.cell? ⟨W.heap.size, 4, none⟩ = some (.string s4) ∧ w'.cell? ⟨W.heap.size, 5, none⟩ = some (.int .i64 R5) ∧ w'.cell? ⟨w.heap.size, 0, none⟩ = some (.int .i64 x.kind) ∧ w'.cell? ⟨w.heap.size, 1, none⟩ = some (.int .u64 (x.num : Int)) ∧ w'.cell? ⟨w.heap.size, 2, none⟩ = some (.string x.str) ∧ w'.cell? ⟨w.heap.size, 3, none⟩ = some (.slice (some ⟨g, o, none⟩) 6 c)) (with_reducible exact held10 HC4.out HX2.out HCUR.out)
    (first
    | (go_at_call 16
       refine (HIT.out _).mono ?_
       rintro e v1 ⟨V1, k1, rfl, hl1, hb1⟩
       have hnow := HCUR.out.trans (hb1.mono HCUR.out.size)
       have hsn := hnow.size
       have hlx := (HL2.out.below hnow fun b hb => by have := HSS.out b hb; omega).more (S' := fun b => b < v1.heap.size) fun b hb _ => by have := HSS.out b hb; omega
       have hsm := HSM.out v1 y V1 k1 (Nat.le_trans HWT.out (by decide)) hl1 hlx
       rw [HRS.out] at hsm
       replace HCUR := Lib.hid hnow
       replace HSM := Lib.hid hsm
       clear HIT hb1 hnow hl1 hlx hsm hsn)
    | (go_at_call 18
       refine HSM.out.mono ?_
       rintro e v2 ⟨rfl, hb1⟩
       have hnow := HCUR.out.trans (hb1.mono HCUR.out.size)
       replace HCUR := Lib.hid hnow
       clear HSM hb1 hnow))
  replace HBE := Lib.hid (bel_trans HBE.out HCUR.out)
  cases r
  case false =>
    have hs9 := HBE.out.size
    have hblk := HBX.out.bel HBE.out
    have hw0 := HB0.out.size
    obtain ⟨j0, j1, j2, j3, j4, j5⟩ := blk6 hblk
    have z0 := hblk.soft 0
    have z1 := hblk.soft 1
    have z2 := hblk.soft 2
    have z3 := hblk.soft 3
    have z4 := hblk.soft 4
    have z5 := hblk.soft 5
    obtain ⟨i0, i1, i2, i3, i4, i5⟩ := blk6 (HC4.out.bel HCUR.out)
    go_wp2_with fail
    obtain ⟨hblk2, hgr⟩ := blk6_set hblk (.int .i64 0) (.int .i64 0) (.int .i64 0) (.string ⟨#[]⟩) (.string ⟨#[]⟩) (.int .i64 0)
    generalize ((((((v2).setCell ⟨w.heap.size + 1, 0, none⟩ (.int .i64 0)).setCell ⟨w.heap.size + 1, 1, none⟩ (.int .i64 0)).setCell ⟨w.heap.size + 1, 2, none⟩ (.int .i64 0)).setCell ⟨w.heap.size + 1, 3, none⟩ (.string ⟨#[]⟩)).setCell ⟨w.heap.size + 1, 4, none⟩ (.string ⟨#[]⟩)).setCell ⟨w.heap.size + 1, 5, none⟩ (.int .i64 0) = w9 at hblk2 hgr ⊢
    obtain ⟨d0, d1, d2, d3, d4, d5⟩ := blk6 hblk2
    refine bodyPost_ret (v := .tuple #[.agg #[.int .i64 0, .int .i64 0, .int .i64 0, .string ⟨#[]⟩, .string ⟨#[]⟩, .int .i64 0], .bool false]) (by simp [results, Try.results17, go_sem, d0, d1, d2, d3, d4, d5]) rfl ?_
    rw [HTK.out]
    exact ⟨zeroCm, false, rfl, rfl, rfl, (HB0.out.trans (HBE.out.mono (by omega))).trans (gr_below hgr (by omega) fun b hb => by injection hb with hb; omega)⟩
  case true =>
    have hs9 := HBE.out.size
    have hblk := HBX.out.bel HBE.out
    have hw0 := HB0.out.size
    obtain ⟨j0, j1, j2, j3, j4, j5⟩ := blk6 hblk
    have z0 := hblk.soft 0
    have z1 := hblk.soft 1
    have z2 := hblk.soft 2
    have z3 := hblk.soft 3
    have z4 := hblk.soft 4
    have z5 := hblk.soft 5
    obtain ⟨i0, i1, i2, i3, i4, i5⟩ := blk6 (HC4.out.bel HCUR.out)
    go_wp2_with fail
    obtain ⟨hblk2, hgr⟩ := blk6_set hblk (.int .i64 R0) (.int .i64 R1) (.int .i64 R2) (.string s3) (.string s4) (.int .i64 R5)
    generalize ((((((v2).setCell ⟨w.heap.size + 1, 0, none⟩ (.int .i64 R0)).setCell ⟨w.heap.size + 1, 1, none⟩ (.int .i64 R1)).setCell ⟨w.heap.size + 1, 2, none⟩ (.int .i64 R2)).setCell ⟨w.heap.size + 1, 3, none⟩ (.string s3)).setCell ⟨w.heap.size + 1, 4, none⟩ (.string s4)).setCell ⟨w.heap.size + 1, 5, none⟩ (.int .i64 R5) = w9 at hblk2 hgr ⊢
    obtain ⟨d0, d1, d2, d3, d4, d5⟩ := blk6 hblk2
    refine bodyPost_ret (v := .tuple #[.agg #[.int .i64 R0, .int .i64 R1, .int .i64 R2, .string s3, .string s4, .int .i64 R5], .bool true]) (by simp [results, Try.results17, go_sem, d0, d1, d2, d3, d4, d5]) rfl ?_
    rw [HTK.out]
    exact ⟨⟨R0, R1, R2, s3, s4, R5⟩, true, rfl, rfl, rfl, (HB0.out.trans (HBE.out.mono (by omega))).trans (gr_below hgr (by omega) fun b hb => by injection hb with hb; omega)⟩
end Go.Proofs.Ytiiaealbkimlfaa
