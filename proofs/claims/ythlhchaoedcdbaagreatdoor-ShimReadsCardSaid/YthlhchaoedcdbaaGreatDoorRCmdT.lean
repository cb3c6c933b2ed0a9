/-
  Texts of earlier layers, as one.
-/
import Derived.Test.YthlhchaoedcdbaaGreatDoorRCmdI
import Derived.Test.YthlhchaoedcdbaaGreatDoorRCmdR
/- The document's Take of any item: the command whose item that is, or none. -/
namespace Go.Proofs.YthlhchaoedcdbaaGreatDoor.Cw
open Lib (hid)
open Go.RowKit Mem Cmd Cod
theorem refint_any (k : Int) (n : Nat) (s : ByteArray) (A : Option Addr) (m c : Nat) (w : World) : Calls Tryz.prog 77 #[.agg #[.int .i64 k, .int .u64 (n : Int), .string s, .slice A m c]] w fun e w' => e = .returned (.int .i64 (cap n)) ∧ Below w.heap.size w w' := by
 obtain ⟨N, hN⟩ : ∃ N : Int, (n : Int) = N := ⟨_, rfl⟩
 rw [hN];by_cases h : N > 4611686018427387904
 · have hc : cap n = 4611686018427387904 := if_pos (by omega)
   rw [hc];clear hc hN;go_enter Tryz.func77, Tryz.ntmps77
   go_wp2_with fail
   go_ret;exact ⟨rfl, bel_alloc (Below.refl _ _) _⟩
 · have hc : cap n = IntKind.i64.wrap N := by rw [cap, if_neg (by omega), w64, hN]
   obtain ⟨R, hR⟩ : ∃ R, IntKind.i64.wrap N = R := ⟨_, rfl⟩
   rw [hc, hR];clear hc hN;go_enter Tryz.func77, Tryz.ntmps77
   go_wp2_with fail
   go_ret;exact ⟨rfl, bel_alloc (Below.refl _ _) _⟩
theorem with_reducible_new {w v : World} {vs : Array Value} {t : TypeId} (h : Below (w.alloc (.cells vs t)).heap.size (w.alloc (.cells vs t)) v) : Blk v w.heap.size t vs := (Blk.new w t vs).bel h
theorem World.size_drew' (w : World) : w.drew.heap.size = w.heap.size := rfl
theorem with_reducible_new2 {w v : World} {vs : Array Value} {t : TypeId} (h : Below (w.alloc (.cells vs t)).drew.heap.size (w.alloc (.cells vs t)).drew v) : Blk v w.heap.size t vs := (Blk.new w t vs).drew.bel h
theorem bel_set6 {W v : World} {p : Nat} {t : TypeId} {a b c d e f : Value} (h : Blk v p t #[a, b, c, d, e, f]) (hp : W.heap.size ≤ p) (hb : Below W.heap.size W v) (a' b' c' d' e' f' : Value) :
 Below W.heap.size W ((((((v.setCell ⟨p, 0, none⟩ a').setCell ⟨p, 1, none⟩ b').setCell ⟨p, 2, none⟩ c').setCell ⟨p, 3, none⟩ d').setCell ⟨p, 4, none⟩ e').setCell ⟨p, 5, none⟩ f') :=
 hb.trans (gr_below (blk6_set h a' b' c' d' e' f').2 hb.size fun b hb => by injection hb with hb; omega)
def RtkCut (W : World) (vs : Array Value) (v4 : Value) (wx : World) : Prop :=
 ∃ p, v4 = .pointer (some ⟨p, 0, none⟩) ∧ W.heap.size ≤ p ∧ Blk wx p 27 vs ∧ Below W.heap.size W wx
theorem rtk_new {W v : World} {vs : Array Value} (hb : Below W.heap.size W v) : RtkCut W vs (.pointer (some ⟨v.heap.size, 0, none⟩)) (v.alloc (.cells vs 27)) :=
 ⟨_, rfl, hb.size, Blk.new _ _ _, hb.alloc hb.size _⟩
theorem rtk_set {W v : World} {p : Nat} {a b c d e f : Value} (h : Blk v p 27 #[a, b, c, d, e, f]) (hp : W.heap.size ≤ p) (hb : Below W.heap.size W v) (a' b' c' d' e' f' : Value) :
 RtkCut W #[a', b', c', d', e', f'] (.pointer (some ⟨p, 0, none⟩)) ((((((v.setCell ⟨p, 0, none⟩ a').setCell ⟨p, 1, none⟩ b').setCell ⟨p, 2, none⟩ c').setCell ⟨p, 3, none⟩ d').setCell ⟨p, 4, none⟩ e').setCell ⟨p, 5, none⟩ f') :=
 ⟨_, rfl, hp, (blk6_set h a' b' c' d' e' f').1, bel_set6 h hp hb a' b' c' d' e' f'⟩
set_option maxRecDepth 100000 in
set_option maxHeartbeats 8000000 in
theorem refcmtake_any (x : It) (A : Option Addr) (c : Nat) (S : Nat → Prop) (w : World) (hl : Lies w S x A c) (hS : ∀ b, S b → b < w.heap.size) (hks : (kid x 3).str.size ≤ 1073741824) :
 Calls Tryz.prog 80 #[.agg #[.int .i64 x.kind, .int .u64 (x.num : Int), .string x.str, .slice A x.kids.length c]] w (CmTakes w (takeOf x)) := by
 have hsm := fun (W : World) (y : It) (V1 : Option Addr) (c1 : Nat) (h1 : Lies W (fun b => b < W.heap.size) x A c) (h2 : Lies W (fun b => b < W.heap.size) y V1 c1) => refsame_item x y A V1 c c1 _ W h1 h2 (fun b hb => hb);obtain ⟨n, hn⟩ : ∃ n, x.kids.length = n := ⟨_, rfl⟩
 obtain ⟨b1, b2, b3, b4, b5, b6⟩ := hl.bounds;rw [hn] at b5 hsm ⊢;obtain ⟨W, hW⟩ : ∃ W, (w.alloc (.cells #[.int .i64 x.kind, .int .u64 (x.num : Int), .string x.str, .slice A n c] 57)).alloc (.cells #[.int .i64 0, .int .i64 0, .int .i64 0, .string ⟨#[]⟩, .string ⟨#[]⟩, .int .i64 0] 27) = W := ⟨_, rfl⟩
 obtain ⟨k1, k2, kb, hsW⟩ := two_kinds w _ _ _ _ W hW;have HL := hid (hl.below kb hS);have HX := hid k1;have HBX := hid k2;have HB0 := hid kb;have HW := hid hW;have HSS := hid hS;have HN := hid hn;clear hl hS k1 k2 kb hW hn b1 b2 b3 b4 b6;go_enter Tryz.func80, Tryz.ntmps80
 by_cases h6 : n = 6
 case neg =>
  have HNO := hid (show takeOf x = none from if_neg fun h => h6 (HN.out.symm.trans h.1));have hne : ((n : Int) != 6) = true := by simp; omega
  clear h6 hsm;go_wp2_with fail
  refine bodyPost_ret (v := .tuple #[.agg #[.int .i64 0, .int .i64 0, .int .i64 0, .string ⟨#[]⟩, .string ⟨#[]⟩, .int .i64 0], .bool false]) (by simp [results, Tryz.results80, go_sem]) rfl ?_;rw [HNO.out, HW.out];exact ⟨zeroCm, false, rfl, rfl, rfl, HB0.out⟩
 subst h6;have HSM := hid hsm;obtain ⟨g, o, rfl, hSg, hg, ⟨A0, c0, a0, a1, a2, a3, ab⟩, ⟨A1, c1, m0, m1, m2, m3, mb⟩, ⟨A2, c2, n0, n1, n2, n3, nb⟩, ⟨A3, c3, p0, p1, p2, p3, pb⟩, ⟨A4, c4, q0, q1, q2, q3, qb⟩, A5, c5, r0, r1, r2, r3, rb⟩ := kids_lie HL.out HN.out;have htk := take_cap x HN.out;have HI0 := hid (refint_any (kid x 0).kind (kid x 0).num (kid x 0).str A0 (kid x 0).kids.length c0);have HI1 := hid (refint_any (kid x 1).kind (kid x 1).num (kid x 1).str A1 (kid x 1).kids.length c1);have HI2 := hid (refint_any (kid x 2).kind (kid x 2).num (kid x 2).str A2 (kid x 2).kids.length c2);have HI5 := hid (refint_any (kid x 5).kind (kid x 5).num (kid x 5).str A5 (kid x 5).kids.length c5);obtain ⟨R0, hR0⟩ : ∃ R : Int, cap (kid x 0).num = R := ⟨_, rfl⟩
 obtain ⟨R1, hR1⟩ : ∃ R : Int, cap (kid x 1).num = R := ⟨_, rfl⟩
 obtain ⟨R2, hR2⟩ : ∃ R : Int, cap (kid x 2).num = R := ⟨_, rfl⟩
 obtain ⟨R5, hR5⟩ : ∃ R : Int, cap (kid x 5).num = R := ⟨_, rfl⟩
 obtain ⟨s3, hs3⟩ : ∃ s, (kid x 3).str = s := ⟨_, rfl⟩
 obtain ⟨s4, hs4⟩ : ∃ s, (kid x 4).str = s := ⟨_, rfl⟩
 have hcm : capOf x = ⟨R0, R1, R2, s3, s4, R5⟩ := by rw [capOf, hR0, hR1, hR2, hR5, hs3, hs4]
 rw [hs3] at p2 hks;rw [hs4] at q2;rw [hR0] at HI0;rw [hR1] at HI1;rw [hR2] at HI2;rw [hR5] at HI5;rw [hcm] at htk;have hck := fun w => refcheck_any R0 R1 R2 s3 s4 R5 w hks;have hit := fun hc w => refcmitem_any R0 R1 R2 s3 s4 R5 w hc;generalize hv : Cmd.chk ⟨R0, R1, R2, s3, s4, R5⟩ = v at htk hck hit;generalize hy : cmIt ⟨R0, R1, R2, s3, s4, R5⟩ = y at htk hit;generalize hr : same x y = r at htk;have HRS := hid hr;have HIT := hid hit;have HCK := hid hck;have HTK0 := hid htk;obtain ⟨x0, x1, x2, x3⟩ := blk4 HX.out;have HSW := hid hsW;have hwW : w.heap.size < W.heap.size := by omega
 have HSK := hid (show ∀ w', Below W.heap.size W w' → w'.cell? ⟨w.heap.size, 3, none⟩ = some (.slice (some ⟨g, o, none⟩) 6 c) ∧ w'.cell? ⟨g, o, none⟩ = some (.int .i64 (kid x 0).kind) ∧ w'.cell? ⟨g, o + 1, none⟩ = some (.int .u64 ((kid x 0).num : Int)) ∧ w'.cell? ⟨g, o + 2, none⟩ = some (.string (kid x 0).str) ∧ w'.cell? ⟨g, o + 3, none⟩ = some (.slice A0 (kid x 0).kids.length c0) ∧ w'.cell? ⟨g, o + 4, none⟩ = some (.int .i64 (kid x 1).kind) ∧ w'.cell? ⟨g, o + 4 + 1, none⟩ = some (.int .u64 ((kid x 1).num : Int)) ∧ w'.cell? ⟨g, o + 4 + 2, none⟩ = some (.string (kid x 1).str) ∧ w'.cell? ⟨g, o + 4 + 3, none⟩ = some (.slice A1 (kid x 1).kids.length c1) ∧ w'.cell? ⟨g, o + 8, none⟩ = some (.int .i64 (kid x 2).kind) ∧ w'.cell? ⟨g, o + 8 + 1, none⟩ = some (.int .u64 ((kid x 2).num : Int)) ∧ w'.cell? ⟨g, o + 8 + 2, none⟩ = some (.string (kid x 2).str) ∧ w'.cell? ⟨g, o + 8 + 3, none⟩ = some (.slice A2 (kid x 2).kids.length c2) ∧ w'.cell? ⟨g, o + 20, none⟩ = some (.int .i64 (kid x 5).kind) ∧ w'.cell? ⟨g, o + 20 + 1, none⟩ = some (.int .u64 ((kid x 5).num : Int)) ∧ w'.cell? ⟨g, o + 20 + 2, none⟩ = some (.string (kid x 5).str) ∧ w'.cell? ⟨g, o + 20 + 3, none⟩ = some (.slice A5 (kid x 5).kids.length c5) ∧ w'.cell? ⟨g, o + 12 + 2, none⟩ = some (.string s3) ∧ w'.cell? ⟨g, o + 16 + 2, none⟩ = some (.string s4) from fun w' hb => ⟨(hb.cell (p := ⟨w.heap.size, 3, none⟩) hwW).trans x3, (hb.cell (p := ⟨g, o, none⟩) hg).trans a0, (hb.cell (p := ⟨g, o + 1, none⟩) hg).trans a1, (hb.cell (p := ⟨g, o + 2, none⟩) hg).trans a2, (hb.cell (p := ⟨g, o + 3, none⟩) hg).trans a3, (hb.cell (p := ⟨g, o + 4, none⟩) hg).trans m0, (hb.cell (p := ⟨g, o + 4 + 1, none⟩) hg).trans m1, (hb.cell (p := ⟨g, o + 4 + 2, none⟩) hg).trans m2, (hb.cell (p := ⟨g, o + 4 + 3, none⟩) hg).trans m3, (hb.cell (p := ⟨g, o + 8, none⟩) hg).trans n0, (hb.cell (p := ⟨g, o + 8 + 1, none⟩) hg).trans n1, (hb.cell (p := ⟨g, o + 8 + 2, none⟩) hg).trans n2, (hb.cell (p := ⟨g, o + 8 + 3, none⟩) hg).trans n3, (hb.cell (p := ⟨g, o + 20, none⟩) hg).trans r0, (hb.cell (p := ⟨g, o + 20 + 1, none⟩) hg).trans r1, (hb.cell (p := ⟨g, o + 20 + 2, none⟩) hg).trans r2, (hb.cell (p := ⟨g, o + 20 + 3, none⟩) hg).trans r3, (hb.cell (p := ⟨g, o + 12 + 2, none⟩) hg).trans p2, (hb.cell (p := ⟨g, o + 16 + 2, none⟩) hg).trans q2⟩);clear htk hcm hs3 hs4 hr hy hv hit hck hsm ab mb nb pb qb rb hsW hR0 hR1 hR2 hR5 hks;have HCUR := hid (Below.drew (Below.refl W.heap.size W));go_upto_region 3 with fail
 rw [HW.out];go_cut [4] from 10 (RtkCut W #[.int .i64 R0, .int .i64 R1, .int .i64 R2, .string s3, .string s4, .int .i64 R5])
 case first =>
  go_region_held3 (fun w' => w'.cell? ⟨w.heap.size, 3, none⟩ = some (.slice (some ⟨g, o, none⟩) 6 c) ∧ w'.cell? ⟨g, o, none⟩ = some (.int .i64 (kid x 0).kind) ∧ w'.cell? ⟨g, o + 1, none⟩ = some (.int .u64 ((kid x 0).num : Int)) ∧ w'.cell? ⟨g, o + 2, none⟩ = some (.string (kid x 0).str) ∧ w'.cell? ⟨g, o + 3, none⟩ = some (.slice A0 (kid x 0).kids.length c0) ∧ w'.cell? ⟨g, o + 4, none⟩ = some (.int .i64 (kid x 1).kind) ∧ w'.cell? ⟨g, o + 4 + 1, none⟩ = some (.int .u64 ((kid x 1).num : Int)) ∧ w'.cell? ⟨g, o + 4 + 2, none⟩ = some (.string (kid x 1).str) ∧ w'.cell? ⟨g, o + 4 + 3, none⟩ = some (.slice A1 (kid x 1).kids.length c1) ∧ w'.cell? ⟨g, o + 8, none⟩ = some (.int .i64 (kid x 2).kind) ∧ w'.cell? ⟨g, o + 8 + 1, none⟩ = some (.int .u64 ((kid x 2).num : Int)) ∧ w'.cell? ⟨g, o + 8 + 2, none⟩ = some (.string (kid x 2).str) ∧ w'.cell? ⟨g, o + 8 + 3, none⟩ = some (.slice A2 (kid x 2).kids.length c2) ∧ w'.cell? ⟨g, o + 20, none⟩ = some (.int .i64 (kid x 5).kind) ∧ w'.cell? ⟨g, o + 20 + 1, none⟩ = some (.int .u64 ((kid x 5).num : Int)) ∧ w'.cell? ⟨g, o + 20 + 2, none⟩ = some (.string (kid x 5).str) ∧ w'.cell? ⟨g, o + 20 + 3, none⟩ = some (.slice A5 (kid x 5).kids.length c5) ∧ w'.cell? ⟨g, o + 12 + 2, none⟩ = some (.string s3) ∧ w'.cell? ⟨g, o + 16 + 2, none⟩ = some (.string s4)) ((refine HSK.out _ ?_; first | (with_reducible exact HCUR.out) | (with_reducible exact Below.drew ((Below.refl W.heap.size W).alloc (Nat.le_refl _) _)) | (with_reducible exact HCUR.out.alloc HCUR.out.size _) | (with_reducible exact (bel_set6 HKP.out HPL.out HCUR.out _ _ _ _ _ _)) | (with_reducible exact HCUR.out.drew)))
   (first
   | (go_at_call 77
      refine (HI0.out _).mono ?_;rintro e v1 ⟨rfl, hb1⟩;first
      | (have hkp := HKP.out.bel hb1
         have hnow := HCUR.out.trans (hb1.mono HCUR.out.size);replace HCUR := hid hnow;obtain ⟨j0, j1, j2, j3, j4, j5⟩ := blk6 hkp; have z0 := hkp.soft 0; have z1 := hkp.soft 1; have z2 := hkp.soft 2; have z3 := hkp.soft 3; have z4 := hkp.soft 4; have z5 := hkp.soft 5;replace HKP := hid hkp;clear HI0 hb1 hnow hkp)
      | (with_reducible have hkp := with_reducible_new2 hb1
         have hnow := (Below.drew ((Below.refl W.heap.size W).alloc (Nat.le_refl _) (.cells #[.int .i64 0, .int .i64 0, .int .i64 0, .string ⟨#[]⟩, .string ⟨#[]⟩, .int .i64 0] 27))).trans (hb1.mono (by rw [World.size_drew', size_alloc]; omega));have HPL := hid (Nat.le_refl W.heap.size);replace HCUR := hid hnow;obtain ⟨j0, j1, j2, j3, j4, j5⟩ := blk6 hkp; have z0 := hkp.soft 0; have z1 := hkp.soft 1; have z2 := hkp.soft 2; have z3 := hkp.soft 3; have z4 := hkp.soft 4; have z5 := hkp.soft 5;have HKP := hid hkp;clear HI0 hb1 hnow hkp)
      | (with_reducible have hkp := with_reducible_new hb1
         have hnow := (HCUR.out.alloc HCUR.out.size (.cells #[.int .i64 0, .int .i64 0, .int .i64 0, .string ⟨#[]⟩, .string ⟨#[]⟩, .int .i64 0] 27)).trans (hb1.mono (by rw [size_alloc]; have := HCUR.out.size; omega));have HPL := hid HCUR.out.size;replace HCUR := hid hnow;obtain ⟨j0, j1, j2, j3, j4, j5⟩ := blk6 hkp; have z0 := hkp.soft 0; have z1 := hkp.soft 1; have z2 := hkp.soft 2; have z3 := hkp.soft 3; have z4 := hkp.soft 4; have z5 := hkp.soft 5;have HKP := hid hkp;clear HI0 hb1 hnow hkp)
      | (have hnow := HCUR.out.trans (hb1.mono HCUR.out.size)
         replace HCUR := hid hnow;clear HI0 hb1 hnow))
   | (go_at_call 77
      refine (HI1.out _).mono ?_;rintro e v1 ⟨rfl, hb1⟩;first
      | (have hkp := HKP.out.bel hb1
         have hnow := HCUR.out.trans (hb1.mono HCUR.out.size);replace HCUR := hid hnow;obtain ⟨j0, j1, j2, j3, j4, j5⟩ := blk6 hkp; have z0 := hkp.soft 0; have z1 := hkp.soft 1; have z2 := hkp.soft 2; have z3 := hkp.soft 3; have z4 := hkp.soft 4; have z5 := hkp.soft 5;replace HKP := hid hkp;clear HI1 hb1 hnow hkp)
      | (with_reducible have hkp := with_reducible_new2 hb1
         have hnow := (Below.drew ((Below.refl W.heap.size W).alloc (Nat.le_refl _) (.cells #[.int .i64 0, .int .i64 0, .int .i64 0, .string ⟨#[]⟩, .string ⟨#[]⟩, .int .i64 0] 27))).trans (hb1.mono (by rw [World.size_drew', size_alloc]; omega));have HPL := hid (Nat.le_refl W.heap.size);replace HCUR := hid hnow;obtain ⟨j0, j1, j2, j3, j4, j5⟩ := blk6 hkp; have z0 := hkp.soft 0; have z1 := hkp.soft 1; have z2 := hkp.soft 2; have z3 := hkp.soft 3; have z4 := hkp.soft 4; have z5 := hkp.soft 5;have HKP := hid hkp;clear HI1 hb1 hnow hkp)
      | (with_reducible have hkp := with_reducible_new hb1
         have hnow := (HCUR.out.alloc HCUR.out.size (.cells #[.int .i64 0, .int .i64 0, .int .i64 0, .string ⟨#[]⟩, .string ⟨#[]⟩, .int .i64 0] 27)).trans (hb1.mono (by rw [size_alloc]; have := HCUR.out.size; omega));have HPL := hid HCUR.out.size;replace HCUR := hid hnow;obtain ⟨j0, j1, j2, j3, j4, j5⟩ := blk6 hkp; have z0 := hkp.soft 0; have z1 := hkp.soft 1; have z2 := hkp.soft 2; have z3 := hkp.soft 3; have z4 := hkp.soft 4; have z5 := hkp.soft 5;have HKP := hid hkp;clear HI1 hb1 hnow hkp)
      | (have hnow := HCUR.out.trans (hb1.mono HCUR.out.size)
         replace HCUR := hid hnow;clear HI1 hb1 hnow))
   | (go_at_call 77
      refine (HI2.out _).mono ?_;rintro e v1 ⟨rfl, hb1⟩;first
      | (have hkp := HKP.out.bel hb1
         have hnow := HCUR.out.trans (hb1.mono HCUR.out.size);replace HCUR := hid hnow;obtain ⟨j0, j1, j2, j3, j4, j5⟩ := blk6 hkp; have z0 := hkp.soft 0; have z1 := hkp.soft 1; have z2 := hkp.soft 2; have z3 := hkp.soft 3; have z4 := hkp.soft 4; have z5 := hkp.soft 5;replace HKP := hid hkp;clear HI2 hb1 hnow hkp)
      | (with_reducible have hkp := with_reducible_new2 hb1
         have hnow := (Below.drew ((Below.refl W.heap.size W).alloc (Nat.le_refl _) (.cells #[.int .i64 0, .int .i64 0, .int .i64 0, .string ⟨#[]⟩, .string ⟨#[]⟩, .int .i64 0] 27))).trans (hb1.mono (by rw [World.size_drew', size_alloc]; omega));have HPL := hid (Nat.le_refl W.heap.size);replace HCUR := hid hnow;obtain ⟨j0, j1, j2, j3, j4, j5⟩ := blk6 hkp; have z0 := hkp.soft 0; have z1 := hkp.soft 1; have z2 := hkp.soft 2; have z3 := hkp.soft 3; have z4 := hkp.soft 4; have z5 := hkp.soft 5;have HKP := hid hkp;clear HI2 hb1 hnow hkp)
      | (with_reducible have hkp := with_reducible_new hb1
         have hnow := (HCUR.out.alloc HCUR.out.size (.cells #[.int .i64 0, .int .i64 0, .int .i64 0, .string ⟨#[]⟩, .string ⟨#[]⟩, .int .i64 0] 27)).trans (hb1.mono (by rw [size_alloc]; have := HCUR.out.size; omega));have HPL := hid HCUR.out.size;replace HCUR := hid hnow;obtain ⟨j0, j1, j2, j3, j4, j5⟩ := blk6 hkp; have z0 := hkp.soft 0; have z1 := hkp.soft 1; have z2 := hkp.soft 2; have z3 := hkp.soft 3; have z4 := hkp.soft 4; have z5 := hkp.soft 5;have HKP := hid hkp;clear HI2 hb1 hnow hkp)
      | (have hnow := HCUR.out.trans (hb1.mono HCUR.out.size)
         replace HCUR := hid hnow;clear HI2 hb1 hnow))
   | (go_at_call 77
      refine (HI5.out _).mono ?_;rintro e v1 ⟨rfl, hb1⟩;first
      | (have hkp := HKP.out.bel hb1
         have hnow := HCUR.out.trans (hb1.mono HCUR.out.size);replace HCUR := hid hnow;obtain ⟨j0, j1, j2, j3, j4, j5⟩ := blk6 hkp; have z0 := hkp.soft 0; have z1 := hkp.soft 1; have z2 := hkp.soft 2; have z3 := hkp.soft 3; have z4 := hkp.soft 4; have z5 := hkp.soft 5;replace HKP := hid hkp;clear HI5 hb1 hnow hkp)
      | (with_reducible have hkp := with_reducible_new2 hb1
         have hnow := (Below.drew ((Below.refl W.heap.size W).alloc (Nat.le_refl _) (.cells #[.int .i64 0, .int .i64 0, .int .i64 0, .string ⟨#[]⟩, .string ⟨#[]⟩, .int .i64 0] 27))).trans (hb1.mono (by rw [World.size_drew', size_alloc]; omega));have HPL := hid (Nat.le_refl W.heap.size);replace HCUR := hid hnow;obtain ⟨j0, j1, j2, j3, j4, j5⟩ := blk6 hkp; have z0 := hkp.soft 0; have z1 := hkp.soft 1; have z2 := hkp.soft 2; have z3 := hkp.soft 3; have z4 := hkp.soft 4; have z5 := hkp.soft 5;have HKP := hid hkp;clear HI5 hb1 hnow hkp)
      | (with_reducible have hkp := with_reducible_new hb1
         have hnow := (HCUR.out.alloc HCUR.out.size (.cells #[.int .i64 0, .int .i64 0, .int .i64 0, .string ⟨#[]⟩, .string ⟨#[]⟩, .int .i64 0] 27)).trans (hb1.mono (by rw [size_alloc]; have := HCUR.out.size; omega));have HPL := hid HCUR.out.size;replace HCUR := hid hnow;obtain ⟨j0, j1, j2, j3, j4, j5⟩ := blk6 hkp; have z0 := hkp.soft 0; have z1 := hkp.soft 1; have z2 := hkp.soft 2; have z3 := hkp.soft 3; have z4 := hkp.soft 4; have z5 := hkp.soft 5;have HKP := hid hkp;clear HI5 hb1 hnow hkp)
      | (have hnow := HCUR.out.trans (hb1.mono HCUR.out.size)
         replace HCUR := hid hnow;clear HI5 hb1 hnow)))
  all_goals
   go_wp2_with fail
   go_meet
  all_goals
   case rel =>
    first
    | (with_reducible exact rtk_set HKP.out HPL.out HCUR.out _ _ _ _ _ _)
    | (with_reducible exact rtk_new HCUR.out)
    | done
 case rest =>
  obtain ⟨p, rfl, hpW, hc4, hbe⟩ := hcut;have hsW := HSW.out;have hsx := hbe.size;have HC4 := hid hc4;have HX2 := hid (HX.out.bel hbe);have HBE := hid hbe;have HL2 := hid (HL.out.below hbe (fun b hb => by have := HSS.out b hb; omega));have hle1 : w.heap.size + 2 ≤ W.heap.size := by omega
  have HSM := hid HSM.out;obtain ⟨x0, x1, x2, x3⟩ := blk4 HX2.out;obtain ⟨y0, y1, y2, y3, y4, y5⟩ := blk6 hc4;clear hsW hc4 hbe HCUR HSK;by_cases h0 : v = 0
  case neg =>
   have hn0 : (v != 0) = true := (by simpa using h0);have HTK := hid (show takeOf x = none by rw [HTK0.out, if_neg fun h => h0 h.1]);have y0' : ∀ q : BelBy wc, q.W.cell? ⟨p, 0, none⟩ = some (.int .i64 R0) := fun q => q.cell HC4.out.lt y0;have y1' : ∀ q : BelBy wc, q.W.cell? ⟨p, 1, none⟩ = some (.int .i64 R1) := fun q => q.cell HC4.out.lt y1;have y2' : ∀ q : BelBy wc, q.W.cell? ⟨p, 2, none⟩ = some (.int .i64 R2) := fun q => q.cell HC4.out.lt y2;have y3' : ∀ q : BelBy wc, q.W.cell? ⟨p, 3, none⟩ = some (.string s3) := fun q => q.cell HC4.out.lt y3;have y4' : ∀ q : BelBy wc, q.W.cell? ⟨p, 4, none⟩ = some (.string s4) := fun q => q.cell HC4.out.lt y4;have y5' : ∀ q : BelBy wc, q.W.cell? ⟨p, 5, none⟩ = some (.int .i64 R5) := fun q => q.cell HC4.out.lt y5;clear h0 y0 y1 y2 y3 y4 y5 x0 x1 x2 x3;go_wp2_with fail
   refine wp_region_bel (by kernel_rfl) (by kernel_rfl) ?_
   repeat (first | ((with_reducible refine wpQuiet_skip ?_ ?_); (focus rfl); simp only [Act.put, List.setIfInBounds_toArray, List.set_cons_zero, List.set_cons_succ]) | ((with_reducible refine wpQuiet_step (fun K hK => ?_)); go_simp; (with_reducible refine hK _ ?_); clear hK K))
   with_reducible refine wpQuiet_step (fun K hK => ?_)
   go_simp;apply Exists.intro;refine ⟨fun _ => ?_, hK _ ?_⟩;exact Calls.bel_of (HCK.out _);clear hK K
   repeat (first | ((with_reducible refine wpQuiet_skip ?_ ?_); (focus rfl); simp only [Act.put, List.setIfInBounds_toArray, List.set_cons_zero, List.set_cons_succ]) | ((with_reducible refine wpQuiet_step (fun K hK => ?_)); go_simp; (with_reducible refine hK _ ?_); clear hK K))
   with_reducible refine wpQuiet_nil ?_
   intro W9 hw';obtain ⟨p9, hp9⟩ := hw';have hW9 := p9.h;rw [← hp9] at hW9;clear hp9 p9;have HCUR := hid hW9;replace HBE := hid (bel_trans HBE.out hW9);clear hW9 y0' y1' y2' y3' y4' y5';have hs9 := HBE.out.size;have hblk := HBX.out.bel HBE.out;have hw0 := HB0.out.size;obtain ⟨j0, j1, j2, j3, j4, j5⟩ := blk6 hblk;have z0 := hblk.soft 0;have z1 := hblk.soft 1;have z2 := hblk.soft 2;have z3 := hblk.soft 3;have z4 := hblk.soft 4;have z5 := hblk.soft 5;obtain ⟨i0, i1, i2, i3, i4, i5⟩ := blk6 (HC4.out.bel HCUR.out);go_wp2_with fail
   obtain ⟨hblk2, hgr⟩ := blk6_set hblk (.int .i64 0) (.int .i64 0) (.int .i64 0) (.string ⟨#[]⟩) (.string ⟨#[]⟩) (.int .i64 0);generalize ((((((W9).setCell ⟨w.heap.size + 1, 0, none⟩ (.int .i64 0)).setCell ⟨w.heap.size + 1, 1, none⟩ (.int .i64 0)).setCell ⟨w.heap.size + 1, 2, none⟩ (.int .i64 0)).setCell ⟨w.heap.size + 1, 3, none⟩ (.string ⟨#[]⟩)).setCell ⟨w.heap.size + 1, 4, none⟩ (.string ⟨#[]⟩)).setCell ⟨w.heap.size + 1, 5, none⟩ (.int .i64 0) = w9 at hblk2 hgr ⊢;obtain ⟨d0, d1, d2, d3, d4, d5⟩ := blk6 hblk2;refine bodyPost_ret (v := .tuple #[.agg #[.int .i64 0, .int .i64 0, .int .i64 0, .string ⟨#[]⟩, .string ⟨#[]⟩, .int .i64 0], .bool false]) (by simp [results, Tryz.results80, go_sem, d0, d1, d2, d3, d4, d5]) rfl ?_;rw [HTK.out];exact ⟨zeroCm, false, rfl, rfl, rfl, (HB0.out.trans (HBE.out.mono (by omega))).trans (gr_below hgr (by omega) fun b hb => by injection hb with hb; omega)⟩
  case pos =>
   subst h0;have htk : takeOf x = if r = true then some ⟨R0, R1, R2, s3, s4, R5⟩ else none := by rw [HTK0.out]; simp
   have HTK := hid htk;have HCUR := hid (Below.drew (Below.refl wc.heap.size wc));have hit := HIT.out rfl;replace HIT := hid hit;clear htk hit y0 y1 y2 y3 y4 y5 x0 x1 x2 x3;go_wp2_with fail
   go_region_held3 (fun w' => w'.cell? ⟨p, 0, none⟩ = some (.int .i64 R0) ∧ w'.cell? ⟨p, 1, none⟩ = some (.int .i64 R1) ∧ w'.cell? ⟨p, 2, none⟩ = some (.int .i64 R2) ∧ w'.cell? ⟨p, 3, none⟩ = some (.string s3) ∧ w'.cell? ⟨p, 4, none⟩ = some (.string s4) ∧ w'.cell? ⟨p, 5, none⟩ = some (.int .i64 R5) ∧ w'.cell? ⟨w.heap.size, 0, none⟩ = some (.int .i64 x.kind) ∧ w'.cell? ⟨w.heap.size, 1, none⟩ = some (.int .u64 (x.num : Int)) ∧ w'.cell? ⟨w.heap.size, 2, none⟩ = some (.string x.str) ∧ w'.cell? ⟨w.heap.size, 3, none⟩ = some (.slice (some ⟨g, o, none⟩) 6 c)) (with_reducible exact held10 HC4.out HX2.out HCUR.out)
    (first
    | (go_at_call 55
       refine (HCK.out _).mono ?_;rintro e v1 ⟨rfl, hb1⟩;have hnow := HCUR.out.trans (hb1.mono HCUR.out.size);replace HCUR := hid hnow;clear HCK hb1 hnow)
    | (go_at_call 63
       refine (HIT.out _).mono ?_;rintro e v1 ⟨V1, k1, rfl, hl1, hb1⟩;have hnow := HCUR.out.trans (hb1.mono HCUR.out.size);have hsn := hnow.size;have hlx := (HL2.out.below hnow fun b hb => by have := HSS.out b hb; omega).more (S' := fun b => b < v1.heap.size) fun b hb _ => (by have := HSS.out b hb; omega);have hsm := HSM.out v1 y V1 k1 hlx hl1;rw [HRS.out] at hsm;replace HCUR := hid hnow;replace HSM := hid hsm;clear HIT hb1 hnow hl1 hlx hsm hsn)
    | (go_at_call 35
       refine HSM.out.mono ?_;rintro e v2 ⟨rfl, hb1⟩;have hnow := HCUR.out.trans (hb1.mono HCUR.out.size);replace HCUR := hid hnow;clear HSM hb1 hnow))
   replace HBE := hid (bel_trans HBE.out HCUR.out);cases r
   case false =>
    have hs9 := HBE.out.size;have hblk := HBX.out.bel HBE.out;have hw0 := HB0.out.size;obtain ⟨j0, j1, j2, j3, j4, j5⟩ := blk6 hblk;have z0 := hblk.soft 0;have z1 := hblk.soft 1;have z2 := hblk.soft 2;have z3 := hblk.soft 3;have z4 := hblk.soft 4;have z5 := hblk.soft 5;obtain ⟨i0, i1, i2, i3, i4, i5⟩ := blk6 (HC4.out.bel HCUR.out);go_wp2_with fail
    obtain ⟨hblk2, hgr⟩ := blk6_set hblk (.int .i64 0) (.int .i64 0) (.int .i64 0) (.string ⟨#[]⟩) (.string ⟨#[]⟩) (.int .i64 0);generalize ((((((v2).setCell ⟨w.heap.size + 1, 0, none⟩ (.int .i64 0)).setCell ⟨w.heap.size + 1, 1, none⟩ (.int .i64 0)).setCell ⟨w.heap.size + 1, 2, none⟩ (.int .i64 0)).setCell ⟨w.heap.size + 1, 3, none⟩ (.string ⟨#[]⟩)).setCell ⟨w.heap.size + 1, 4, none⟩ (.string ⟨#[]⟩)).setCell ⟨w.heap.size + 1, 5, none⟩ (.int .i64 0) = w9 at hblk2 hgr ⊢;obtain ⟨d0, d1, d2, d3, d4, d5⟩ := blk6 hblk2;refine bodyPost_ret (v := .tuple #[.agg #[.int .i64 0, .int .i64 0, .int .i64 0, .string ⟨#[]⟩, .string ⟨#[]⟩, .int .i64 0], .bool false]) (by simp [results, Tryz.results80, go_sem, d0, d1, d2, d3, d4, d5]) rfl ?_;rw [HTK.out];exact ⟨zeroCm, false, rfl, rfl, rfl, (HB0.out.trans (HBE.out.mono (by omega))).trans (gr_below hgr (by omega) fun b hb => by injection hb with hb; omega)⟩
   case true =>
    have hs9 := HBE.out.size;have hblk := HBX.out.bel HBE.out;have hw0 := HB0.out.size;obtain ⟨j0, j1, j2, j3, j4, j5⟩ := blk6 hblk;have z0 := hblk.soft 0;have z1 := hblk.soft 1;have z2 := hblk.soft 2;have z3 := hblk.soft 3;have z4 := hblk.soft 4;have z5 := hblk.soft 5;obtain ⟨i0, i1, i2, i3, i4, i5⟩ := blk6 (HC4.out.bel HCUR.out);go_wp2_with fail
    obtain ⟨hblk2, hgr⟩ := blk6_set hblk (.int .i64 R0) (.int .i64 R1) (.int .i64 R2) (.string s3) (.string s4) (.int .i64 R5);generalize ((((((v2).setCell ⟨w.heap.size + 1, 0, none⟩ (.int .i64 R0)).setCell ⟨w.heap.size + 1, 1, none⟩ (.int .i64 R1)).setCell ⟨w.heap.size + 1, 2, none⟩ (.int .i64 R2)).setCell ⟨w.heap.size + 1, 3, none⟩ (.string s3)).setCell ⟨w.heap.size + 1, 4, none⟩ (.string s4)).setCell ⟨w.heap.size + 1, 5, none⟩ (.int .i64 R5) = w9 at hblk2 hgr ⊢;obtain ⟨d0, d1, d2, d3, d4, d5⟩ := blk6 hblk2;refine bodyPost_ret (v := .tuple #[.agg #[.int .i64 R0, .int .i64 R1, .int .i64 R2, .string s3, .string s4, .int .i64 R5], .bool true]) (by simp [results, Tryz.results80, go_sem, d0, d1, d2, d3, d4, d5]) rfl ?_;rw [HTK.out];exact ⟨⟨R0, R1, R2, s3, s4, R5⟩, true, rfl, rfl, rfl, (HB0.out.trans (HBE.out.mono (by omega))).trans (gr_below hgr (by omega) fun b hb => by injection hb with hb; omega)⟩
end Go.Proofs.YthlhchaoedcdbaaGreatDoor.Cw
