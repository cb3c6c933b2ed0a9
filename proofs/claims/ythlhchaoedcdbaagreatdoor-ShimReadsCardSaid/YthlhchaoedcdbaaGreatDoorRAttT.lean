/-
  Texts of earlier layers, as one.
-/
import Derived.Test.YthlhchaoedcdbaaGreatDoorRAtt
import Derived.Test.YthlhchaoedcdbaaGreatDoorRIdsT
/- The document's Take of any item. -/
namespace Go.Proofs.YthlhchaoedcdbaaGreatDoor
open Lib (hid)
open Go.RowKit Mem Ids Att Cod
theorem refint_any (x : It) (A : Option Addr) (c : Nat) (w : World) (hb : x.num ≤ 18446744073709551615) : Calls Tryz.prog 77 #[.agg #[.int .i64 x.kind, .int .u64 (x.num : Int), .string x.str, .slice A x.kids.length c]] w (Checks (capOf x.num) w) := by
 obtain ⟨N, hN⟩ : ∃ N : Int, (x.num : Int) = N := ⟨_, rfl⟩
 rw [hN];by_cases h : N > 4611686018427387904
 · have hc : capOf x.num = 4611686018427387904 := if_pos (by omega)
   rw [hc];clear hc hN;go_enter Tryz.func77, Tryz.ntmps77
   go_wp2_with fail
   go_ret;exact ⟨rfl, bel_alloc (Below.refl _ _) _⟩
 · have hc : capOf x.num = N := by rw [capOf, if_neg (by omega), hN]
   have hR : IntKind.i64.wrap N = N := wrap64 (by omega) (by omega);rw [hc];clear hc hN;go_enter Tryz.func77, Tryz.ntmps77
   go_wp2_with fail
   go_ret;exact ⟨rfl, bel_alloc (Below.refl _ _) _⟩
theorem with_reducible_new {w v : World} {vs : Array Value} {t : TypeId} (h : Below (w.alloc (.cells vs t)).heap.size (w.alloc (.cells vs t)) v) : Blk v w.heap.size t vs := (Blk.new w t vs).bel h
theorem World.size_drew' (w : World) : w.drew.heap.size = w.heap.size := rfl
theorem with_reducible_new2 {w v : World} {vs : Array Value} {t : TypeId} (h : Below (w.alloc (.cells vs t)).drew.heap.size (w.alloc (.cells vs t)).drew v) : Blk v w.heap.size t vs := (Blk.new w t vs).drew.bel h
theorem bel_set3 {W v : World} {p : Nat} {t : TypeId} {a b c : Value} (h : Blk v p t #[a, b, c]) (hp : W.heap.size ≤ p) (hb : Below W.heap.size W v) (a' b' c' : Value) :
 Below W.heap.size W (((v.setCell ⟨p, 0, none⟩ a').setCell ⟨p, 1, none⟩ b').setCell ⟨p, 2, none⟩ c') := (blk3_set h hb hp a' b' c').2
def RtkCut (W : World) (vs : Array Value) (v4 : Value) (wx : World) : Prop :=
 ∃ p, v4 = .pointer (some ⟨p, 0, none⟩) ∧ W.heap.size ≤ p ∧ Blk wx p 30 vs ∧ Below W.heap.size W wx
theorem rtk_new {W v : World} {vs : Array Value} (hb : Below W.heap.size W v) : RtkCut W vs (.pointer (some ⟨v.heap.size, 0, none⟩)) (v.alloc (.cells vs 30)) :=
 ⟨_, rfl, hb.size, Blk.new _ _ _, hb.alloc hb.size _⟩
theorem rtk_set {W v : World} {p : Nat} {a b c : Value} (h : Blk v p 30 #[a, b, c]) (hp : W.heap.size ≤ p) (hb : Below W.heap.size W v) (a' b' c' : Value) :
 RtkCut W #[a', b', c'] (.pointer (some ⟨p, 0, none⟩)) (((v.setCell ⟨p, 0, none⟩ a').setCell ⟨p, 1, none⟩ b').setCell ⟨p, 2, none⟩ c') :=
 ⟨_, rfl, hp, (blk3_set h hb hp a' b' c').1, bel_set3 h hp hb a' b' c'⟩
theorem held7 {W w' : World} {p g : Nat} {t u : TypeId} {a b c a' b' c' d' : Value} (h1 : Blk W p t #[a, b, c]) (h2 : Blk W g u #[a', b', c', d']) (hb : Below W.heap.size W w') :
 w'.cell? ⟨p, 0, none⟩ = some a ∧ w'.cell? ⟨p, 1, none⟩ = some b ∧ w'.cell? ⟨p, 2, none⟩ = some c ∧ w'.cell? ⟨g, 0, none⟩ = some a' ∧ w'.cell? ⟨g, 1, none⟩ = some b' ∧ w'.cell? ⟨g, 2, none⟩ = some c' ∧ w'.cell? ⟨g, 3, none⟩ = some d' := by
 obtain ⟨x0, x1, x2⟩ := blk3 (h1.bel hb);obtain ⟨y0, y1, y2, y3⟩ := blk4 (h2.bel hb);exact ⟨x0, x1, x2, y0, y1, y2, y3⟩
set_option maxRecDepth 100000 in
set_option maxHeartbeats 8000000 in
theorem refatttake_any (x : It) (A : Option Addr) (c : Nat) (S : Nat → Prop) (w : World) (hx : Lies w S x A c) (hS : ∀ b, S b → b < w.heap.size) :
 Calls Tryz.prog 82 #[.agg #[.int .i64 x.kind, .int .u64 (x.num : Int), .string x.str, .slice A x.kids.length c]] w (TakesAt w (attTake x)) := by
 have hsm := fun (W : World) (y : It) (V1 : Option Addr) (c1 : Nat) (h1 : Lies W (fun b => b < W.heap.size) x A c) (h2 : Lies W (fun b => b < W.heap.size) y V1 c1) => refsame_item x y A V1 c c1 _ W h1 h2 (fun b hb => hb);obtain ⟨W, hW⟩ : ∃ W, (w.alloc (.cells #[.int .i64 x.kind, .int .u64 (x.num : Int), .string x.str, .slice A x.kids.length c] 57)).alloc (.cells #[.slice none 0 0, .int .i64 0, .int .i64 0] 30) = W := ⟨_, rfl⟩
 obtain ⟨k1, k2, kb, hsW⟩ := two_kinds w _ _ _ _ W hW;have HK3 := hid k2;have HBW := hid kb;have HLX := hid (hx.below kb hS);have HSS := hid hS;have HW := hid hW;have hck := hx.bounds.2.2.2.2;by_cases hn : x.kids.length = 3
 case neg =>
  have hR : attTake x = none := att_short hn;have HR := hid hR;have b1 : ((x.kids.length : Int) != 3) = true := bne_iff_ne.2 fun h => hn (by omega);obtain ⟨p0, p1, p2, p3⟩ := blk4 k1;clear hR hn k1 k2 kb hx hS hW hsm;generalize x.kids.length = m at *;go_enter Tryz.func82, Tryz.ntmps82
  go_upto_region 1 with fail
  rw [HW.out];clear HW;obtain ⟨z0, z1, z2⟩ := blk3 HK3.out;have f0 := HK3.out.soft 0;have f1 := HK3.out.soft 1;have f2 := HK3.out.soft 2;go_wp2_with fail
  obtain ⟨hk9, hb9⟩ := blk3_set HK3.out HBW.out (by omega) (.slice none 0 0) (.int .i64 0) (.int .i64 0);generalize (((W.setCell ⟨w.heap.size + 1, 0, none⟩ (.slice none 0 0)).setCell ⟨w.heap.size + 1, 1, none⟩ (.int .i64 0)).setCell ⟨w.heap.size + 1, 2, none⟩ (.int .i64 0)) = w9 at hk9 hb9 ⊢;obtain ⟨d0, d1, d2⟩ := blk3 hk9;refine bodyPost_ret (v := .tuple #[.agg #[.slice none 0 0, .int .i64 0, .int .i64 0], .bool false]) (by simp [results, Tryz.results82, go_sem, d0, d1, d2]) rfl ?_;rw [HR.out];exact ⟨none, 0, 0, rfl, Rs.nil_ _, hb9, fun _ _ h => by cases h⟩
 obtain ⟨t, s, d, hk⟩ : ∃ t s d, x.kids = [t, s, d] := by
  match x.kids, hn with
  | [t, s, d], _ => exact ⟨t, s, d, rfl⟩
 obtain ⟨g, o, A0, c0, A1, c1, A2, c2, rfl, hSg, hg, f0, f1, f2, l0, l1, l2⟩ := kids3 HLX.out hk
 have hbs : ∀ y ∈ x.kids, y.num ≤ 18446744073709551615 := by
  intro y hy;rw [hk] at hy;simp only [List.mem_cons, List.not_mem_nil, or_false] at hy;rcases hy with rfl | rfl | rfl
  · exact l0.bounds.2.2.1
  · exact l1.bounds.2.2.1
  · exact l2.bounds.2.2.1
 have hR := att_ref hbs hk;have HI0 := hid (fun w => refint_any t A0 c0 w l0.bounds.2.2.1);have HI1 := hid (fun w => refint_any s A1 c1 w l1.bounds.2.2.1);have HT := hid (fun w (h : Lies w S d A2 c2) (hS : ∀ b, S b → b < w.heap.size) => reftake_new d A2 c2 S w h hS);generalize takeOf d = T at hR HT;generalize capOf t.num = T1 at hR HI0;generalize capOf s.num = S1 at hR HI1;have hgw := HSS.out g hSg;rw [hn] at k1 HW hsm ⊢;have HX := hid k1;have HR0 := hid hR;have HSM := hid hsm;have HL2 := hid l2;have HF0 := hid f0;have HF1 := hid f1;obtain ⟨n0, n1, n2, n3⟩ := f2;obtain ⟨p0, p1, p2, p3⟩ := blk4 k1;clear hR hbs hk l0 f0 l1 l2 f1 k1 k2 kb hx hS hW hsm hn hck;go_enter Tryz.func82, Tryz.ntmps82
 go_upto_region 1 with fail
 rw [HW.out];clear HW;go_wp2_with fail
 refine (HT.out _ HL2.out fun b hb => by have := HSS.out b hb; omega).mono ?_;rintro e w1 ⟨V, n, cc, l, b, rfl, hrs, hl, hb, hb1, hnew⟩;have hs1 := hb1.size;have HRS := hid hrs;have HNEW := hid (show ∀ g o, V = some ⟨g, o, none⟩ → W.heap.size ≤ g from hnew);have hR := HR0.out;rw [← hl, ← hb] at hR;replace HR0 := hid hR;replace HX := hid (HX.out.bel hb1);replace HK3 := hid (HK3.out.bel hb1);replace HBW := hid (bel_trans HBW.out hb1);replace HLX := hid (HLX.out.below hb1 fun b hb => by have := HSS.out b hb; omega);replace HF0 := hid (HF0.out.bel (by omega) hb1);replace HF1 := hid (HF1.out.bel (by omega) hb1);clear hR hb1 hnew hrs hl hb HT HL2 n0 n1 n2 n3 p0 p1 p2 p3;have hg1 : g < w1.heap.size := by omega
 have hw1 : w.heap.size + 2 ≤ w1.heap.size := by omega
 obtain ⟨x0, x1, x2, x3⟩ := blk4 HX.out;obtain ⟨t0, t1, t2, t3⟩ := HF0.out;obtain ⟨s0, s1, s2, s3⟩ := HF1.out;have hwW : w.heap.size < w1.heap.size := by omega
 have HSK := hid (show ∀ w', Below w1.heap.size w1 w' → w'.cell? ⟨w.heap.size, 3, none⟩ = some (.slice (some ⟨g, o, none⟩) 3 c) ∧ w'.cell? ⟨g, o, none⟩ = some (.int .i64 t.kind) ∧ w'.cell? ⟨g, o + 1, none⟩ = some (.int .u64 (t.num : Int)) ∧ w'.cell? ⟨g, o + 2, none⟩ = some (.string t.str) ∧ w'.cell? ⟨g, o + 3, none⟩ = some (.slice A0 t.kids.length c0) ∧ w'.cell? ⟨g, o + 4, none⟩ = some (.int .i64 s.kind) ∧ w'.cell? ⟨g, o + 4 + 1, none⟩ = some (.int .u64 (s.num : Int)) ∧ w'.cell? ⟨g, o + 4 + 2, none⟩ = some (.string s.str) ∧ w'.cell? ⟨g, o + 4 + 3, none⟩ = some (.slice A1 s.kids.length c1) from fun w' hb => ⟨(hb.cell (p := ⟨w.heap.size, 3, none⟩) hwW).trans x3, (hb.cell (p := ⟨g, o, none⟩) hg1).trans t0, (hb.cell (p := ⟨g, o + 1, none⟩) hg1).trans t1, (hb.cell (p := ⟨g, o + 2, none⟩) hg1).trans t2, (hb.cell (p := ⟨g, o + 3, none⟩) hg1).trans t3, (hb.cell (p := ⟨g, o + 4, none⟩) hg1).trans s0, (hb.cell (p := ⟨g, o + 4 + 1, none⟩) hg1).trans s1, (hb.cell (p := ⟨g, o + 4 + 2, none⟩) hg1).trans s2, (hb.cell (p := ⟨g, o + 4 + 3, none⟩) hg1).trans s3⟩);have HCUR := hid (Below.drew (Below.refl w1.heap.size w1));go_upto_region 4 with fail
 go_cut [6] from 20 (RtkCut w1 #[.slice V n cc, .int .i64 S1, .int .i64 T1])
 case first =>
  go_region_held3 (fun w' => w'.cell? ⟨w.heap.size, 3, none⟩ = some (.slice (some ⟨g, o, none⟩) 3 c) ∧ w'.cell? ⟨g, o, none⟩ = some (.int .i64 t.kind) ∧ w'.cell? ⟨g, o + 1, none⟩ = some (.int .u64 (t.num : Int)) ∧ w'.cell? ⟨g, o + 2, none⟩ = some (.string t.str) ∧ w'.cell? ⟨g, o + 3, none⟩ = some (.slice A0 t.kids.length c0) ∧ w'.cell? ⟨g, o + 4, none⟩ = some (.int .i64 s.kind) ∧ w'.cell? ⟨g, o + 4 + 1, none⟩ = some (.int .u64 (s.num : Int)) ∧ w'.cell? ⟨g, o + 4 + 2, none⟩ = some (.string s.str) ∧ w'.cell? ⟨g, o + 4 + 3, none⟩ = some (.slice A1 s.kids.length c1)) ((refine HSK.out _ ?_; first | (with_reducible exact HCUR.out) | (with_reducible exact Below.drew ((Below.refl w1.heap.size w1).alloc (Nat.le_refl _) _)) | (with_reducible exact HCUR.out.alloc HCUR.out.size _) | (with_reducible exact (bel_set3 HKP.out HPL.out HCUR.out _ _ _)) | (with_reducible exact HCUR.out.drew)))
   (first
   | (go_at_call 77
      refine (HI1.out _).mono ?_;rintro e v1 ⟨rfl, hb1⟩;first
      | (have hkp := HKP.out.bel hb1
         have hnow := HCUR.out.trans (hb1.mono HCUR.out.size);replace HCUR := hid hnow;obtain ⟨j0, j1, j2⟩ := blk3 hkp; have z0 := hkp.soft 0; have z1 := hkp.soft 1; have z2 := hkp.soft 2;replace HKP := hid hkp;clear HI1 hb1 hnow hkp)
      | (with_reducible have hkp := with_reducible_new2 hb1
         have hnow := (Below.drew ((Below.refl w1.heap.size w1).alloc (Nat.le_refl _) (.cells #[.slice none 0 0, .int .i64 0, .int .i64 0] 30))).trans (hb1.mono (by rw [World.size_drew', size_alloc]; omega));have HPL := hid (Nat.le_refl w1.heap.size);replace HCUR := hid hnow;obtain ⟨j0, j1, j2⟩ := blk3 hkp; have z0 := hkp.soft 0; have z1 := hkp.soft 1; have z2 := hkp.soft 2;have HKP := hid hkp;clear HI1 hb1 hnow hkp)
      | (with_reducible have hkp := with_reducible_new hb1
         have hnow := (HCUR.out.alloc HCUR.out.size (.cells #[.slice none 0 0, .int .i64 0, .int .i64 0] 30)).trans (hb1.mono (by rw [size_alloc]; have := HCUR.out.size; omega));have HPL := hid HCUR.out.size;replace HCUR := hid hnow;obtain ⟨j0, j1, j2⟩ := blk3 hkp; have z0 := hkp.soft 0; have z1 := hkp.soft 1; have z2 := hkp.soft 2;have HKP := hid hkp;clear HI1 hb1 hnow hkp)
      | (have hnow := HCUR.out.trans (hb1.mono HCUR.out.size)
         replace HCUR := hid hnow;clear HI1 hb1 hnow))
   | (go_at_call 77
      refine (HI0.out _).mono ?_;rintro e v1 ⟨rfl, hb1⟩;first
      | (have hkp := HKP.out.bel hb1
         have hnow := HCUR.out.trans (hb1.mono HCUR.out.size);replace HCUR := hid hnow;obtain ⟨j0, j1, j2⟩ := blk3 hkp; have z0 := hkp.soft 0; have z1 := hkp.soft 1; have z2 := hkp.soft 2;replace HKP := hid hkp;clear HI0 hb1 hnow hkp)
      | (with_reducible have hkp := with_reducible_new2 hb1
         have hnow := (Below.drew ((Below.refl w1.heap.size w1).alloc (Nat.le_refl _) (.cells #[.slice none 0 0, .int .i64 0, .int .i64 0] 30))).trans (hb1.mono (by rw [World.size_drew', size_alloc]; omega));have HPL := hid (Nat.le_refl w1.heap.size);replace HCUR := hid hnow;obtain ⟨j0, j1, j2⟩ := blk3 hkp; have z0 := hkp.soft 0; have z1 := hkp.soft 1; have z2 := hkp.soft 2;have HKP := hid hkp;clear HI0 hb1 hnow hkp)
      | (with_reducible have hkp := with_reducible_new hb1
         have hnow := (HCUR.out.alloc HCUR.out.size (.cells #[.slice none 0 0, .int .i64 0, .int .i64 0] 30)).trans (hb1.mono (by rw [size_alloc]; have := HCUR.out.size; omega));have HPL := hid HCUR.out.size;replace HCUR := hid hnow;obtain ⟨j0, j1, j2⟩ := blk3 hkp; have z0 := hkp.soft 0; have z1 := hkp.soft 1; have z2 := hkp.soft 2;have HKP := hid hkp;clear HI0 hb1 hnow hkp)
      | (have hnow := HCUR.out.trans (hb1.mono HCUR.out.size)
         replace HCUR := hid hnow;clear HI0 hb1 hnow)))
  all_goals
   go_wp2_with fail
   go_meet
  all_goals
   case rel =>
    first
    | (with_reducible exact rtk_set HKP.out HPL.out HCUR.out _ _ _)
    | (with_reducible exact rtk_new HCUR.out)
    | done
 case rest =>
 clear HCUR HSK HI0 HI1 HF0 HF1 x0 x1 x2 x3 t0 t1 t2 t3 s0 s1 s2 s3;obtain ⟨p, rfl, hpW, hc4, hbe⟩ := hcut;have HC4 := hid hc4;have hsx := hbe.size;replace HX := hid (HX.out.bel hbe);replace HK3 := hid (HK3.out.bel hbe);replace HBW := hid (bel_trans HBW.out hbe);replace HLX := hid (HLX.out.below hbe fun b hb => by have := HSS.out b hb; omega);replace HRS := hid (HRS.out.below hbe);have hck := fun w (h : Rs w V n cc l) => refacheck_any l S1 T1 V n cc w h;have hit := fun (hc : achk ⟨l, S1, T1⟩ = 0) w (h : Rs w V n cc l) => refattitem_any l S1 T1 V n cc w h hc;obtain ⟨ca, hca⟩ : ∃ z, achk ⟨l, S1, T1⟩ = z := ⟨_, rfl⟩
 have hR := HR0.out;rw [hca] at hck hit hR;obtain ⟨y, hy⟩ : ∃ y, attIt ⟨l, S1, T1⟩ = y := ⟨_, rfl⟩
 rw [hy] at hit hR;obtain ⟨r, hr⟩ : ∃ r, same x y = r := ⟨_, rfl⟩
 rw [hr] at hR;replace HR0 := hid hR;have HCK := hid hck;have HIT := hid hit;have HSR := hid hr;obtain ⟨x0, x1, x2, x3⟩ := blk4 HX.out;obtain ⟨y0, y1, y2⟩ := blk3 hc4;clear hR hck hit hca hy hr hbe hc4;cases b with
 | false =>
   have HR := hid (show attTake x = none by rw [HR0.out, if_neg (by rintro ⟨h, _⟩; cases h)]);clear HR0 HCK HIT HSM HSR x0 x1 x2 x3 y0 y1 y2;go_wp2_with fail
   refine wp_region_bel (by kernel_rfl) (by kernel_rfl) ?_
   repeat (first | ((with_reducible refine wpQuiet_skip ?_ ?_); (focus rfl); simp only [Act.put, List.setIfInBounds_toArray, List.set_cons_zero, List.set_cons_succ]) | ((with_reducible refine wpQuiet_step (fun K hK => ?_)); go_simp; (with_reducible refine hK _ ?_); clear hK K))
   with_reducible refine wpQuiet_nil ?_
   intro W9 hw';obtain ⟨p9, hp9⟩ := hw';have hW9 := p9.h;rw [← hp9] at hW9;clear hp9 p9;replace HK3 := hid (HK3.out.bel hW9);replace HBW := hid (bel_trans HBW.out hW9);clear hW9;obtain ⟨z0, z1, z2⟩ := blk3 HK3.out;have f0 := HK3.out.soft 0;have f1 := HK3.out.soft 1;have f2 := HK3.out.soft 2;go_wp2_with fail
   obtain ⟨hk9, hb9⟩ := blk3_set HK3.out HBW.out (by omega) (.slice none 0 0) (.int .i64 0) (.int .i64 0);generalize (((W9.setCell ⟨w.heap.size + 1, 0, none⟩ (.slice none 0 0)).setCell ⟨w.heap.size + 1, 1, none⟩ (.int .i64 0)).setCell ⟨w.heap.size + 1, 2, none⟩ (.int .i64 0)) = w9 at hk9 hb9 ⊢;obtain ⟨d0, d1, d2⟩ := blk3 hk9;refine bodyPost_ret (v := .tuple #[.agg #[.slice none 0 0, .int .i64 0, .int .i64 0], .bool false]) (by simp [results, Tryz.results82, go_sem, d0, d1, d2]) rfl ?_;rw [HR.out];exact ⟨none, 0, 0, rfl, Rs.nil_ _, hb9, fun _ _ h => by cases h⟩
 | true =>
 by_cases h0 : ca = 0
 case neg =>
  have hn0 : (ca != 0) = true := bne_iff_ne.2 h0;have HR := hid (show attTake x = none by rw [HR0.out, if_neg fun h => h0 h.2.1]);have y0' : ∀ q : BelBy wc, q.W.cell? ⟨p, 0, none⟩ = some (.slice V n cc) := fun q => q.cell HC4.out.lt y0;have y1' : ∀ q : BelBy wc, q.W.cell? ⟨p, 1, none⟩ = some (.int .i64 S1) := fun q => q.cell HC4.out.lt y1;have y2' : ∀ q : BelBy wc, q.W.cell? ⟨p, 2, none⟩ = some (.int .i64 T1) := fun q => q.cell HC4.out.lt y2;clear HR0 HIT HSM HSR h0 x0 x1 x2 x3 y0 y1 y2;go_wp2_with fail
  refine wp_region_bel (by kernel_rfl) (by kernel_rfl) ?_
  repeat (first | ((with_reducible refine wpQuiet_skip ?_ ?_); (focus rfl); simp only [Act.put, List.setIfInBounds_toArray, List.set_cons_zero, List.set_cons_succ]) | ((with_reducible refine wpQuiet_step (fun K hK => ?_)); go_simp; (with_reducible refine hK _ ?_); clear hK K))
  with_reducible refine wpQuiet_step (fun K hK => ?_)
  go_simp;apply Exists.intro;refine ⟨fun _ => ?_, hK _ ?_⟩;exact Calls.bel_of (HCK.out _ (HRS.out.below (BelBy.h _)));clear hK K
  repeat (first | ((with_reducible refine wpQuiet_skip ?_ ?_); (focus rfl); simp only [Act.put, List.setIfInBounds_toArray, List.set_cons_zero, List.set_cons_succ]) | ((with_reducible refine wpQuiet_step (fun K hK => ?_)); go_simp; (with_reducible refine hK _ ?_); clear hK K))
  with_reducible refine wpQuiet_nil ?_
  intro W9 hw';obtain ⟨p9, hp9⟩ := hw';have hW9 := p9.h;rw [← hp9] at hW9;clear hp9 p9;replace HK3 := hid (HK3.out.bel hW9);replace HBW := hid (bel_trans HBW.out hW9);clear hW9 y0' y1' y2';obtain ⟨z0, z1, z2⟩ := blk3 HK3.out;have f0 := HK3.out.soft 0;have f1 := HK3.out.soft 1;have f2 := HK3.out.soft 2;go_wp2_with fail
  obtain ⟨hk9, hb9⟩ := blk3_set HK3.out HBW.out (by omega) (.slice none 0 0) (.int .i64 0) (.int .i64 0);generalize (((W9.setCell ⟨w.heap.size + 1, 0, none⟩ (.slice none 0 0)).setCell ⟨w.heap.size + 1, 1, none⟩ (.int .i64 0)).setCell ⟨w.heap.size + 1, 2, none⟩ (.int .i64 0)) = w9 at hk9 hb9 ⊢;obtain ⟨d0, d1, d2⟩ := blk3 hk9;refine bodyPost_ret (v := .tuple #[.agg #[.slice none 0 0, .int .i64 0, .int .i64 0], .bool false]) (by simp [results, Tryz.results82, go_sem, d0, d1, d2]) rfl ?_;rw [HR.out];exact ⟨none, 0, 0, rfl, Rs.nil_ _, hb9, fun _ _ h => by cases h⟩
 case pos =>
  subst h0;have hR : attTake x = if r = true then some ⟨l, S1, T1⟩ else none := by rw [HR0.out]; simp
  have HR := hid hR;have hit := HIT.out rfl;replace HIT := hid hit;have HCUR := hid (Below.drew (Below.refl wc.heap.size wc));clear hR hit HR0 x0 x1 x2 x3 y0 y1 y2;go_wp2_with fail
  go_region_held3 (fun w' => w'.cell? ⟨p, 0, none⟩ = some (.slice V n cc) ∧ w'.cell? ⟨p, 1, none⟩ = some (.int .i64 S1) ∧ w'.cell? ⟨p, 2, none⟩ = some (.int .i64 T1) ∧ w'.cell? ⟨w.heap.size, 0, none⟩ = some (.int .i64 x.kind) ∧ w'.cell? ⟨w.heap.size, 1, none⟩ = some (.int .u64 (x.num : Int)) ∧ w'.cell? ⟨w.heap.size, 2, none⟩ = some (.string x.str) ∧ w'.cell? ⟨w.heap.size, 3, none⟩ = some (.slice (some ⟨g, o, none⟩) 3 c)) (with_reducible exact held7 HC4.out HX.out HCUR.out)
   (first
   | (go_at_call 56
      refine (HCK.out _ (HRS.out.below HCUR.out)).mono ?_;rintro e v1 ⟨rfl, hb1⟩;have hnow := HCUR.out.trans (hb1.mono HCUR.out.size);replace HCUR := hid hnow;clear HCK hb1 hnow)
   | (go_at_call 65
      refine (HIT.out _ (HRS.out.below HCUR.out)).mono ?_;rintro e v1 ⟨V1, k1, rfl, hl1, hb1⟩;have hnow := HCUR.out.trans (hb1.mono HCUR.out.size);have hsn := hnow.size;have hlx := (HLX.out.below hnow fun b hb => by have := HSS.out b hb; omega).more (S' := fun b => b < v1.heap.size) fun b hb _ => (by have := HSS.out b hb; omega);have hsm := HSM.out v1 y V1 k1 hlx (hl1.more fun b hb _ => hb.2);rw [HSR.out] at hsm;replace HCUR := hid hnow;replace HSM := hid hsm;clear HIT hb1 hnow hl1 hlx hsm hsn)
   | (go_at_call 35
      refine HSM.out.mono ?_;rintro e v2 ⟨rfl, hb1⟩;have hnow := HCUR.out.trans (hb1.mono HCUR.out.size);replace HCUR := hid hnow;clear HSM hb1 hnow))
  replace HK3 := hid (HK3.out.bel HCUR.out);replace HC4 := hid (HC4.out.bel HCUR.out);replace HBW := hid (bel_trans HBW.out HCUR.out);replace HRS := hid (HRS.out.below HCUR.out);cases r with
  | false =>
    have hR : attTake x = none := HR.out;replace HR := hid hR;clear hR;obtain ⟨z0, z1, z2⟩ := blk3 HK3.out;have f0 := HK3.out.soft 0;have f1 := HK3.out.soft 1;have f2 := HK3.out.soft 2;go_wp2_with fail
    obtain ⟨hk9, hb9⟩ := blk3_set HK3.out HBW.out (by omega) (.slice none 0 0) (.int .i64 0) (.int .i64 0);generalize (((v2.setCell ⟨w.heap.size + 1, 0, none⟩ (.slice none 0 0)).setCell ⟨w.heap.size + 1, 1, none⟩ (.int .i64 0)).setCell ⟨w.heap.size + 1, 2, none⟩ (.int .i64 0)) = w9 at hk9 hb9 ⊢;obtain ⟨d0, d1, d2⟩ := blk3 hk9;refine bodyPost_ret (v := .tuple #[.agg #[.slice none 0 0, .int .i64 0, .int .i64 0], .bool false]) (by simp [results, Tryz.results82, go_sem, d0, d1, d2]) rfl ?_;rw [HR.out];exact ⟨none, 0, 0, rfl, Rs.nil_ _, hb9, fun _ _ h => by cases h⟩
  | true =>
    have hR : attTake x = some ⟨l, S1, T1⟩ := HR.out;replace HR := hid hR;clear hR;obtain ⟨y0, y1, y2⟩ := blk3 HC4.out;obtain ⟨z0, z1, z2⟩ := blk3 HK3.out;have f0 := HK3.out.soft 0;have f1 := HK3.out.soft 1;have f2 := HK3.out.soft 2;go_wp2_with fail
    have hrs := Rs.set3n (r := w.heap.size + 1) HRS.out HNEW.out (by omega) (.slice V n cc) (.int .i64 S1) (.int .i64 T1);obtain ⟨hk9, hb9⟩ := blk3_set HK3.out HBW.out (by omega) (.slice V n cc) (.int .i64 S1) (.int .i64 T1);generalize (((v2.setCell ⟨w.heap.size + 1, 0, none⟩ (.slice V n cc)).setCell ⟨w.heap.size + 1, 1, none⟩ (.int .i64 S1)).setCell ⟨w.heap.size + 1, 2, none⟩ (.int .i64 T1)) = w9 at hk9 hb9 hrs ⊢;obtain ⟨d0, d1, d2⟩ := blk3 hk9;refine bodyPost_ret (v := .tuple #[.agg #[.slice V n cc, .int .i64 S1, .int .i64 T1], .bool true]) (by simp [results, Tryz.results82, go_sem, d0, d1, d2]) rfl ?_;rw [HR.out];exact ⟨V, n, cc, rfl, hrs, hb9, fun g o e => by have := HNEW.out g o e; omega⟩
end Go.Proofs.YthlhchaoedcdbaaGreatDoor
/- The document's TakeOld of any item. -/
namespace Go.Proofs.YthlhchaoedcdbaaGreatDoor
open Lib (hid)
open Go.RowKit Mem Ids Att Cod
set_option maxRecDepth 100000 in
set_option maxHeartbeats 8000000 in
theorem refoldtake_any (x : It) (A : Option Addr) (c : Nat) (S : Nat → Prop) (w : World) (hx : Lies w S x A c) (hS : ∀ b, S b → b < w.heap.size) :
 Calls Tryz.prog 81 #[.agg #[.int .i64 x.kind, .int .u64 (x.num : Int), .string x.str, .slice A x.kids.length c]] w (TakesAt w (oldTake x)) := by
 have hsm := fun (W : World) (y : It) (V1 : Option Addr) (c1 : Nat) (h1 : Lies W (fun b => b < W.heap.size) x A c) (h2 : Lies W (fun b => b < W.heap.size) y V1 c1) => refsame_item x y A V1 c c1 _ W h1 h2 (fun b hb => hb);obtain ⟨W, hW⟩ : ∃ W, (w.alloc (.cells #[.int .i64 x.kind, .int .u64 (x.num : Int), .string x.str, .slice A x.kids.length c] 57)).alloc (.cells #[.slice none 0 0, .int .i64 0, .int .i64 0] 30) = W := ⟨_, rfl⟩
 obtain ⟨k1, k2, kb, hsW⟩ := two_kinds w _ _ _ _ W hW;have HK3 := hid k2;have HBW := hid kb;have HLX := hid (hx.below kb hS);have HSS := hid hS;have HW := hid hW;have hck := hx.bounds.2.2.2.2;by_cases hn : x.kids.length = 2
 case neg =>
  have hR : oldTake x = none := old_short hn;have HR := hid hR;have b1 : ((x.kids.length : Int) != 2) = true := bne_iff_ne.2 fun h => hn (by omega);obtain ⟨p0, p1, p2, p3⟩ := blk4 k1;clear hR hn k1 k2 kb hx hS hW hsm;generalize x.kids.length = m at *;go_enter Tryz.func81, Tryz.ntmps81
  go_upto_region 1 with fail
  rw [HW.out];clear HW;obtain ⟨z0, z1, z2⟩ := blk3 HK3.out;have f0 := HK3.out.soft 0;have f1 := HK3.out.soft 1;have f2 := HK3.out.soft 2;go_wp2_with fail
  obtain ⟨hk9, hb9⟩ := blk3_set HK3.out HBW.out (by omega) (.slice none 0 0) (.int .i64 0) (.int .i64 0);generalize (((W.setCell ⟨w.heap.size + 1, 0, none⟩ (.slice none 0 0)).setCell ⟨w.heap.size + 1, 1, none⟩ (.int .i64 0)).setCell ⟨w.heap.size + 1, 2, none⟩ (.int .i64 0)) = w9 at hk9 hb9 ⊢;obtain ⟨d0, d1, d2⟩ := blk3 hk9;refine bodyPost_ret (v := .tuple #[.agg #[.slice none 0 0, .int .i64 0, .int .i64 0], .bool false]) (by simp [results, Tryz.results81, go_sem, d0, d1, d2]) rfl ?_;rw [HR.out];exact ⟨none, 0, 0, rfl, Rs.nil_ _, hb9, fun _ _ h => by cases h⟩
 obtain ⟨s, d, hk⟩ : ∃ s d, x.kids = [s, d] := by
  match x.kids, hn with
  | [s, d], _ => exact ⟨s, d, rfl⟩
 obtain ⟨g, o, A1, c1, A2, c2, rfl, hSg, hg, f1, f2, l1, l2⟩ := kids2 HLX.out hk
 have hbs : ∀ y ∈ x.kids, y.num ≤ 18446744073709551615 := by
  intro y hy;rw [hk] at hy;simp only [List.mem_cons, List.not_mem_nil, or_false] at hy;rcases hy with rfl | rfl
  · exact l1.bounds.2.2.1
  · exact l2.bounds.2.2.1
 have hR := old_ref hbs hk;have HI1 := hid (fun w => refint_any s A1 c1 w l1.bounds.2.2.1);have HT := hid (fun w (h : Lies w S d A2 c2) (hS : ∀ b, S b → b < w.heap.size) => reftake_new d A2 c2 S w h hS);generalize takeOf d = T at hR HT;generalize capOf s.num = S1 at hR HI1;have hgw := HSS.out g hSg;rw [hn] at k1 HW hsm ⊢;have HX := hid k1;have HR0 := hid hR;have HSM := hid hsm;have HL2 := hid l2;have HF1 := hid f1;obtain ⟨n0, n1, n2, n3⟩ := f2;obtain ⟨p0, p1, p2, p3⟩ := blk4 k1;clear hR hbs hk l1 l2 f1 k1 k2 kb hx hS hW hsm hn hck;go_enter Tryz.func81, Tryz.ntmps81
 go_upto_region 1 with fail
 rw [HW.out];clear HW;go_wp2_with fail
 refine (HT.out _ HL2.out fun b hb => by have := HSS.out b hb; omega).mono ?_;rintro e w1 ⟨V, n, cc, l, b, rfl, hrs, hl, hb, hb1, hnew⟩;have hs1 := hb1.size;have HRS := hid hrs;have HNEW := hid (show ∀ g o, V = some ⟨g, o, none⟩ → W.heap.size ≤ g from hnew);have hR := HR0.out;rw [← hl, ← hb] at hR;replace HR0 := hid hR;replace HX := hid (HX.out.bel hb1);replace HK3 := hid (HK3.out.bel hb1);replace HBW := hid (bel_trans HBW.out hb1);replace HLX := hid (HLX.out.below hb1 fun b hb => by have := HSS.out b hb; omega);replace HF1 := hid (HF1.out.bel (by omega) hb1);clear hR hb1 hnew hrs hl hb HT HL2 n0 n1 n2 n3 p0 p1 p2 p3;have hg1 : g < w1.heap.size := by omega
 have hw1 : w.heap.size + 2 ≤ w1.heap.size := by omega
 obtain ⟨x0, x1, x2, x3⟩ := blk4 HX.out;obtain ⟨s0, s1, s2, s3⟩ := HF1.out;go_upto_region 4 with fail
 go_cut [6] from 20 (RtkCut w1 #[.slice V n cc, .int .i64 S1, .int .i64 1])
 case first =>
  go_wp2_with fail
  refine (HI1.out _).mono ?_;rintro e w2 ⟨rfl, hb2⟩;have HB2 := hid hb2;clear hb2;go_wp2_with fail
  go_meet
  case rel => exact rtk_new HB2.out
 case rest =>
 clear HI1 HF1 x0 x1 x2 x3 s0 s1 s2 s3;obtain ⟨p, rfl, hpW, hc4, hbe⟩ := hcut;have HC4 := hid hc4;have hsx := hbe.size;replace HX := hid (HX.out.bel hbe);replace HK3 := hid (HK3.out.bel hbe);replace HBW := hid (bel_trans HBW.out hbe);replace HLX := hid (HLX.out.below hbe fun b hb => by have := HSS.out b hb; omega);replace HRS := hid (HRS.out.below hbe);have hck := fun w (h : Rs w V n cc l) => refacheck_any l S1 1 V n cc w h;have hit := fun (hc : achk ⟨l, S1, 1⟩ = 0) w (h : Rs w V n cc l) => refattold_any l S1 1 V n cc w h hc;obtain ⟨ca, hca⟩ : ∃ z, achk ⟨l, S1, 1⟩ = z := ⟨_, rfl⟩
 have hR := HR0.out;rw [hca] at hck hit hR;obtain ⟨y, hy⟩ : ∃ y, oldIt ⟨l, S1, 1⟩ = y := ⟨_, rfl⟩
 rw [hy] at hit hR;obtain ⟨r, hr⟩ : ∃ r, same x y = r := ⟨_, rfl⟩
 rw [hr] at hR;replace HR0 := hid hR;have HCK := hid hck;have HIT := hid hit;have HSR := hid hr;obtain ⟨x0, x1, x2, x3⟩ := blk4 HX.out;obtain ⟨y0, y1, y2⟩ := blk3 hc4;clear hR hck hit hca hy hr hbe hc4;cases b with
 | false =>
   have HR := hid (show oldTake x = none by rw [HR0.out, if_neg (by rintro ⟨h, _⟩; cases h)]);clear HR0 HCK HIT HSM HSR x0 x1 x2 x3 y0 y1 y2;go_wp2_with fail
   refine wp_region_bel (by kernel_rfl) (by kernel_rfl) ?_
   repeat (first | ((with_reducible refine wpQuiet_skip ?_ ?_); (focus rfl); simp only [Act.put, List.setIfInBounds_toArray, List.set_cons_zero, List.set_cons_succ]) | ((with_reducible refine wpQuiet_step (fun K hK => ?_)); go_simp; (with_reducible refine hK _ ?_); clear hK K))
   with_reducible refine wpQuiet_nil ?_
   intro W9 hw';obtain ⟨p9, hp9⟩ := hw';have hW9 := p9.h;rw [← hp9] at hW9;clear hp9 p9;replace HK3 := hid (HK3.out.bel hW9);replace HBW := hid (bel_trans HBW.out hW9);clear hW9;obtain ⟨z0, z1, z2⟩ := blk3 HK3.out;have f0 := HK3.out.soft 0;have f1 := HK3.out.soft 1;have f2 := HK3.out.soft 2;go_wp2_with fail
   obtain ⟨hk9, hb9⟩ := blk3_set HK3.out HBW.out (by omega) (.slice none 0 0) (.int .i64 0) (.int .i64 0);generalize (((W9.setCell ⟨w.heap.size + 1, 0, none⟩ (.slice none 0 0)).setCell ⟨w.heap.size + 1, 1, none⟩ (.int .i64 0)).setCell ⟨w.heap.size + 1, 2, none⟩ (.int .i64 0)) = w9 at hk9 hb9 ⊢;obtain ⟨d0, d1, d2⟩ := blk3 hk9;refine bodyPost_ret (v := .tuple #[.agg #[.slice none 0 0, .int .i64 0, .int .i64 0], .bool false]) (by simp [results, Tryz.results81, go_sem, d0, d1, d2]) rfl ?_;rw [HR.out];exact ⟨none, 0, 0, rfl, Rs.nil_ _, hb9, fun _ _ h => by cases h⟩
 | true =>
 by_cases h0 : ca = 0
 case neg =>
  have hn0 : (ca != 0) = true := bne_iff_ne.2 h0;have HR := hid (show oldTake x = none by rw [HR0.out, if_neg fun h => h0 h.2.1]);have y0' : ∀ q : BelBy wc, q.W.cell? ⟨p, 0, none⟩ = some (.slice V n cc) := fun q => q.cell HC4.out.lt y0;have y1' : ∀ q : BelBy wc, q.W.cell? ⟨p, 1, none⟩ = some (.int .i64 S1) := fun q => q.cell HC4.out.lt y1;have y2' : ∀ q : BelBy wc, q.W.cell? ⟨p, 2, none⟩ = some (.int .i64 1) := fun q => q.cell HC4.out.lt y2;clear HR0 HIT HSM HSR h0 x0 x1 x2 x3 y0 y1 y2;go_wp2_with fail
  refine wp_region_bel (by kernel_rfl) (by kernel_rfl) ?_
  repeat (first | ((with_reducible refine wpQuiet_skip ?_ ?_); (focus rfl); simp only [Act.put, List.setIfInBounds_toArray, List.set_cons_zero, List.set_cons_succ]) | ((with_reducible refine wpQuiet_step (fun K hK => ?_)); go_simp; (with_reducible refine hK _ ?_); clear hK K))
  with_reducible refine wpQuiet_step (fun K hK => ?_)
  go_simp;apply Exists.intro;refine ⟨fun _ => ?_, hK _ ?_⟩;exact Calls.bel_of (HCK.out _ (HRS.out.below (BelBy.h _)));clear hK K
  repeat (first | ((with_reducible refine wpQuiet_skip ?_ ?_); (focus rfl); simp only [Act.put, List.setIfInBounds_toArray, List.set_cons_zero, List.set_cons_succ]) | ((with_reducible refine wpQuiet_step (fun K hK => ?_)); go_simp; (with_reducible refine hK _ ?_); clear hK K))
  with_reducible refine wpQuiet_nil ?_
  intro W9 hw';obtain ⟨p9, hp9⟩ := hw';have hW9 := p9.h;rw [← hp9] at hW9;clear hp9 p9;replace HK3 := hid (HK3.out.bel hW9);replace HBW := hid (bel_trans HBW.out hW9);clear hW9 y0' y1' y2';obtain ⟨z0, z1, z2⟩ := blk3 HK3.out;have f0 := HK3.out.soft 0;have f1 := HK3.out.soft 1;have f2 := HK3.out.soft 2;go_wp2_with fail
  obtain ⟨hk9, hb9⟩ := blk3_set HK3.out HBW.out (by omega) (.slice none 0 0) (.int .i64 0) (.int .i64 0);generalize (((W9.setCell ⟨w.heap.size + 1, 0, none⟩ (.slice none 0 0)).setCell ⟨w.heap.size + 1, 1, none⟩ (.int .i64 0)).setCell ⟨w.heap.size + 1, 2, none⟩ (.int .i64 0)) = w9 at hk9 hb9 ⊢;obtain ⟨d0, d1, d2⟩ := blk3 hk9;refine bodyPost_ret (v := .tuple #[.agg #[.slice none 0 0, .int .i64 0, .int .i64 0], .bool false]) (by simp [results, Tryz.results81, go_sem, d0, d1, d2]) rfl ?_;rw [HR.out];exact ⟨none, 0, 0, rfl, Rs.nil_ _, hb9, fun _ _ h => by cases h⟩
 case pos =>
  subst h0;have hR : oldTake x = if r = true then some ⟨l, S1, 1⟩ else none := by rw [HR0.out]; simp
  have HR := hid hR;have hit := HIT.out rfl;replace HIT := hid hit;have HCUR := hid (Below.drew (Below.refl wc.heap.size wc));clear hR hit HR0 x0 x1 x2 x3 y0 y1 y2;go_wp2_with fail
  go_region_held3 (fun w' => w'.cell? ⟨p, 0, none⟩ = some (.slice V n cc) ∧ w'.cell? ⟨p, 1, none⟩ = some (.int .i64 S1) ∧ w'.cell? ⟨p, 2, none⟩ = some (.int .i64 1) ∧ w'.cell? ⟨w.heap.size, 0, none⟩ = some (.int .i64 x.kind) ∧ w'.cell? ⟨w.heap.size, 1, none⟩ = some (.int .u64 (x.num : Int)) ∧ w'.cell? ⟨w.heap.size, 2, none⟩ = some (.string x.str) ∧ w'.cell? ⟨w.heap.size, 3, none⟩ = some (.slice (some ⟨g, o, none⟩) 2 c)) (with_reducible exact held7 HC4.out HX.out HCUR.out)
   (first
   | (go_at_call 56
      refine (HCK.out _ (HRS.out.below HCUR.out)).mono ?_;rintro e v1 ⟨rfl, hb1⟩;have hnow := HCUR.out.trans (hb1.mono HCUR.out.size);replace HCUR := hid hnow;clear HCK hb1 hnow)
   | (go_at_call 64
      refine (HIT.out _ (HRS.out.below HCUR.out)).mono ?_;rintro e v1 ⟨V1, k1, rfl, hl1, hb1⟩;have hnow := HCUR.out.trans (hb1.mono HCUR.out.size);have hsn := hnow.size;have hlx := (HLX.out.below hnow fun b hb => by have := HSS.out b hb; omega).more (S' := fun b => b < v1.heap.size) fun b hb _ => (by have := HSS.out b hb; omega);have hsm := HSM.out v1 y V1 k1 hlx (hl1.more fun b hb _ => hb.2);rw [HSR.out] at hsm;replace HCUR := hid hnow;replace HSM := hid hsm;clear HIT hb1 hnow hl1 hlx hsm hsn)
   | (go_at_call 35
      refine HSM.out.mono ?_;rintro e v2 ⟨rfl, hb1⟩;have hnow := HCUR.out.trans (hb1.mono HCUR.out.size);replace HCUR := hid hnow;clear HSM hb1 hnow))
  replace HK3 := hid (HK3.out.bel HCUR.out);replace HC4 := hid (HC4.out.bel HCUR.out);replace HBW := hid (bel_trans HBW.out HCUR.out);replace HRS := hid (HRS.out.below HCUR.out);cases r with
  | false =>
    have hR : oldTake x = none := HR.out;replace HR := hid hR;clear hR;obtain ⟨z0, z1, z2⟩ := blk3 HK3.out;have f0 := HK3.out.soft 0;have f1 := HK3.out.soft 1;have f2 := HK3.out.soft 2;go_wp2_with fail
    obtain ⟨hk9, hb9⟩ := blk3_set HK3.out HBW.out (by omega) (.slice none 0 0) (.int .i64 0) (.int .i64 0);generalize (((v2.setCell ⟨w.heap.size + 1, 0, none⟩ (.slice none 0 0)).setCell ⟨w.heap.size + 1, 1, none⟩ (.int .i64 0)).setCell ⟨w.heap.size + 1, 2, none⟩ (.int .i64 0)) = w9 at hk9 hb9 ⊢;obtain ⟨d0, d1, d2⟩ := blk3 hk9;refine bodyPost_ret (v := .tuple #[.agg #[.slice none 0 0, .int .i64 0, .int .i64 0], .bool false]) (by simp [results, Tryz.results81, go_sem, d0, d1, d2]) rfl ?_;rw [HR.out];exact ⟨none, 0, 0, rfl, Rs.nil_ _, hb9, fun _ _ h => by cases h⟩
  | true =>
    have hR : oldTake x = some ⟨l, S1, 1⟩ := HR.out;replace HR := hid hR;clear hR;obtain ⟨y0, y1, y2⟩ := blk3 HC4.out;obtain ⟨z0, z1, z2⟩ := blk3 HK3.out;have f0 := HK3.out.soft 0;have f1 := HK3.out.soft 1;have f2 := HK3.out.soft 2;go_wp2_with fail
    have hrs := Rs.set3n (r := w.heap.size + 1) HRS.out HNEW.out (by omega) (.slice V n cc) (.int .i64 S1) (.int .i64 1);obtain ⟨hk9, hb9⟩ := blk3_set HK3.out HBW.out (by omega) (.slice V n cc) (.int .i64 S1) (.int .i64 1);generalize (((v2.setCell ⟨w.heap.size + 1, 0, none⟩ (.slice V n cc)).setCell ⟨w.heap.size + 1, 1, none⟩ (.int .i64 S1)).setCell ⟨w.heap.size + 1, 2, none⟩ (.int .i64 1)) = w9 at hk9 hb9 hrs ⊢;obtain ⟨d0, d1, d2⟩ := blk3 hk9;refine bodyPost_ret (v := .tuple #[.agg #[.slice V n cc, .int .i64 S1, .int .i64 1], .bool true]) (by simp [results, Tryz.results81, go_sem, d0, d1, d2]) rfl ?_;rw [HR.out];exact ⟨V, n, cc, rfl, hrs, hb9, fun g o e => by have := HNEW.out g o e; omega⟩
end Go.Proofs.YthlhchaoedcdbaaGreatDoor
