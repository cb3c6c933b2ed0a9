/-
  Texts of earlier layers, as one.
-/
import Derived.Test.YthlhchaoedcdbaaGreatDoorRBalI
import Derived.Test.YthlhchaoedcdbaaGreatDoorRCmdT
/- The document's Take of a ballot. -/
namespace Go.Proofs.YthlhchaoedcdbaaGreatDoor.Bal
open Lib (hid)
open Go.RowKit Mem Cod Cmd
theorem bel_set2 {W v : World} {p : Nat} {t : TypeId} {a b : Value} (h : Blk v p t #[a, b]) (hp : W.heap.size ≤ p) (hb : Below W.heap.size W v) (a' b' : Value) :
 Below W.heap.size W ((v.setCell ⟨p, 0, none⟩ a').setCell ⟨p, 1, none⟩ b') :=
 hb.trans (gr_below (blk2_set h a' b').2 hb.size fun b hb => by injection hb with hb; omega)
def RtkCut (W : World) (vs : Array Value) (v4 : Value) (wx : World) : Prop :=
 ∃ p, v4 = .pointer (some ⟨p, 0, none⟩) ∧ W.heap.size ≤ p ∧ Blk wx p 25 vs ∧ Below W.heap.size W wx
theorem rtk_new {W v : World} {vs : Array Value} (hb : Below W.heap.size W v) : RtkCut W vs (.pointer (some ⟨v.heap.size, 0, none⟩)) (v.alloc (.cells vs 25)) :=
 ⟨_, rfl, hb.size, Blk.new _ _ _, hb.alloc hb.size _⟩
theorem rtk_set {W v : World} {p : Nat} {a b : Value} (h : Blk v p 25 #[a, b]) (hp : W.heap.size ≤ p) (hb : Below W.heap.size W v) (a' b' : Value) :
 RtkCut W #[a', b'] (.pointer (some ⟨p, 0, none⟩)) ((v.setCell ⟨p, 0, none⟩ a').setCell ⟨p, 1, none⟩ b') :=
 ⟨_, rfl, hp, (blk2_set h a' b').1, bel_set2 h hp hb a' b'⟩
set_option maxRecDepth 100000 in
set_option maxHeartbeats 4000000 in
theorem refbaltake_any (x : It) (A : Option Addr) (c : Nat) (S : Nat → Prop) (w : World) (hl : Lies w S x A c) (hS : ∀ b, S b → b < w.heap.size) :
 Calls Tryz.prog 79 #[.agg #[.int .i64 x.kind, .int .u64 (x.num : Int), .string x.str, .slice A x.kids.length c]] w (BalTakes w (balTake x)) := by
 have hsm := fun (W : World) (y : It) (V1 : Option Addr) (c1 : Nat) (h1 : Lies W (fun b => b < W.heap.size) y V1 c1) (h2 : Lies W (fun b => b < W.heap.size) x A c) => refsame_item x y A V1 c c1 _ W h2 h1 (fun b hb => hb);obtain ⟨n, hn⟩ : ∃ n, x.kids.length = n := ⟨_, rfl⟩
 obtain ⟨b1, b2, b3, b4, b5, b6⟩ := hl.bounds;rw [hn] at b5 hsm ⊢;obtain ⟨W, hW⟩ : ∃ W, (w.alloc (.cells #[.int .i64 x.kind, .int .u64 (x.num : Int), .string x.str, .slice A n c] 57)).alloc (.cells #[.int .i64 0, .int .i64 0] 25) = W := ⟨_, rfl⟩
 obtain ⟨k1, k2, kb, hsW⟩ := Go.Proofs.YthlhchaoedcdbaaGreatDoor.two_kinds w _ _ _ _ W hW;have HL := hid (hl.below kb hS);have HX := hid k1;have HBX := hid k2;have HB0 := hid kb;have HW := hid hW;have HSS := hid hS;have HN := hid hn;clear hl hS k1 k2 kb hW hn b1 b2 b3 b4 b6;go_enter Tryz.func79, Tryz.ntmps79
 by_cases h6 : n = 2
 case neg =>
  have HNO := hid (show balTake x = none from if_neg fun h => h6 (HN.out.symm.trans h.1));have hne : ((n : Int) != 2) = true := by simp; omega
  clear h6 hsm;go_wp2_with fail
  refine bodyPost_ret (v := .tuple #[.agg #[.int .i64 0, .int .i64 0], .bool false]) (by simp [results, Tryz.results79, go_sem]) rfl ?_;rw [HNO.out, HW.out];exact ⟨rfl, HB0.out⟩
 subst h6;have HSM := hid hsm;obtain ⟨s, d, hkids⟩ := two_kids HN.out;have hks : kid x 0 = s ∧ kid x 1 = d := by unfold kid; rw [hkids]; exact ⟨rfl, rfl⟩
 obtain ⟨g, o, A1, c1, A2, c2, rfl, hSg, hg, f1, f2, l1, l2⟩ := kids2 HL.out hkids;have htk := take_cap x HN.out;have HI0 := hid (Cw.refint_any s.kind s.num s.str A1 s.kids.length c1);have HI1 := hid (Cw.refint_any d.kind d.num d.str A2 d.kids.length c2);obtain ⟨R0, hR0⟩ : ∃ R : Int, cap s.num = R := ⟨_, rfl⟩
 obtain ⟨R1, hR1⟩ : ∃ R : Int, cap d.num = R := ⟨_, rfl⟩
 have hbo : capOf x = (R0, R1) := by rw [capOf, hks.1, hks.2, hR0, hR1]
 rw [hR0] at HI0;rw [hR1] at HI1;rw [hbo] at htk;have hck := fun w => refright_any (R0, R1) w;have hit := fun hc w => refbalitem_any R0 R1 w hc;simp only at hck;generalize hv : right (R0, R1) = v at htk hck hit;generalize hy : balIt (R0, R1) = y at htk hit;generalize hr : same x y = r at htk;have HRS := hid hr;have HIT := hid hit;have HCK := hid hck;have HTK0 := hid htk;obtain ⟨x0, x1, x2, x3⟩ := blk4 HX.out;have HSW := hid hsW;have hwW : w.heap.size < W.heap.size := by omega
 have HSK := hid (show ∀ w', Below W.heap.size W w' → w'.cell? ⟨w.heap.size, 3, none⟩ = some (.slice (some ⟨g, o, none⟩) 2 c) ∧ w'.cell? ⟨g, o, none⟩ = some (.int .i64 s.kind) ∧ w'.cell? ⟨g, o + 1, none⟩ = some (.int .u64 (s.num : Int)) ∧ w'.cell? ⟨g, o + 2, none⟩ = some (.string s.str) ∧ w'.cell? ⟨g, o + 3, none⟩ = some (.slice A1 s.kids.length c1) ∧ w'.cell? ⟨g, o + 4, none⟩ = some (.int .i64 d.kind) ∧ w'.cell? ⟨g, o + 4 + 1, none⟩ = some (.int .u64 (d.num : Int)) ∧ w'.cell? ⟨g, o + 4 + 2, none⟩ = some (.string d.str) ∧ w'.cell? ⟨g, o + 4 + 3, none⟩ = some (.slice A2 d.kids.length c2) from fun w' hb => by
  obtain ⟨q0, q1, q2, q3⟩ := f1.bel hg hb;obtain ⟨r0, r1, r2, r3⟩ := f2.bel hg hb;exact ⟨(blk4 (HX.out.bel hb)).2.2.2, q0, q1, q2, q3, r0, r1, r2, r3⟩)
 have HF1 := hid f1;have HF2 := hid f2;clear htk hbo hr hy hv hit hck hsm hks hkids l1 l2 f1 f2 hsW hR0 hR1;have HCUR := hid (Below.drew (Below.refl W.heap.size W));go_upto_region 3 with fail
 rw [HW.out];go_cut [4] from 10 (RtkCut W #[.int .i64 R0, .int .i64 R1])
 case first =>
  go_region_held3 (fun w' => w'.cell? ⟨w.heap.size, 3, none⟩ = some (.slice (some ⟨g, o, none⟩) 2 c) ∧ w'.cell? ⟨g, o, none⟩ = some (.int .i64 s.kind) ∧ w'.cell? ⟨g, o + 1, none⟩ = some (.int .u64 (s.num : Int)) ∧ w'.cell? ⟨g, o + 2, none⟩ = some (.string s.str) ∧ w'.cell? ⟨g, o + 3, none⟩ = some (.slice A1 s.kids.length c1) ∧ w'.cell? ⟨g, o + 4, none⟩ = some (.int .i64 d.kind) ∧ w'.cell? ⟨g, o + 4 + 1, none⟩ = some (.int .u64 (d.num : Int)) ∧ w'.cell? ⟨g, o + 4 + 2, none⟩ = some (.string d.str) ∧ w'.cell? ⟨g, o + 4 + 3, none⟩ = some (.slice A2 d.kids.length c2)) (first | (with_reducible exact HSK.out _ (HCUR.out.alloc HCUR.out.size _)) | (with_reducible exact HSK.out _ HCUR.out) | (exact HSK.out _ (bel_set2 HKP.out HPL.out HCUR.out _ _)) | (exact HSK.out _ (Below.drew (bel_alloc (Below.refl _ _) _))))
   (first
   | (go_at_call 77
      refine (HI0.out _).mono ?_;rintro e v1 ⟨rfl, hb1⟩;first
      | (have hkp := HKP.out.bel hb1
         have hnow := HCUR.out.trans (hb1.mono HCUR.out.size);replace HCUR := hid hnow;obtain ⟨j0, j1⟩ := blk2 hkp; have z0 := hkp.soft 0; have z1 := hkp.soft 1;replace HKP := hid hkp;clear HI0 hb1 hnow hkp)
      | (with_reducible have hkp := Cw.with_reducible_new2 hb1
         have hnow := (Below.drew ((Below.refl W.heap.size W).alloc (Nat.le_refl _) (.cells #[.int .i64 0, .int .i64 0] 25))).trans (hb1.mono (by rw [Cw.World.size_drew', size_alloc]; omega));have HPL := hid (Nat.le_refl W.heap.size);replace HCUR := hid hnow;obtain ⟨j0, j1⟩ := blk2 hkp; have z0 := hkp.soft 0; have z1 := hkp.soft 1;have HKP := hid hkp;clear HI0 hb1 hnow hkp)
      | (with_reducible have hkp := Cw.with_reducible_new hb1
         have hnow := (HCUR.out.alloc HCUR.out.size (.cells #[.int .i64 0, .int .i64 0] 25)).trans (hb1.mono (by rw [size_alloc]; have := HCUR.out.size; omega));have HPL := hid HCUR.out.size;replace HCUR := hid hnow;obtain ⟨j0, j1⟩ := blk2 hkp; have z0 := hkp.soft 0; have z1 := hkp.soft 1;have HKP := hid hkp;clear HI0 hb1 hnow hkp)
      | (have hnow := HCUR.out.trans (hb1.mono HCUR.out.size)
         replace HCUR := hid hnow;clear HI0 hb1 hnow))
   | (go_at_call 77
      refine (HI1.out _).mono ?_;rintro e v1 ⟨rfl, hb1⟩;first
      | (have hkp := HKP.out.bel hb1
         have hnow := HCUR.out.trans (hb1.mono HCUR.out.size);replace HCUR := hid hnow;obtain ⟨j0, j1⟩ := blk2 hkp; have z0 := hkp.soft 0; have z1 := hkp.soft 1;replace HKP := hid hkp;clear HI1 hb1 hnow hkp)
      | (with_reducible have hkp := Cw.with_reducible_new2 hb1
         have hnow := (Below.drew ((Below.refl W.heap.size W).alloc (Nat.le_refl _) (.cells #[.int .i64 0, .int .i64 0] 25))).trans (hb1.mono (by rw [Cw.World.size_drew', size_alloc]; omega));have HPL := hid (Nat.le_refl W.heap.size);replace HCUR := hid hnow;obtain ⟨j0, j1⟩ := blk2 hkp; have z0 := hkp.soft 0; have z1 := hkp.soft 1;have HKP := hid hkp;clear HI1 hb1 hnow hkp)
      | (with_reducible have hkp := Cw.with_reducible_new hb1
         have hnow := (HCUR.out.alloc HCUR.out.size (.cells #[.int .i64 0, .int .i64 0] 25)).trans (hb1.mono (by rw [size_alloc]; have := HCUR.out.size; omega));have HPL := hid HCUR.out.size;replace HCUR := hid hnow;obtain ⟨j0, j1⟩ := blk2 hkp; have z0 := hkp.soft 0; have z1 := hkp.soft 1;have HKP := hid hkp;clear HI1 hb1 hnow hkp)
      | (have hnow := HCUR.out.trans (hb1.mono HCUR.out.size)
         replace HCUR := hid hnow;clear HI1 hb1 hnow)))
  all_goals
   go_wp2_with fail
   go_meet
  all_goals
   case rel =>
    first
    | (with_reducible exact rtk_set HKP.out HPL.out HCUR.out _ _)
    | (with_reducible exact rtk_new HCUR.out)
    | done
 case rest =>
  obtain ⟨p, rfl, hpW, hc4, hbe⟩ := hcut;have hsW := HSW.out;have hsx := hbe.size;have HC4 := hid hc4;have HX2 := hid (HX.out.bel hbe);have HBE := hid hbe;have HL2 := hid (HL.out.below hbe (fun b hb => by have := HSS.out b hb; omega));have hle1 : w.heap.size + 2 ≤ W.heap.size := by omega
  have HSM := hid HSM.out;obtain ⟨x0, x1, x2, x3⟩ := blk4 HX2.out;obtain ⟨y0, y1⟩ := blk2 hc4;clear hsW hc4 hbe HCUR HSK;cases v with
  | false =>
    have HTK := hid (show balTake x = none by rw [HTK0.out, if_neg fun h => by cases h.1]);have y0' : ∀ q : BelBy wc, q.W.cell? ⟨p, 0, none⟩ = some (.int .i64 R0) := fun q => q.cell HC4.out.lt y0;have y1' : ∀ q : BelBy wc, q.W.cell? ⟨p, 1, none⟩ = some (.int .i64 R1) := fun q => q.cell HC4.out.lt y1;clear y0 y1 x0 x1 x2 x3;go_wp2_with fail
    refine wp_region_bel (by kernel_rfl) (by kernel_rfl) ?_
    repeat (first | ((with_reducible refine wpQuiet_skip ?_ ?_); (focus rfl); simp only [Act.put, List.setIfInBounds_toArray, List.set_cons_zero, List.set_cons_succ]) | ((with_reducible refine wpQuiet_step (fun K hK => ?_)); go_simp; (with_reducible refine hK _ ?_); clear hK K))
    with_reducible refine wpQuiet_step (fun K hK => ?_)
    go_simp;apply Exists.intro;refine ⟨fun _ => ?_, hK _ ?_⟩;exact Calls.bel_of (HCK.out _);clear hK K
    repeat (first | ((with_reducible refine wpQuiet_skip ?_ ?_); (focus rfl); simp only [Act.put, List.setIfInBounds_toArray, List.set_cons_zero, List.set_cons_succ]) | ((with_reducible refine wpQuiet_step (fun K hK => ?_)); go_simp; (with_reducible refine hK _ ?_); clear hK K))
    with_reducible refine wpQuiet_nil ?_
    intro W9 hw';obtain ⟨p9, hp9⟩ := hw';have hW9 := p9.h;rw [← hp9] at hW9;clear hp9 p9;have HCUR := hid hW9;replace HBE := hid (bel_trans HBE.out hW9);clear hW9 y0' y1';have hs9 := HBE.out.size;have hblk := HBX.out.bel HBE.out;have hw0 := HB0.out.size;obtain ⟨j0, j1⟩ := blk2 hblk;have z0 := hblk.soft 0;have z1 := hblk.soft 1;obtain ⟨i0, i1⟩ := blk2 (HC4.out.bel HCUR.out);go_wp2_with fail
    obtain ⟨hblk2, hgr⟩ := blk2_set hblk (.int .i64 0) (.int .i64 0);generalize (W9.setCell ⟨w.heap.size + 1, 0, none⟩ (.int .i64 0)).setCell ⟨w.heap.size + 1, 1, none⟩ (.int .i64 0) = w9 at hblk2 hgr ⊢;obtain ⟨d0, d1⟩ := blk2 hblk2;refine bodyPost_ret (v := .tuple #[.agg #[.int .i64 0, .int .i64 0], .bool false]) (by simp [results, Tryz.results79, go_sem, d0, d1]) rfl ?_;rw [HTK.out];exact ⟨rfl, (HB0.out.trans (HBE.out.mono (by omega))).trans (gr_below hgr (by omega) fun b hb => by injection hb with hb; omega)⟩
  | true =>
    have htk : balTake x = if r = true then some (R0, R1) else none := by rw [HTK0.out]; simp
    have HTK := hid htk;have HCUR := hid (Below.drew (Below.refl wc.heap.size wc));have hit := HIT.out rfl;replace HIT := hid hit;clear htk hit y0 y1 x0 x1 x2 x3;go_wp2_with fail
    go_region_held3 (fun w' => w'.cell? ⟨p, 0, none⟩ = some (.int .i64 R0) ∧ w'.cell? ⟨p, 1, none⟩ = some (.int .i64 R1) ∧ w'.cell? ⟨w.heap.size, 0, none⟩ = some (.int .i64 x.kind) ∧ w'.cell? ⟨w.heap.size, 1, none⟩ = some (.int .u64 (x.num : Int)) ∧ w'.cell? ⟨w.heap.size, 2, none⟩ = some (.string x.str) ∧ w'.cell? ⟨w.heap.size, 3, none⟩ = some (.slice (some ⟨g, o, none⟩) 2 c)) (with_reducible exact held6 HC4.out HX2.out HCUR.out)
     (first
     | (go_at_call 54
        refine (HCK.out _).mono ?_;rintro e v1 ⟨rfl, hb1⟩;have hnow := HCUR.out.trans (hb1.mono HCUR.out.size);replace HCUR := hid hnow;clear HCK hb1 hnow)
     | (go_at_call 62
        refine (HIT.out _).mono ?_;rintro e v1 ⟨V1, k1, rfl, hl1, hb1⟩;have hnow := HCUR.out.trans (hb1.mono HCUR.out.size);have hsn := hnow.size;have hlx := (HL2.out.below hnow fun b hb => by have := HSS.out b hb; omega).more (S' := fun b => b < v1.heap.size) fun b hb _ => (by have := HSS.out b hb; omega);have hsm := HSM.out v1 y V1 k1 (hl1.more fun b hb _ => hb.2) hlx;rw [HRS.out] at hsm;replace HCUR := hid hnow;replace HSM := hid hsm;clear HIT hb1 hnow hl1 hlx hsm hsn)
     | (go_at_call 35
        refine HSM.out.mono ?_;rintro e v2 ⟨rfl, hb1⟩;have hnow := HCUR.out.trans (hb1.mono HCUR.out.size);replace HCUR := hid hnow;clear HSM hb1 hnow))
    replace HBE := hid (bel_trans HBE.out HCUR.out);cases r
    case false =>
     have hs9 := HBE.out.size;have hblk := HBX.out.bel HBE.out;have hw0 := HB0.out.size;obtain ⟨j0, j1⟩ := blk2 hblk;have z0 := hblk.soft 0;have z1 := hblk.soft 1;obtain ⟨i0, i1⟩ := blk2 (HC4.out.bel HCUR.out);go_wp2_with fail
     obtain ⟨hblk2, hgr⟩ := blk2_set hblk (.int .i64 0) (.int .i64 0);generalize (v2.setCell ⟨w.heap.size + 1, 0, none⟩ (.int .i64 0)).setCell ⟨w.heap.size + 1, 1, none⟩ (.int .i64 0) = w9 at hblk2 hgr ⊢;obtain ⟨d0, d1⟩ := blk2 hblk2;refine bodyPost_ret (v := .tuple #[.agg #[.int .i64 0, .int .i64 0], .bool false]) (by simp [results, Tryz.results79, go_sem, d0, d1]) rfl ?_;rw [HTK.out];exact ⟨rfl, (HB0.out.trans (HBE.out.mono (by omega))).trans (gr_below hgr (by omega) fun b hb => by injection hb with hb; omega)⟩
    case true =>
     have hs9 := HBE.out.size;have hblk := HBX.out.bel HBE.out;have hw0 := HB0.out.size;obtain ⟨j0, j1⟩ := blk2 hblk;have z0 := hblk.soft 0;have z1 := hblk.soft 1;obtain ⟨i0, i1⟩ := blk2 (HC4.out.bel HCUR.out);go_wp2_with fail
     obtain ⟨hblk2, hgr⟩ := blk2_set hblk (.int .i64 R0) (.int .i64 R1);generalize (v2.setCell ⟨w.heap.size + 1, 0, none⟩ (.int .i64 R0)).setCell ⟨w.heap.size + 1, 1, none⟩ (.int .i64 R1) = w9 at hblk2 hgr ⊢;obtain ⟨d0, d1⟩ := blk2 hblk2;refine bodyPost_ret (v := .tuple #[.agg #[.int .i64 R0, .int .i64 R1], .bool true]) (by simp [results, Tryz.results79, go_sem, d0, d1]) rfl ?_;rw [HTK.out];exact ⟨rfl, (HB0.out.trans (HBE.out.mono (by omega))).trans (gr_below hgr (by omega) fun b hb => by injection hb with hb; omega)⟩
end Go.Proofs.YthlhchaoedcdbaaGreatDoor.Bal
