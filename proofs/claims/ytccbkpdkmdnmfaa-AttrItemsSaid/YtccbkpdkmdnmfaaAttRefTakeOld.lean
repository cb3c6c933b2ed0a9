/-
  The document's TakeOld of any item.
-/
import Derived.Test.YtccbkpdkmdnmfaaAttRefTake
namespace Go.Proofs.Ytccbkpdkmdnmfaa
open Go.RowKit Mem Ids Att Cod


set_option maxRecDepth 100000 in
set_option maxHeartbeats 8000000 in
theorem refoldtake_any (x : It) (A : Option Addr) (c : Nat) (S : Nat → Prop) (w : World) (hx : Lies w S x A c) (hS : ∀ b, S b → b < w.heap.size) :
    Calls Try.prog 23 #[.agg #[.int .i64 x.kind, .int .u64 (x.num : Int), .string x.str, .slice A x.kids.length c]] w (TakesAt w (oldTake x)) := by
  have hsm := fun (W : World) (y : It) (V1 : Option Addr) (c1 : Nat) (h1 : Lies W (fun b => b < W.heap.size) x A c) (h2 : Lies W (fun b => b < W.heap.size) y V1 c1) => refsame_item x y A V1 c c1 _ W h1 h2 (fun b hb => hb)
  obtain ⟨W, hW⟩ : ∃ W, (w.alloc (.cells #[.int .i64 x.kind, .int .u64 (x.num : Int), .string x.str, .slice A x.kids.length c] 37)).alloc (.cells #[.slice none 0 0, .int .i64 0, .int .i64 0] 24) = W := ⟨_, rfl⟩
  obtain ⟨k1, k2, kb, hsW⟩ := two_kinds w _ _ _ _ W hW
  have HK3 := Lib.hid k2
  have HBW := Lib.hid kb
  have HLX := Lib.hid (hx.below kb hS)
  have HSS := Lib.hid hS
  have HW := Lib.hid hW
  have hck := hx.bounds.2.2.2.2
  by_cases hn : x.kids.length = 2
  case neg =>
    have hR : oldTake x = none := old_short hn
    have HR := Lib.hid hR
    have b1 : ((x.kids.length : Int) != 2) = true := bne_iff_ne.2 fun h => hn (by omega)
    obtain ⟨p0, p1, p2, p3⟩ := blk4 k1
    clear hR hn k1 k2 kb hx hS hW hsm
    generalize x.kids.length = m at *
    go_enter Try.func23, Try.ntmps23
    go_upto_region 1 with fail
    rw [HW.out]
    clear HW
    obtain ⟨z0, z1, z2⟩ := blk3 HK3.out
    have f0 := HK3.out.soft 0
    have f1 := HK3.out.soft 1
    have f2 := HK3.out.soft 2
    go_wp2_with fail
    obtain ⟨hk9, hb9⟩ := blk3_set HK3.out HBW.out (by omega) (.slice none 0 0) (.int .i64 0) (.int .i64 0)
    generalize (((W.setCell ⟨w.heap.size + 1, 0, none⟩ (.slice none 0 0)).setCell ⟨w.heap.size + 1, 1, none⟩ (.int .i64 0)).setCell ⟨w.heap.size + 1, 2, none⟩ (.int .i64 0)) = w9 at hk9 hb9 ⊢
    obtain ⟨d0, d1, d2⟩ := blk3 hk9
    refine bodyPost_ret (v := .tuple #[.agg #[.slice none 0 0, .int .i64 0, .int .i64 0], .bool false]) (by simp [results, Try.results23, go_sem, d0, d1, d2]) rfl ?_
    rw [HR.out]
    exact ⟨none, 0, 0, rfl, Rs.nil_ _, hb9, fun _ _ h => by cases h⟩
  obtain ⟨s, d, hk⟩ : ∃ s d, x.kids = [s, d] := by
    match x.kids, hn with
    | [s, d], _ => exact ⟨s, d, rfl⟩
  obtain ⟨g, o, A1, c1, A2, c2, rfl, hSg, hg, f1, f2, l1, l2⟩ := kids2 HLX.out hk
  have hbs : ∀ y ∈ x.kids, y.num ≤ 18446744073709551615 := by
    intro y hy
    rw [hk] at hy
    simp only [List.mem_cons, List.not_mem_nil, or_false] at hy
    rcases hy with rfl | rfl
    · exact l1.bounds.2.2.1
    · exact l2.bounds.2.2.1
  have hR := old_ref hbs hk
  have HI1 := Lib.hid (fun w => refint_any s A1 c1 w l1.bounds.2.2.1)
  have HT := Lib.hid (fun w (h : Lies w S d A2 c2) (hS : ∀ b, S b → b < w.heap.size) => reftake_new d A2 c2 S w h hS)
  generalize takeOf d = T at hR HT
  generalize capOf s.num = S1 at hR HI1
  have hgw := HSS.out g hSg
  rw [hn] at k1 HW hsm ⊢
  have HX := Lib.hid k1
  have HR0 := Lib.hid hR
  have HSM := Lib.hid hsm
  have HL2 := Lib.hid l2
  have HF1 := Lib.hid f1
  obtain ⟨n0, n1, n2, n3⟩ := f2
  obtain ⟨p0, p1, p2, p3⟩ := blk4 k1
  clear hR hbs hk l1 l2 f1 k1 k2 kb hx hS hW hsm hn hck
  go_enter Try.func23, Try.ntmps23
  go_upto_region 1 with fail
  rw [HW.out]
  clear HW
  go_wp2_with fail
  refine (HT.out _ HL2.out fun b hb => by have := HSS.out b hb; omega).mono ?_
  rintro e w1 ⟨V, n, cc, l, b, rfl, hrs, hl, hb, hb1, hnew⟩
  have hs1 := hb1.size
  have HRS := Lib.hid hrs
  have HNEW := Lib.hid (show ∀ g o, V = some ⟨g, o, none⟩ → W.heap.size ≤ g from hnew)
  have hR := HR0.out
  rw [← hl, ← hb] at hR
  replace HR0 := Lib.hid hR
  replace HX := Lib.hid (HX.out.bel hb1)
  replace HK3 := Lib.hid (HK3.out.bel hb1)
  replace HBW := Lib.hid (bel_trans HBW.out hb1)
  replace HLX := Lib.hid (HLX.out.below hb1 fun b hb => by have := HSS.out b hb; omega)
  replace HF1 := Lib.hid (HF1.out.bel (by omega) hb1)
  clear hR hb1 hnew hrs hl hb HT HL2 n0 n1 n2 n3 p0 p1 p2 p3
  have hg1 : g < w1.heap.size := by omega
  have hw1 : w.heap.size + 2 ≤ w1.heap.size := by omega
  obtain ⟨x0, x1, x2, x3⟩ := blk4 HX.out
  obtain ⟨s0, s1, s2, s3⟩ := HF1.out
  go_upto_region 4 with fail
  go_cut [6] from 20 (RtkCut w1 #[.slice V n cc, .int .i64 S1, .int .i64 1])
  case first =>
    go_wp2_with fail
    refine (HI1.out _).mono ?_
    rintro e w2 ⟨rfl, hb2⟩
    have HB2 := Lib.hid hb2
    clear hb2
    go_wp2_with fail
    go_meet
    case rel => exact rtk_new HB2.out
  case rest =>
  clear HI1 HF1 x0 x1 x2 x3 s0 s1 s2 s3
  obtain ⟨p, rfl, hpW, hc4, hbe⟩ := hcut
  have HC4 := Lib.hid hc4
  have hsx := hbe.size
  replace HX := Lib.hid (HX.out.bel hbe)
  replace HK3 := Lib.hid (HK3.out.bel hbe)
  replace HBW := Lib.hid (bel_trans HBW.out hbe)
  replace HLX := Lib.hid (HLX.out.below hbe fun b hb => by have := HSS.out b hb; omega)
  replace HRS := Lib.hid (HRS.out.below hbe)
  have hck := fun w (h : Rs w V n cc l) => refacheck_any l S1 1 V n cc w h
  have hit := fun (hc : achk ⟨l, S1, 1⟩ = 0) w (h : Rs w V n cc l) => refattold_any l S1 1 V n cc w h hc
  obtain ⟨ca, hca⟩ : ∃ z, achk ⟨l, S1, 1⟩ = z := ⟨_, rfl⟩
  have hR := HR0.out
  rw [hca] at hck hit hR
  obtain ⟨y, hy⟩ : ∃ y, oldIt ⟨l, S1, 1⟩ = y := ⟨_, rfl⟩
  rw [hy] at hit hR
  obtain ⟨r, hr⟩ : ∃ r, same x y = r := ⟨_, rfl⟩
  rw [hr] at hR
  replace HR0 := Lib.hid hR
  have HCK := Lib.hid hck
  have HIT := Lib.hid hit
  have HSR := Lib.hid hr
  obtain ⟨x0, x1, x2, x3⟩ := blk4 HX.out
  obtain ⟨y0, y1, y2⟩ := blk3 hc4
  clear hR hck hit hca hy hr hbe hc4
  cases b with
  | false =>
    have HR := Lib.hid (show oldTake x = none by rw [HR0.out, if_neg (by rintro ⟨h, _⟩; cases h)])
    clear HR0 HCK HIT HSM HSR x0 x1 x2 x3 y0 y1 y2
    go_wp2_with fail
    refine wp_region_bel (by kernel_rfl) (by kernel_rfl) ?_
    repeat (first | ((with_reducible refine wpQuiet_skip ?_ ?_); (focus rfl); simp only [Act.put, List.setIfInBounds_toArray, List.set_cons_zero, List.set_cons_succ]) | ((with_reducible refine wpQuiet_step (fun K hK => ?_)); go_simp; (with_reducible refine hK _ ?_); clear hK K))
    with_reducible refine wpQuiet_nil ?_
    intro W9 hw'
    obtain ⟨p9, hp9⟩ := hw'
    have hW9 := p9.h
    rw [← hp9] at hW9
    clear hp9 p9
    replace HK3 := Lib.hid (HK3.out.bel hW9)
    replace HBW := Lib.hid (bel_trans HBW.out hW9)
    clear hW9
    obtain ⟨z0, z1, z2⟩ := blk3 HK3.out
    have f0 := HK3.out.soft 0
    have f1 := HK3.out.soft 1
    have f2 := HK3.out.soft 2
    go_wp2_with fail
    obtain ⟨hk9, hb9⟩ := blk3_set HK3.out HBW.out (by omega) (.slice none 0 0) (.int .i64 0) (.int .i64 0)
    generalize (((W9.setCell ⟨w.heap.size + 1, 0, none⟩ (.slice none 0 0)).setCell ⟨w.heap.size + 1, 1, none⟩ (.int .i64 0)).setCell ⟨w.heap.size + 1, 2, none⟩ (.int .i64 0)) = w9 at hk9 hb9 ⊢
    obtain ⟨d0, d1, d2⟩ := blk3 hk9
    refine bodyPost_ret (v := .tuple #[.agg #[.slice none 0 0, .int .i64 0, .int .i64 0], .bool false]) (by simp [results, Try.results23, go_sem, d0, d1, d2]) rfl ?_
    rw [HR.out]
    exact ⟨none, 0, 0, rfl, Rs.nil_ _, hb9, fun _ _ h => by cases h⟩
  | true =>
  by_cases h0 : ca = 0
  case neg =>
    have hn0 : (ca != 0) = true := bne_iff_ne.2 h0
    have HR := Lib.hid (show oldTake x = none by rw [HR0.out, if_neg fun h => h0 h.2.1])
    have y0' : ∀ q : BelBy wc, q.W.cell? ⟨p, 0, none⟩ = some (.slice V n cc) := fun q => q.cell HC4.out.lt y0
    have y1' : ∀ q : BelBy wc, q.W.cell? ⟨p, 1, none⟩ = some (.int .i64 S1) := fun q => q.cell HC4.out.lt y1
    have y2' : ∀ q : BelBy wc, q.W.cell? ⟨p, 2, none⟩ = some (.int .i64 1) := fun q => q.cell HC4.out.lt y2
    clear HR0 HIT HSM HSR h0 x0 x1 x2 x3 y0 y1 y2
    go_wp2_with fail
    refine wp_region_bel (by kernel_rfl) (by kernel_rfl) ?_
    repeat (first | ((with_reducible refine wpQuiet_skip ?_ ?_); (focus rfl); simp only [Act.put, List.setIfInBounds_toArray, List.set_cons_zero, List.set_cons_succ]) | ((with_reducible refine wpQuiet_step (fun K hK => ?_)); go_simp; (with_reducible refine hK _ ?_); clear hK K))
    with_reducible refine wpQuiet_step (fun K hK => ?_)
    go_simp
    apply Exists.intro
    refine ⟨fun _ => ?_, hK _ ?_⟩
    exact Calls.bel_of (HCK.out _ (HRS.out.below (BelBy.h _)))
    clear hK K
    repeat (first | ((with_reducible refine wpQuiet_skip ?_ ?_); (focus rfl); simp only [Act.put, List.setIfInBounds_toArray, List.set_cons_zero, List.set_cons_succ]) | ((with_reducible refine wpQuiet_step (fun K hK => ?_)); go_simp; (with_reducible refine hK _ ?_); clear hK K))
    with_reducible refine wpQuiet_nil ?_
    intro W9 hw'
    obtain ⟨p9, hp9⟩ := hw'
    have hW9 := p9.h
    rw [← hp9] at hW9
    clear hp9 p9
    replace HK3 := Lib.hid (HK3.out.bel hW9)
    replace HBW := Lib.hid (bel_trans HBW.out hW9)
    clear hW9 y0' y1' y2'
    obtain ⟨z0, z1, z2⟩ := blk3 HK3.out
    have f0 := HK3.out.soft 0
    have f1 := HK3.out.soft 1
    have f2 := HK3.out.soft 2
    go_wp2_with fail
    obtain ⟨hk9, hb9⟩ := blk3_set HK3.out HBW.out (by omega) (.slice none 0 0) (.int .i64 0) (.int .i64 0)
    generalize (((W9.setCell ⟨w.heap.size + 1, 0, none⟩ (.slice none 0 0)).setCell ⟨w.heap.size + 1, 1, none⟩ (.int .i64 0)).setCell ⟨w.heap.size + 1, 2, none⟩ (.int .i64 0)) = w9 at hk9 hb9 ⊢
    obtain ⟨d0, d1, d2⟩ := blk3 hk9
    refine bodyPost_ret (v := .tuple #[.agg #[.slice none 0 0, .int .i64 0, .int .i64 0], .bool false]) (by simp [results, Try.results23, go_sem, d0, d1, d2]) rfl ?_
    rw [HR.out]
    exact ⟨none, 0, 0, rfl, Rs.nil_ _, hb9, fun _ _ h => by cases h⟩
  case pos =>
    subst h0
    have hR : oldTake x = if r = true then some ⟨l, S1, 1⟩ else none := by rw [HR0.out]; simp
    have HR := Lib.hid hR
    have hit := HIT.out rfl
    replace HIT := Lib.hid hit
    have HCUR := Lib.hid (Below.drew (Below.refl wc.heap.size wc))
    clear hR hit HR0 x0 x1 x2 x3 y0 y1 y2
    go_wp2_with fail
    go_region_held3 (fun w' => w'.cell? ⟨p, 0, none⟩ = some (.slice V n cc) ∧ w'.cell? ⟨p, 1, none⟩ = some (.int .i64 S1) ∧ w'.cell? ⟨p, 2, none⟩ = some (.int .i64 1) ∧ w'.cell? ⟨w.heap.size, 0, none⟩ = some (.int .i64 x.kind) ∧ w'.cell? ⟨w.heap.size, 1, none⟩ = some (.int .u64 (x.num : Int)) ∧ w'.cell? ⟨w.heap.size, 2, none⟩ = some (.string x.str) ∧ w'.cell? ⟨w.heap.size, 3, none⟩ = some (.slice (some ⟨g, o, none⟩) 2 c)) (with_reducible exact held7 HC4.out HX.out HCUR.out)
      (first
      | (go_at_call 11
         refine (HCK.out _ (HRS.out.below HCUR.out)).mono ?_
         rintro e v1 ⟨rfl, hb1⟩
         have hnow := HCUR.out.trans (hb1.mono HCUR.out.size)
         replace HCUR := Lib.hid hnow
         clear HCK hb1 hnow)
      | (go_at_call 21
         refine (HIT.out _ (HRS.out.below HCUR.out)).mono ?_
         rintro e v1 ⟨V1, k1, rfl, hl1, hb1⟩
         have hnow := HCUR.out.trans (hb1.mono HCUR.out.size)
         have hsn := hnow.size
         have hlx := (HLX.out.below hnow fun b hb => by have := HSS.out b hb; omega).more (S' := fun b => b < v1.heap.size) fun b hb _ => by have := HSS.out b hb; omega
         have hsm := HSM.out v1 y V1 k1 hlx (hl1.more fun b hb _ => hb.2)
         rw [HSR.out] at hsm
         replace HCUR := Lib.hid hnow
         replace HSM := Lib.hid hsm
         clear HIT hb1 hnow hl1 hlx hsm hsn)
      | (go_at_call 44
         refine HSM.out.mono ?_
         rintro e v2 ⟨rfl, hb1⟩
         have hnow := HCUR.out.trans (hb1.mono HCUR.out.size)
         replace HCUR := Lib.hid hnow
         clear HSM hb1 hnow))
    replace HK3 := Lib.hid (HK3.out.bel HCUR.out)
    replace HC4 := Lib.hid (HC4.out.bel HCUR.out)
    replace HBW := Lib.hid (bel_trans HBW.out HCUR.out)
    replace HRS := Lib.hid (HRS.out.below HCUR.out)
    cases r with
    | false =>
      have hR : oldTake x = none := HR.out
      replace HR := Lib.hid hR
      clear hR
      obtain ⟨z0, z1, z2⟩ := blk3 HK3.out
      have f0 := HK3.out.soft 0
      have f1 := HK3.out.soft 1
      have f2 := HK3.out.soft 2
      go_wp2_with fail
      obtain ⟨hk9, hb9⟩ := blk3_set HK3.out HBW.out (by omega) (.slice none 0 0) (.int .i64 0) (.int .i64 0)
      generalize (((v2.setCell ⟨w.heap.size + 1, 0, none⟩ (.slice none 0 0)).setCell ⟨w.heap.size + 1, 1, none⟩ (.int .i64 0)).setCell ⟨w.heap.size + 1, 2, none⟩ (.int .i64 0)) = w9 at hk9 hb9 ⊢
      obtain ⟨d0, d1, d2⟩ := blk3 hk9
      refine bodyPost_ret (v := .tuple #[.agg #[.slice none 0 0, .int .i64 0, .int .i64 0], .bool false]) (by simp [results, Try.results23, go_sem, d0, d1, d2]) rfl ?_
      rw [HR.out]
      exact ⟨none, 0, 0, rfl, Rs.nil_ _, hb9, fun _ _ h => by cases h⟩
    | true =>
      have hR : oldTake x = some ⟨l, S1, 1⟩ := HR.out
      replace HR := Lib.hid hR
      clear hR
      obtain ⟨y0, y1, y2⟩ := blk3 HC4.out
      obtain ⟨z0, z1, z2⟩ := blk3 HK3.out
      have f0 := HK3.out.soft 0
      have f1 := HK3.out.soft 1
      have f2 := HK3.out.soft 2
      go_wp2_with fail
      have hrs := Rs.set3n (r := w.heap.size + 1) HRS.out HNEW.out (by omega) (.slice V n cc) (.int .i64 S1) (.int .i64 1)
      obtain ⟨hk9, hb9⟩ := blk3_set HK3.out HBW.out (by omega) (.slice V n cc) (.int .i64 S1) (.int .i64 1)
      generalize (((v2.setCell ⟨w.heap.size + 1, 0, none⟩ (.slice V n cc)).setCell ⟨w.heap.size + 1, 1, none⟩ (.int .i64 S1)).setCell ⟨w.heap.size + 1, 2, none⟩ (.int .i64 1)) = w9 at hk9 hb9 hrs ⊢
      obtain ⟨d0, d1, d2⟩ := blk3 hk9
      refine bodyPost_ret (v := .tuple #[.agg #[.slice V n cc, .int .i64 S1, .int .i64 1], .bool true]) (by simp [results, Try.results23, go_sem, d0, d1, d2]) rfl ?_
      rw [HR.out]
      exact ⟨V, n, cc, rfl, hrs, hb9, fun g o e => by have := HNEW.out g o e; omega⟩
end Go.Proofs.Ytccbkpdkmdnmfaa
