/-
  Texts of earlier layers, as one.
-/
import Derived.Test.YtjfpfbagckckkaaGreatDoorMsgReadSteps
import Derived.Test.YtjfpfbagckckkaaGreatDoorRAttT
import Derived.Test.YtjfpfbagckckkaaGreatDoorRCmdT
import Derived.Test.YtjfpfbagckckkaaGreatDoorRBalRT
import Derived.Deep.Cut
import Derived.Deep.RegionHeld
/- The document's Read of an item, in the new form. -/
namespace Go.Proofs.YtjfpfbagckckkaaGreatDoor.Mg
open Go.RowKit Mem Ids Att Cod Rk
set_option maxRecDepth 100000 in
set_option maxHeartbeats 16000000 in
theorem refread_any (x : It) (A : Option Addr) (c : Nat) (S : Nat → Prop) (w : World) (hl : Lies w S x A c) (hS : ∀ b, S b → b < w.heap.size) (hks : ∀ i, (Cmd.kid (atOf x i) 3).str.size ≤ 1073741824) :
 Calls Tryz.prog 47 #[.agg #[.int .i64 x.kind, .int .u64 (x.num : Int), .string x.str, .slice A x.kids.length c], .bool false] w (ReadsMg w (readMg attTake x)) := by
 obtain ⟨n, hn⟩ : ∃ n, x.kids.length = n := ⟨_, rfl⟩
 obtain ⟨W, hW⟩ : ∃ W, (w.alloc (.cells #[.int .i64 x.kind, .int .u64 (x.num : Int), .string x.str, .slice A x.kids.length c] 48)).alloc (.cells #[.int .i64 0, .int .i64 0, .int .i64 0, .int .i64 0, .int .i64 0, .int .i64 0, .int .i64 0, .int .i64 0, .int .i64 0, .int .i64 0, .int .i64 0, .string ⟨#[]⟩, .string ⟨#[]⟩, .int .i64 0, .slice none 0 0, .int .i64 0, .int .i64 0, .int .i64 0] 32) = W := ⟨_, rfl⟩
 obtain ⟨k1, k2, kb, hsW⟩ := two_kinds w _ _ _ _ W hW
 have hat := fun (v : World) (hb : Below W.heap.size W v) (i : Nat) => refat_any x A c S v i ((hl.below kb hS).below hb (fun b hb => by have := hS b hb; omega)) (fun b h => by have := hS b h; have := hb.size; omega)
 rw [hn] at k1 hat hW ⊢
 have HX := Lib.hid k1
 have HZ := Lib.hid k2
 have HB := Lib.hid kb
 have HW := Lib.hid hW
 have HSW := Lib.hid hsW
 have HKS := Lib.hid hks
 have HAT := Lib.hid hat
 have HSS := Lib.hid (fun (v : World) (hb : Below W.heap.size W v) b (h : S b) => show b < v.heap.size by have := hS b h; have := hb.size; omega)
 clear hl hS hks k1 k2 kb hW hsW hat hn
 go_enter Tryz.func47, Tryz.ntmps47
 go_upto_region 1 with fail
 rw [HW.out]
 obtain ⟨x0, x1, x2, x3⟩ := blk4 HX.out
 go_wp2_with fail
 refine (HAT.out _ (Below.refl _ _) 0).mono ?_
 rintro e u0 ⟨A0, c0, rfl, _, hb0⟩
 obtain ⟨y0, hy0⟩ : ∃ y, atOf x 0 = y := ⟨_, rfl⟩
 rw [hy0]
 go_wp2_with fail
 refine (Cw.refint_any y0.kind y0.num y0.str A0 y0.kids.length c0 _).mono ?_
 rintro e u1 ⟨rfl, hb1⟩
 obtain ⟨v0, hv0⟩ : ∃ v, Cmd.cap y0.num = v := ⟨_, rfl⟩
 rw [hv0]
 rw [← hy0] at hv0
 clear x0 x1 x2 x3 hy0
 have hbk := Blk.new u1 32 #[.int .i64 v0, .int .i64 0, .int .i64 0, .int .i64 0, .int .i64 0, .int .i64 0, .int .i64 0, .int .i64 0, .int .i64 0, .int .i64 0, .int .i64 0, .string ⟨#[]⟩, .string ⟨#[]⟩, .int .i64 0, .slice none 0 0, .int .i64 0, .int .i64 0, .int .i64 0]
 have hbb := bel_alloc (bel_trans hb0 hb1) (.cells #[.int .i64 v0, .int .i64 0, .int .i64 0, .int .i64 0, .int .i64 0, .int .i64 0, .int .i64 0, .int .i64 0, .int .i64 0, .int .i64 0, .int .i64 0, .string ⟨#[]⟩, .string ⟨#[]⟩, .int .i64 0, .slice none 0 0, .int .i64 0, .int .i64 0, .int .i64 0] 32)
 obtain ⟨p, hp⟩ : ∃ p, u1.heap.size = p := ⟨_, rfl⟩
 have hpW : W.heap.size ≤ p := by have := hb0.size; have := hb1.size; omega
 obtain ⟨X0, hX⟩ : ∃ v, u1.alloc (.cells #[.int .i64 v0, .int .i64 0, .int .i64 0, .int .i64 0, .int .i64 0, .int .i64 0, .int .i64 0, .int .i64 0, .int .i64 0, .int .i64 0, .int .i64 0, .string ⟨#[]⟩, .string ⟨#[]⟩, .int .i64 0, .slice none 0 0, .int .i64 0, .int .i64 0, .int .i64 0] 32) = v := ⟨_, rfl⟩
 rw [hX] at hbk hbb
 rw [hp] at hbk
 have HG := Lib.hid (show InvR W p #[.int .i64 v0, .int .i64 0, .int .i64 0, .int .i64 0, .int .i64 0, .int .i64 0, .int .i64 0, .int .i64 0, .int .i64 0, .int .i64 0, .int .i64 0, .string ⟨#[]⟩, .string ⟨#[]⟩, .int .i64 0, .slice none 0 0, .int .i64 0, .int .i64 0, .int .i64 0] none 0 0 [] X0 from ⟨hbk, Rs.nil_ _, (fun _ _ e => by cases e), hbb⟩)
 have HM0 := Lib.hid (show (⟨v0, (0, 0), (0, 0), (0, 0), 0, ⟨0, 0, 0, ⟨#[]⟩, ⟨#[]⟩, 0⟩, ⟨[], 0, 0⟩, 0⟩ : Mg) = mg0 (Cmd.cap (atOf x 0).num) from by rw [hv0]; rfl)
 have HPM := Lib.hid hpW
 have HXE := Lib.hid hX
 have HPE := Lib.hid hp
 clear hbk hbb hpW hX hp hb0 hb1 hv0
 go_upto_region 3 with fail
 rw [HXE.out, HPE.out]
 clear HXE HPE
 obtain ⟨t0, ht0⟩ : ∃ t, hId ⟨v0, (0, 0), (0, 0), (0, 0), 0, ⟨0, 0, 0, ⟨#[]⟩, ⟨#[]⟩, 0⟩, ⟨[], 0, 0⟩, 0⟩ = t := ⟨_, rfl⟩
 have CT := fun w => id_any v0 0 0 0 0 0 0 0 0 0 0 ⟨#[]⟩ ⟨#[]⟩ 0 none 0 0 0 0 0 [] w
 rw [ht0] at CT
 have HCT := Lib.hid CT
 have HT0 := Lib.hid ht0
 clear CT ht0
 go_cut [22] from 7 (fun cv wx => cv = .bool t0 ∧ InvR W p #[.int .i64 v0, .int .i64 0, .int .i64 0, .int .i64 0, .int .i64 0, .int .i64 0, .int .i64 0, .int .i64 0, .int .i64 0, .int .i64 0, .int .i64 0, .string ⟨#[]⟩, .string ⟨#[]⟩, .int .i64 0, .slice none 0 0, .int .i64 0, .int .i64 0, .int .i64 0] none 0 0 [] wx)
 case first =>
  as_aux_lemma =>
   have hbk : Blk X0 p 32 #[.int .i64 v0, .int .i64 0, .int .i64 0, .int .i64 0, .int .i64 0, .int .i64 0, .int .i64 0, .int .i64 0, .int .i64 0, .int .i64 0, .int .i64 0, .string ⟨#[]⟩, .string ⟨#[]⟩, .int .i64 0, .slice none 0 0, .int .i64 0, .int .i64 0, .int .i64 0] := HG.out.1
   have HBK := Lib.hid hbk
   clear hbk
   go_wp2_with (with_reducible refine wpList_load_blk_w 32 _ rfl p 32 #[.int .i64 v0, .int .i64 0, .int .i64 0, .int .i64 0, .int .i64 0, .int .i64 0, .int .i64 0, .int .i64 0, .int .i64 0, .int .i64 0, .int .i64 0, .string ⟨#[]⟩, .string ⟨#[]⟩, .int .i64 0, .slice none 0 0, .int .i64 0, .int .i64 0, .int .i64 0] _ ?_ ?_ HBK.out Tryz.underlying32 ?_ ?_ ?_; (focus kernel_rfl); (focus kernel_rfl); (focus rfl); (focus kernel_rfl))
   refine (HCT.out _).mono ?_
   rintro e uu1 ⟨rfl, hb1⟩
   go_wp2_with fail
   go_meet
   case rel => exact ⟨rfl, HG.out.bel hb1⟩
 case rest =>
  obtain ⟨rfl, hG⟩ := hcut
  clear HG HCT
  generalize wc = Wy0 at hG ⊢
  have HG := Lib.hid hG
  clear hG
  go_upto_if 22 with fail
  go_cut [6] from 7 (fun kv wx => ∃ (R1 : Int) (N1 : Int) (k1 : Nat), kv = .int .i64 (k1 : Int) ∧ (rd1 x ⟨v0, (0, 0), (0, 0), (0, 0), 0, ⟨0, 0, 0, ⟨#[]⟩, ⟨#[]⟩, 0⟩, ⟨[], 0, 0⟩, 0⟩ = ⟨v0, (R1, N1), (0, 0), (0, 0), 0, ⟨0, 0, 0, ⟨#[]⟩, ⟨#[]⟩, 0⟩, ⟨[], 0, 0⟩, 0⟩ ∧ rk1 ⟨v0, (0, 0), (0, 0), (0, 0), 0, ⟨0, 0, 0, ⟨#[]⟩, ⟨#[]⟩, 0⟩, ⟨[], 0, 0⟩, 0⟩ = k1) ∧ k1 ≤ 3 ∧ InvR W p #[.int .i64 v0, .int .i64 R1, .int .i64 N1, .int .i64 0, .int .i64 0, .int .i64 0, .int .i64 0, .int .i64 0, .int .i64 0, .int .i64 0, .int .i64 0, .string ⟨#[]⟩, .string ⟨#[]⟩, .int .i64 0, .slice none 0 0, .int .i64 0, .int .i64 0, .int .i64 0] none 0 0 [] wx)
  case first =>
   cases t0 with
   | false =>
     go_wp2_with fail
     go_meet
     case rel => exact ⟨0, 0, 1, rfl, rd1_no (m := ⟨v0, (0, 0), (0, 0), (0, 0), 0, ⟨0, 0, 0, ⟨#[]⟩, ⟨#[]⟩, 0⟩, ⟨[], 0, 0⟩, 0⟩) HT0.out, by omega, HG.out⟩
   | true =>
     replace HG := Lib.hid HG.out.drew
     obtain ⟨v1, hv1⟩ : ∃ v, Cmd.cap (atOf x 1).num = v := ⟨_, rfl⟩
     obtain ⟨v2, hv2⟩ : ∃ v, Cmd.cap (atOf x 2).num = v := ⟨_, rfl⟩
     have HVv1 := Lib.hid hv1
     have HVv2 := Lib.hid hv2
     clear hv1 hv2
     go_upto_region 4 with fail
     refine wp_region_held_drew (S := (fun w' => Blk w' w.heap.size 48 #[.int .i64 x.kind, .int .u64 (x.num : Int), .string x.str, .slice A n c])) (by kernel_rfl) (by with_reducible exact HX.out.bel HG.out.low) (fun hHeld => ?_)
     refine held_take (i := 0) (d := 23) (v := (.agg #[.int .i64 x.kind, .int .u64 (x.num : Int), .string x.str, .slice A n c])) rfl rfl (by kernel_rfl) (by kernel_rfl) (by kernel_rfl) (fun _ _ _ h => h) (by kernel_rfl) (run_load_blk 48 (.tmp 2) rfl w.heap.size 48 #[.int .i64 x.kind, .int .u64 (x.num : Int), .string x.str, .slice A n c] _ rfl (fun _ h => h) Tryz.underlying48 rfl (by kernel_rfl)) hHeld ?_
     try simp only [List.setIfInBounds_toArray, List.set_cons_zero, List.set_cons_succ]
     refine held_take (i := 3) (d := 26) (v := (.agg #[.int .i64 x.kind, .int .u64 (x.num : Int), .string x.str, .slice A n c])) rfl rfl (by kernel_rfl) (by kernel_rfl) (by kernel_rfl) (fun _ _ _ h => h) (by kernel_rfl) (run_load_blk 48 (.tmp 2) rfl w.heap.size 48 #[.int .i64 x.kind, .int .u64 (x.num : Int), .string x.str, .slice A n c] _ rfl (fun _ h => h) Tryz.underlying48 rfl (by kernel_rfl)) hHeld ?_
     try simp only [List.setIfInBounds_toArray, List.set_cons_zero, List.set_cons_succ]
     refine wpAnyH_ready (rs := [1]) (by kernel_rfl) (by simp) ?_
     refine AllReadyH.cons rfl (fun K hK => ?_) AllReadyH.nil
     go_simp
     go_at_call 81
     refine (HAT.out _ HG.out.2.2.2 1).mono ?_
     rintro e ua ⟨D1, d1, rfl, _, hb1⟩
     replace HG := Lib.hid (HG.out.bel hb1)
     clear hb1
     refine hK.out _ _ (by with_reducible exact HX.out.bel HG.out.low) (fun hHeld => ?_)
     clear hK K
     refine wpAnyH_ready (rs := [2]) (by kernel_rfl) (by simp) ?_
     refine AllReadyH.cons rfl (fun K hK => ?_) AllReadyH.nil
     go_simp
     go_at_call 80
     refine (Cw.refint_any (atOf x 1).kind (atOf x 1).num (atOf x 1).str D1 (atOf x 1).kids.length d1 _).mono ?_
     rw [HVv1.out]
     rintro e ua ⟨rfl, hb1⟩
     replace HG := Lib.hid (HG.out.bel hb1)
     clear hb1
     refine hK.out _ _ (by with_reducible exact HX.out.bel HG.out.low) (fun hHeld => ?_)
     clear hK K
     refine wpAnyH_ready (rs := [4]) (by kernel_rfl) (by simp) ?_
     refine AllReadyH.cons rfl (fun K hK => ?_) AllReadyH.nil
     go_simp
     go_at_call 81
     refine (HAT.out _ HG.out.2.2.2 2).mono ?_
     rintro e ua ⟨D2, d2, rfl, _, hb1⟩
     replace HG := Lib.hid (HG.out.bel hb1)
     clear hb1
     refine hK.out _ _ (by with_reducible exact HX.out.bel HG.out.low) (fun hHeld => ?_)
     clear hK K
     refine wpAnyH_ready (rs := [5]) (by kernel_rfl) (by simp) ?_
     refine AllReadyH.cons rfl (fun K hK => ?_) AllReadyH.nil
     go_simp
     go_at_call 80
     refine (Cw.refint_any (atOf x 2).kind (atOf x 2).num (atOf x 2).str D2 (atOf x 2).kids.length d2 _).mono ?_
     rw [HVv2.out]
     rintro e ua ⟨rfl, hb1⟩
     replace HG := Lib.hid (HG.out.bel hb1)
     clear hb1
     refine hK.out _ _ (by with_reducible exact HX.out.bel HG.out.low) (fun hHeld => ?_)
     clear hK K
     refine held_take (i := 6) (d := 29) (v := (.agg #[.int .i64 v1, .int .i64 v2])) rfl rfl (by kernel_rfl) (by kernel_rfl) (by kernel_rfl) (fun _ _ _ h => h) (by kernel_rfl) (fun w hSw => by (obtain hS := hSw); go_simp) hHeld ?_
     try simp only [List.setIfInBounds_toArray, List.set_cons_zero, List.set_cons_succ]
     refine held_take (i := 7) (d := 30) (v := (.pointer (some ⟨p, 1, none⟩))) rfl rfl (by kernel_rfl) (by kernel_rfl) (by kernel_rfl) (fun _ _ _ h => h) (by kernel_rfl) (fun w hSw => by (obtain hS := hSw); go_simp) hHeld ?_
     try simp only [List.setIfInBounds_toArray, List.set_cons_zero, List.set_cons_succ]
     refine wpAnyH_ready (rs := [8]) (by kernel_rfl) (by simp) ?_
     refine AllReadyH.cons rfl (fun K hK => ?_) AllReadyH.nil
     go_simp
     have c1 := HG.out.1.cell 1
     have z1 := HG.out.1.soft 1
     have c2 := HG.out.1.cell 2
     have z2 := HG.out.1.soft 2
     simp at c1 c2
     go_simp
     replace HG := Lib.hid (show InvR W p #[.int .i64 v0, .int .i64 v1, .int .i64 v2, .int .i64 0, .int .i64 0, .int .i64 0, .int .i64 0, .int .i64 0, .int .i64 0, .int .i64 0, .int .i64 0, .string ⟨#[]⟩, .string ⟨#[]⟩, .int .i64 0, .slice none 0 0, .int .i64 0, .int .i64 0, .int .i64 0] none 0 0 [] _ from by simpa using ((HG.out.set HPM.out 1 (.int .i64 v1)).set HPM.out 2 (.int .i64 v2)))
     clear c1 c2 z1 z2
     refine hK.out _ _ (by with_reducible exact HX.out.bel HG.out.low) (fun hHeld => ?_)
     clear hK K
     refine wpAnyH_done (by kernel_rfl) ?_ _
     go_wp2_with fail
     go_meet
     case rel => exact ⟨v1, v2, 3, rfl, rd1_yes (m := ⟨v0, (0, 0), (0, 0), (0, 0), 0, ⟨0, 0, 0, ⟨#[]⟩, ⟨#[]⟩, 0⟩, ⟨[], 0, 0⟩, 0⟩) HT0.out HVv1.out HVv2.out, by omega, HG.out⟩
  case rest =>
   obtain ⟨R1, N1, k1, rfl, hq, hkl, hG⟩ := hcut
   clear HG
   have HKL := Lib.hid hkl
   generalize wc = X1 at hG ⊢
   have HG := Lib.hid hG
   have HQ1 := Lib.hid hq
   clear hG hq hkl
   go_upto_region 6 with fail
   obtain ⟨t1, ht1⟩ : ∃ t, hBal ⟨v0, (R1, N1), (0, 0), (0, 0), 0, ⟨0, 0, 0, ⟨#[]⟩, ⟨#[]⟩, 0⟩, ⟨[], 0, 0⟩, 0⟩ = t := ⟨_, rfl⟩
   have CT := fun w => bal_any v0 R1 N1 0 0 0 0 0 0 0 0 ⟨#[]⟩ ⟨#[]⟩ 0 none 0 0 0 0 0 [] w
   rw [ht1] at CT
   have HCT := Lib.hid CT
   have HT1 := Lib.hid ht1
   clear CT ht1
   go_cut [32] from 7 (fun cv wx => cv = .bool t1 ∧ InvR W p #[.int .i64 v0, .int .i64 R1, .int .i64 N1, .int .i64 0, .int .i64 0, .int .i64 0, .int .i64 0, .int .i64 0, .int .i64 0, .int .i64 0, .int .i64 0, .string ⟨#[]⟩, .string ⟨#[]⟩, .int .i64 0, .slice none 0 0, .int .i64 0, .int .i64 0, .int .i64 0] none 0 0 [] wx)
   case first =>
    as_aux_lemma =>
     have hbk : Blk X1 p 32 #[.int .i64 v0, .int .i64 R1, .int .i64 N1, .int .i64 0, .int .i64 0, .int .i64 0, .int .i64 0, .int .i64 0, .int .i64 0, .int .i64 0, .int .i64 0, .string ⟨#[]⟩, .string ⟨#[]⟩, .int .i64 0, .slice none 0 0, .int .i64 0, .int .i64 0, .int .i64 0] := HG.out.1
     have HBK := Lib.hid hbk
     clear hbk
     go_wp2_with (with_reducible refine wpList_load_blk_w 32 _ rfl p 32 #[.int .i64 v0, .int .i64 R1, .int .i64 N1, .int .i64 0, .int .i64 0, .int .i64 0, .int .i64 0, .int .i64 0, .int .i64 0, .int .i64 0, .int .i64 0, .string ⟨#[]⟩, .string ⟨#[]⟩, .int .i64 0, .slice none 0 0, .int .i64 0, .int .i64 0, .int .i64 0] _ ?_ ?_ HBK.out Tryz.underlying32 ?_ ?_ ?_; (focus kernel_rfl); (focus kernel_rfl); (focus rfl); (focus kernel_rfl))
     refine (HCT.out _).mono ?_
     rintro e uu1 ⟨rfl, hb1⟩
     go_wp2_with fail
     go_meet
     case rel => exact ⟨rfl, HG.out.bel hb1⟩
   case rest =>
    obtain ⟨rfl, hG⟩ := hcut
    clear HG HCT
    generalize wc = Wy1 at hG ⊢
    have HG := Lib.hid hG
    clear hG
    go_upto_if 32 with fail
    go_cut [6] from 7 (fun kv wx => ∃ (B2 : Int) (C2 : Int) (k2 : Nat), kv = .int .i64 (k2 : Int) ∧ (rd2 x k1 ⟨v0, (R1, N1), (0, 0), (0, 0), 0, ⟨0, 0, 0, ⟨#[]⟩, ⟨#[]⟩, 0⟩, ⟨[], 0, 0⟩, 0⟩ = ⟨v0, (R1, N1), (B2, C2), (0, 0), 0, ⟨0, 0, 0, ⟨#[]⟩, ⟨#[]⟩, 0⟩, ⟨[], 0, 0⟩, 0⟩ ∧ rk2 ⟨v0, (R1, N1), (0, 0), (0, 0), 0, ⟨0, 0, 0, ⟨#[]⟩, ⟨#[]⟩, 0⟩, ⟨[], 0, 0⟩, 0⟩ k1 = k2) ∧ k2 ≤ 4 ∧ InvR W p #[.int .i64 v0, .int .i64 R1, .int .i64 N1, .int .i64 B2, .int .i64 C2, .int .i64 0, .int .i64 0, .int .i64 0, .int .i64 0, .int .i64 0, .int .i64 0, .string ⟨#[]⟩, .string ⟨#[]⟩, .int .i64 0, .slice none 0 0, .int .i64 0, .int .i64 0, .int .i64 0] none 0 0 [] wx)
    case first =>
     cases t1 with
     | false =>
       go_wp2_with fail
       go_meet
       case rel => exact ⟨0, 0, k1, rfl, rd2_no (m := ⟨v0, (R1, N1), (0, 0), (0, 0), 0, ⟨0, 0, 0, ⟨#[]⟩, ⟨#[]⟩, 0⟩, ⟨[], 0, 0⟩, 0⟩) HT1.out, by have := HKL.out; omega, HG.out⟩
     | true =>
       have HI0 := HG
       obtain ⟨x0, x1, x2, x3⟩ := blk4 (HX.out.bel HG.out.2.2.2)
       go_wp2_with fail
       refine (HAT.out _ HI0.out.2.2.2 k1).mono ?_
       rintro e u1 ⟨D, d, rfl, hly, hb1⟩
       have hI := HI0.out.bel hb1
       obtain ⟨y, hy⟩ : ∃ y, atOf x k1 = y := ⟨_, rfl⟩
       rw [hy] at hly ⊢
       have HLY := Lib.hid hly
       have HYy := Lib.hid hy
       have HI := Lib.hid hI
       clear hb1 hI hly hy
       clear x0 x1 x2 x3
       go_wp2_with fail
       have hbt := Bal.refbaltake_any y D d S _ HLY.out (HSS.out _ HI.out.2.2.2)
       unfold Bal.BalTakes at hbt
       obtain ⟨⟨b1, b2⟩, hb⟩ : ∃ b, (Bal.balTake y).getD (0, 0) = b := ⟨_, rfl⟩
       rw [hb] at hbt
       simp only at hbt
       have HBT := Lib.hid hbt
       rw [← HYy.out] at hb
       have HVb := Lib.hid hb
       clear hbt hb
       refine HBT.out.mono ?_
       rintro e u2 ⟨rfl, hb1⟩
       have hI := HI.out.bel hb1
       clear HI HLY HBT HYy hb1
       have HI := Lib.hid hI
       clear hI
       have hI := HI.out.bel (bel_alloc (Below.refl _ _) (.cells #[.int .i64 b1, .int .i64 b2] 25))
       have hbx := Blk.new u2 25 #[.int .i64 b1, .int .i64 b2]
       have hlt := HI.out.1.lt
       obtain ⟨UB, hUB⟩ : ∃ v, u2.alloc (.cells #[.int .i64 b1, .int .i64 b2] 25) = v := ⟨_, rfl⟩
       rw [hUB] at hI hbx
       have HUB := Lib.hid hUB
       clear hUB HI
       have HI := Lib.hid hI
       clear hI
       have w0 := hbx.cell 0
       have w1 := hbx.cell 1
       simp at w0 w1
       clear hbx
       go_upto_region 8 with fail
       rw [HUB.out]
       have c3 := HI.out.1.cell 3
       have z3 := HI.out.1.soft 3
       have c4 := HI.out.1.cell 4
       have z4 := HI.out.1.soft 4
       simp at c3 c4
       have hkl := HKL.out
       have hwk : IntKind.i64.wrap ((k1 : Int) + 1) = ((k1 + 1 : Nat) : Int) := by rw [Go.Proofs.YtjfpfbagckckkaaGreatDoor.wrap64 (by omega) (by omega)]; omega
       go_wp2_with fail
       go_meet
       case rel => exact ⟨b1, b2, k1 + 1, rfl, rd2_yes (m := ⟨v0, (R1, N1), (0, 0), (0, 0), 0, ⟨0, 0, 0, ⟨#[]⟩, ⟨#[]⟩, 0⟩, ⟨[], 0, 0⟩, 0⟩) HT1.out HVb.out, by omega, by simpa using ((HI.out.set HPM.out 3 (.int .i64 b1)).set HPM.out 4 (.int .i64 b2))⟩
    case rest =>
     obtain ⟨B2, C2, k2, rfl, hq, hkl, hG⟩ := hcut
     clear HG HKL
     have HKL := Lib.hid hkl
     generalize wc = X2 at hG ⊢
     have HG := Lib.hid hG
     have HQ2 := Lib.hid hq
     clear hG hq hkl
     go_upto_region 10 with fail
     obtain ⟨t2, ht2⟩ : ∃ t, (v0 == 7) = t := ⟨_, rfl⟩
     have HT2 := Lib.hid ht2
     go_cut [46] from 7 (fun cv wx => cv = .bool t2 ∧ InvR W p #[.int .i64 v0, .int .i64 R1, .int .i64 N1, .int .i64 B2, .int .i64 C2, .int .i64 0, .int .i64 0, .int .i64 0, .int .i64 0, .int .i64 0, .int .i64 0, .string ⟨#[]⟩, .string ⟨#[]⟩, .int .i64 0, .slice none 0 0, .int .i64 0, .int .i64 0, .int .i64 0] none 0 0 [] wx)
     case first =>
      as_aux_lemma =>
       have c0 := HG.out.1.cell 0
       simp at c0
       go_wp2_with fail
       go_meet
       case rel => exact ⟨rfl, HG.out⟩
     case rest =>
      obtain ⟨rfl, hG⟩ := hcut
      clear HG ht2
      generalize wc = Wy2 at hG ⊢
      have HG := Lib.hid hG
      clear hG
      go_upto_if 46 with fail
      go_cut [6] from 7 (fun kv wx => ∃ (T3 : Int) (U3 : Int) (S3 : Int) (k3 : Nat), kv = .int .i64 (k3 : Int) ∧ (rd3 x k2 ⟨v0, (R1, N1), (B2, C2), (0, 0), 0, ⟨0, 0, 0, ⟨#[]⟩, ⟨#[]⟩, 0⟩, ⟨[], 0, 0⟩, 0⟩ = ⟨v0, (R1, N1), (B2, C2), (T3, U3), S3, ⟨0, 0, 0, ⟨#[]⟩, ⟨#[]⟩, 0⟩, ⟨[], 0, 0⟩, 0⟩ ∧ rk3 ⟨v0, (R1, N1), (B2, C2), (0, 0), 0, ⟨0, 0, 0, ⟨#[]⟩, ⟨#[]⟩, 0⟩, ⟨[], 0, 0⟩, 0⟩ k2 = k3) ∧ k3 ≤ 6 ∧ InvR W p #[.int .i64 v0, .int .i64 R1, .int .i64 N1, .int .i64 B2, .int .i64 C2, .int .i64 T3, .int .i64 U3, .int .i64 S3, .int .i64 0, .int .i64 0, .int .i64 0, .string ⟨#[]⟩, .string ⟨#[]⟩, .int .i64 0, .slice none 0 0, .int .i64 0, .int .i64 0, .int .i64 0] none 0 0 [] wx)
      case first =>
       cases t2 with
       | false =>
         go_wp2_with fail
         go_meet
         case rel => exact ⟨0, 0, 0, k2, rfl, rd3_no (m := ⟨v0, (R1, N1), (B2, C2), (0, 0), 0, ⟨0, 0, 0, ⟨#[]⟩, ⟨#[]⟩, 0⟩, ⟨[], 0, 0⟩, 0⟩) HT2.out, by have := HKL.out; omega, HG.out⟩
       | true =>
         have HI0 := HG
         obtain ⟨x0, x1, x2, x3⟩ := blk4 (HX.out.bel HG.out.2.2.2)
         go_wp2_with fail
         refine (HAT.out _ HI0.out.2.2.2 k2).mono ?_
         rintro e u1a ⟨D, d, rfl, hly, hb1⟩
         have hI := HI0.out.bel hb1
         obtain ⟨y, hy⟩ : ∃ y, atOf x k2 = y := ⟨_, rfl⟩
         rw [hy] at hly ⊢
         have HLY := Lib.hid hly
         have HYy := Lib.hid hy
         have HI := Lib.hid hI
         clear hb1 hI hly hy
         go_wp2_with fail
         refine (Cw.refint_any y.kind y.num y.str D y.kids.length d _).mono ?_
         rintro e u1 ⟨rfl, hb1⟩
         obtain ⟨v1, hv1⟩ : ∃ v, Cmd.cap y.num = v := ⟨_, rfl⟩
         rw [hv1]
         rw [← HYy.out] at hv1
         have HVv1 := Lib.hid hv1
         have hI := HI.out.bel hb1
         clear HI HLY HYy hv1 hb1
         have HI := Lib.hid hI
         clear hI
         clear x0 x1 x2 x3
         have c7 := HI.out.1.cell 7
         have z7 := HI.out.1.soft 7
         simp at c7
         go_upto_region 12 with fail
         clear c7 z7
         have hI2 : InvR W p #[.int .i64 v0, .int .i64 R1, .int .i64 N1, .int .i64 B2, .int .i64 C2, .int .i64 0, .int .i64 0, .int .i64 v1, .int .i64 0, .int .i64 0, .int .i64 0, .string ⟨#[]⟩, .string ⟨#[]⟩, .int .i64 0, .slice none 0 0, .int .i64 0, .int .i64 0, .int .i64 0] none 0 0 [] (u1.setCell ⟨p, 7, none⟩ (.int .i64 v1)) := by simpa using (HI.out.set HPM.out 7 (.int .i64 v1))
         generalize u1.setCell ⟨p, 7, none⟩ (.int .i64 v1) = U2 at hI2 ⊢
         clear HI HI0
         have HI0 := Lib.hid hI2
         clear hI2
         obtain ⟨x0, x1, x2, x3⟩ := blk4 (HX.out.bel HI0.out.2.2.2)
         have hkl := HKL.out
         have hwk : IntKind.i64.wrap ((k2 : Int) + 1) = ((k2 + 1 : Nat) : Int) := by rw [Go.Proofs.YtjfpfbagckckkaaGreatDoor.wrap64 (by omega) (by omega)]; omega
         go_wp2_with fail
         refine (HAT.out _ HI0.out.2.2.2 (k2 + 1)).mono ?_
         rintro e u1 ⟨D, d, rfl, hly, hb1⟩
         have hI := HI0.out.bel hb1
         obtain ⟨y, hy⟩ : ∃ y, atOf x (k2 + 1) = y := ⟨_, rfl⟩
         rw [hy] at hly ⊢
         have HLY := Lib.hid hly
         have HYy := Lib.hid hy
         have HI := Lib.hid hI
         clear hb1 hI hly hy
         clear x0 x1 x2 x3
         go_wp2_with fail
         have hbt := Bal.refbaltake_any y D d S _ HLY.out (HSS.out _ HI.out.2.2.2)
         unfold Bal.BalTakes at hbt
         obtain ⟨⟨b1, b2⟩, hb⟩ : ∃ b, (Bal.balTake y).getD (0, 0) = b := ⟨_, rfl⟩
         rw [hb] at hbt
         simp only at hbt
         have HBT := Lib.hid hbt
         rw [← HYy.out] at hb
         have HVb := Lib.hid hb
         clear hbt hb
         refine HBT.out.mono ?_
         rintro e u2 ⟨rfl, hb1⟩
         have hI := HI.out.bel hb1
         clear HI HLY HBT HYy hb1
         have HI := Lib.hid hI
         clear hI
         clear hwk
         have hI := HI.out.bel (bel_alloc (Below.refl _ _) (.cells #[.int .i64 b1, .int .i64 b2] 25))
         have hbx := Blk.new u2 25 #[.int .i64 b1, .int .i64 b2]
         have hlt := HI.out.1.lt
         obtain ⟨UB, hUB⟩ : ∃ v, u2.alloc (.cells #[.int .i64 b1, .int .i64 b2] 25) = v := ⟨_, rfl⟩
         rw [hUB] at hI hbx
         have HUB := Lib.hid hUB
         clear hUB HI
         have HI := Lib.hid hI
         clear hI
         have w0 := hbx.cell 0
         have w1 := hbx.cell 1
         simp at w0 w1
         clear hbx
         go_upto_region 13 with fail
         rw [HUB.out]
         have c5 := HI.out.1.cell 5
         have z5 := HI.out.1.soft 5
         have c6 := HI.out.1.cell 6
         have z6 := HI.out.1.soft 6
         simp at c5 c6
         have hwk : IntKind.i64.wrap ((k2 : Int) + 2) = ((k2 + 2 : Nat) : Int) := by rw [Go.Proofs.YtjfpfbagckckkaaGreatDoor.wrap64 (by omega) (by omega)]; omega
         go_wp2_with fail
         go_meet
         case rel => exact ⟨b1, b2, v1, k2 + 2, rfl, rd3_yes (m := ⟨v0, (R1, N1), (B2, C2), (0, 0), 0, ⟨0, 0, 0, ⟨#[]⟩, ⟨#[]⟩, 0⟩, ⟨[], 0, 0⟩, 0⟩) HT2.out HVv1.out HVb.out, by omega, by simpa using ((HI.out.set HPM.out 5 (.int .i64 b1)).set HPM.out 6 (.int .i64 b2))⟩
      case rest =>
       obtain ⟨T3, U3, S3, k3, rfl, hq, hkl, hG⟩ := hcut
       clear HG HKL
       have HKL := Lib.hid hkl
       generalize wc = X3 at hG ⊢
       have HG := Lib.hid hG
       have HQ3 := Lib.hid hq
       clear hG hq hkl
       go_upto_region 15 with fail
       obtain ⟨t3, ht3⟩ : ∃ t, hCmd ⟨v0, (R1, N1), (B2, C2), (T3, U3), S3, ⟨0, 0, 0, ⟨#[]⟩, ⟨#[]⟩, 0⟩, ⟨[], 0, 0⟩, 0⟩ = t := ⟨_, rfl⟩
       have CT := fun w => command_any v0 R1 N1 B2 C2 T3 U3 S3 0 0 0 ⟨#[]⟩ ⟨#[]⟩ 0 none 0 0 0 0 0 [] w
       rw [ht3] at CT
       have HCT := Lib.hid CT
       have HT3 := Lib.hid ht3
       clear CT ht3
       go_cut [65] from 7 (fun cv wx => cv = .bool t3 ∧ InvR W p #[.int .i64 v0, .int .i64 R1, .int .i64 N1, .int .i64 B2, .int .i64 C2, .int .i64 T3, .int .i64 U3, .int .i64 S3, .int .i64 0, .int .i64 0, .int .i64 0, .string ⟨#[]⟩, .string ⟨#[]⟩, .int .i64 0, .slice none 0 0, .int .i64 0, .int .i64 0, .int .i64 0] none 0 0 [] wx)
       case first =>
        as_aux_lemma =>
         have hbk : Blk X3 p 32 #[.int .i64 v0, .int .i64 R1, .int .i64 N1, .int .i64 B2, .int .i64 C2, .int .i64 T3, .int .i64 U3, .int .i64 S3, .int .i64 0, .int .i64 0, .int .i64 0, .string ⟨#[]⟩, .string ⟨#[]⟩, .int .i64 0, .slice none 0 0, .int .i64 0, .int .i64 0, .int .i64 0] := HG.out.1
         have HBK := Lib.hid hbk
         clear hbk
         go_wp2_with (with_reducible refine wpList_load_blk_w 32 _ rfl p 32 #[.int .i64 v0, .int .i64 R1, .int .i64 N1, .int .i64 B2, .int .i64 C2, .int .i64 T3, .int .i64 U3, .int .i64 S3, .int .i64 0, .int .i64 0, .int .i64 0, .string ⟨#[]⟩, .string ⟨#[]⟩, .int .i64 0, .slice none 0 0, .int .i64 0, .int .i64 0, .int .i64 0] _ ?_ ?_ HBK.out Tryz.underlying32 ?_ ?_ ?_; (focus kernel_rfl); (focus kernel_rfl); (focus rfl); (focus kernel_rfl))
         refine (HCT.out _).mono ?_
         rintro e uu1 ⟨rfl, hb1⟩
         go_wp2_with fail
         go_meet
         case rel => exact ⟨rfl, HG.out.bel hb1⟩
       case rest =>
        obtain ⟨rfl, hG⟩ := hcut
        clear HG HCT
        generalize wc = Wy3 at hG ⊢
        have HG := Lib.hid hG
        clear hG
        go_upto_if 65 with fail
        go_cut [6] from 7 (fun kv wx => ∃ (K4 : Int) (L4 : Int) (Q4 : Int) (Y4 : ByteArray) (V4 : ByteArray) (Z4 : Int) (k4 : Nat), kv = .int .i64 (k4 : Int) ∧ (rd4 x k3 ⟨v0, (R1, N1), (B2, C2), (T3, U3), S3, ⟨0, 0, 0, ⟨#[]⟩, ⟨#[]⟩, 0⟩, ⟨[], 0, 0⟩, 0⟩ = ⟨v0, (R1, N1), (B2, C2), (T3, U3), S3, ⟨K4, L4, Q4, Y4, V4, Z4⟩, ⟨[], 0, 0⟩, 0⟩ ∧ rk4 ⟨v0, (R1, N1), (B2, C2), (T3, U3), S3, ⟨0, 0, 0, ⟨#[]⟩, ⟨#[]⟩, 0⟩, ⟨[], 0, 0⟩, 0⟩ k3 = k4) ∧ k4 ≤ 7 ∧ InvR W p #[.int .i64 v0, .int .i64 R1, .int .i64 N1, .int .i64 B2, .int .i64 C2, .int .i64 T3, .int .i64 U3, .int .i64 S3, .int .i64 K4, .int .i64 L4, .int .i64 Q4, .string Y4, .string V4, .int .i64 Z4, .slice none 0 0, .int .i64 0, .int .i64 0, .int .i64 0] none 0 0 [] wx)
        case first =>
         cases t3 with
         | false =>
           go_wp2_with fail
           go_meet
           case rel => exact ⟨0, 0, 0, ⟨#[]⟩, ⟨#[]⟩, 0, k3, rfl, rd4_no (m := ⟨v0, (R1, N1), (B2, C2), (T3, U3), S3, ⟨0, 0, 0, ⟨#[]⟩, ⟨#[]⟩, 0⟩, ⟨[], 0, 0⟩, 0⟩) HT3.out, by have := HKL.out; omega, HG.out⟩
         | true =>
           have HI0 := HG
           obtain ⟨x0, x1, x2, x3⟩ := blk4 (HX.out.bel HG.out.2.2.2)
           go_wp2_with fail
           refine (HAT.out _ HI0.out.2.2.2 k3).mono ?_
           rintro e u1 ⟨D, d, rfl, hly, hb1⟩
           have hI := HI0.out.bel hb1
           obtain ⟨y, hy⟩ : ∃ y, atOf x k3 = y := ⟨_, rfl⟩
           rw [hy] at hly ⊢
           have HLY := Lib.hid hly
           have HYy := Lib.hid hy
           have HI := Lib.hid hI
           clear hb1 hI hly hy
           clear x0 x1 x2 x3
           go_wp2_with fail
           have hct := Cw.refcmtake_any y D d S _ HLY.out (HSS.out _ HI.out.2.2.2) (by have := HKS.out k3; rw [HYy.out] at this; exact this)
           refine hct.mono ?_
           rintro e u2 ⟨⟨d1, d2, d3, d4, d5, d6⟩, bb, rfl, hc, _, hb1⟩
           have hI := HI.out.bel hb1
           rw [← HYy.out] at hc
           have HVc := Lib.hid hc.symm
           clear HI HLY HYy hb1 hc hct
           have HI := Lib.hid hI
           clear hI
           simp only
           have hI := HI.out.bel (bel_alloc (Below.refl _ _) (.cells #[.int .i64 d1, .int .i64 d2, .int .i64 d3, .string d4, .string d5, .int .i64 d6] 27))
           have hbx := Blk.new u2 27 #[.int .i64 d1, .int .i64 d2, .int .i64 d3, .string d4, .string d5, .int .i64 d6]
           have hlt := HI.out.1.lt
           obtain ⟨UB, hUB⟩ : ∃ v, u2.alloc (.cells #[.int .i64 d1, .int .i64 d2, .int .i64 d3, .string d4, .string d5, .int .i64 d6] 27) = v := ⟨_, rfl⟩
           rw [hUB] at hI hbx
           have HUB := Lib.hid hUB
           clear hUB HI
           have HI := Lib.hid hI
           clear hI
           have w0 := hbx.cell 0
           have w1 := hbx.cell 1
           have w2 := hbx.cell 2
           have w3 := hbx.cell 3
           have w4 := hbx.cell 4
           have w5 := hbx.cell 5
           simp at w0 w1 w2 w3 w4 w5
           clear hbx
           go_upto_region 17 with fail
           rw [HUB.out]
           have c8 := HI.out.1.cell 8
           have z8 := HI.out.1.soft 8
           have c9 := HI.out.1.cell 9
           have z9 := HI.out.1.soft 9
           have c10 := HI.out.1.cell 10
           have z10 := HI.out.1.soft 10
           have c11 := HI.out.1.cell 11
           have z11 := HI.out.1.soft 11
           have c12 := HI.out.1.cell 12
           have z12 := HI.out.1.soft 12
           have c13 := HI.out.1.cell 13
           have z13 := HI.out.1.soft 13
           simp at c8 c9 c10 c11 c12 c13
           have hkl := HKL.out
           have hwk : IntKind.i64.wrap ((k3 : Int) + 1) = ((k3 + 1 : Nat) : Int) := by rw [Go.Proofs.YtjfpfbagckckkaaGreatDoor.wrap64 (by omega) (by omega)]; omega
           go_wp2_with fail
           go_meet
           case rel => exact ⟨d1, d2, d3, d4, d5, d6, k3 + 1, rfl, rd4_yes (m := ⟨v0, (R1, N1), (B2, C2), (T3, U3), S3, ⟨0, 0, 0, ⟨#[]⟩, ⟨#[]⟩, 0⟩, ⟨[], 0, 0⟩, 0⟩) HT3.out HVc.out, by omega, by simpa using ((((((HI.out.set HPM.out 8 (.int .i64 d1)).set HPM.out 9 (.int .i64 d2)).set HPM.out 10 (.int .i64 d3)).set HPM.out 11 (.string d4)).set HPM.out 12 (.string d5)).set HPM.out 13 (.int .i64 d6))⟩
        case rest =>
         obtain ⟨K4, L4, Q4, Y4, V4, Z4, k4, rfl, hq, hkl, hG⟩ := hcut
         clear HG HKL
         have HKL := Lib.hid hkl
         generalize wc = X4 at hG ⊢
         have HG := Lib.hid hG
         have HQ4 := Lib.hid hq
         clear hG hq hkl
         go_upto_region 19 with fail
         obtain ⟨t9, ht9⟩ : ∃ t, hAt ⟨v0, (R1, N1), (B2, C2), (T3, U3), S3, ⟨K4, L4, Q4, Y4, V4, Z4⟩, ⟨[], 0, 0⟩, 0⟩ = t := ⟨_, rfl⟩
         have CT9 := fun w => hangs_any v0 R1 N1 B2 C2 T3 U3 S3 K4 L4 Q4 Y4 V4 Z4 none 0 0 0 0 0 [] w
         rw [ht9] at CT9
         have HCT9 := Lib.hid CT9
         clear CT9 ht9
         go_cut [81] from 7 (fun cv wx => cv = .bool false ∧ InvR W p #[.int .i64 v0, .int .i64 R1, .int .i64 N1, .int .i64 B2, .int .i64 C2, .int .i64 T3, .int .i64 U3, .int .i64 S3, .int .i64 K4, .int .i64 L4, .int .i64 Q4, .string Y4, .string V4, .int .i64 Z4, .slice none 0 0, .int .i64 0, .int .i64 0, .int .i64 0] none 0 0 [] wx)
         case first =>
          as_aux_lemma =>
           have hbk : Blk X4 p 32 #[.int .i64 v0, .int .i64 R1, .int .i64 N1, .int .i64 B2, .int .i64 C2, .int .i64 T3, .int .i64 U3, .int .i64 S3, .int .i64 K4, .int .i64 L4, .int .i64 Q4, .string Y4, .string V4, .int .i64 Z4, .slice none 0 0, .int .i64 0, .int .i64 0, .int .i64 0] := HG.out.1
           have HBK := Lib.hid hbk
           clear hbk
           go_wp2_with (with_reducible refine wpList_load_blk_w 32 _ rfl p 32 #[.int .i64 v0, .int .i64 R1, .int .i64 N1, .int .i64 B2, .int .i64 C2, .int .i64 T3, .int .i64 U3, .int .i64 S3, .int .i64 K4, .int .i64 L4, .int .i64 Q4, .string Y4, .string V4, .int .i64 Z4, .slice none 0 0, .int .i64 0, .int .i64 0, .int .i64 0] _ ?_ ?_ HBK.out Tryz.underlying32 ?_ ?_ ?_; (focus kernel_rfl); (focus kernel_rfl); (focus rfl); (focus kernel_rfl))
           refine (HCT9.out _).mono ?_
           rintro e uu1 ⟨rfl, hb1⟩
           cases t9 with
           | false =>
             go_wp2_with fail
             go_meet
             case rel => exact ⟨rfl, HG.out.bel hb1⟩
           | true =>
             go_wp2_with fail
             go_meet
             case rel => exact ⟨rfl, HG.out.bel hb1⟩
         case rest =>
          obtain ⟨rfl, hG⟩ := hcut
          clear HG HCT9
          generalize wc = X4 at hG ⊢
          have HG := Lib.hid hG
          clear hG
          go_upto_region 22 with fail
          obtain ⟨t4, ht4⟩ : ∃ t, hAt ⟨v0, (R1, N1), (B2, C2), (T3, U3), S3, ⟨K4, L4, Q4, Y4, V4, Z4⟩, ⟨[], 0, 0⟩, 0⟩ = t := ⟨_, rfl⟩
          have CT := fun w => hangs_any v0 R1 N1 B2 C2 T3 U3 S3 K4 L4 Q4 Y4 V4 Z4 none 0 0 0 0 0 [] w
          rw [ht4] at CT
          have HCT := Lib.hid CT
          have HT4 := Lib.hid ht4
          clear CT ht4
          go_cut [96] from 7 (fun cv wx => cv = .bool t4 ∧ InvR W p #[.int .i64 v0, .int .i64 R1, .int .i64 N1, .int .i64 B2, .int .i64 C2, .int .i64 T3, .int .i64 U3, .int .i64 S3, .int .i64 K4, .int .i64 L4, .int .i64 Q4, .string Y4, .string V4, .int .i64 Z4, .slice none 0 0, .int .i64 0, .int .i64 0, .int .i64 0] none 0 0 [] wx)
          case first =>
           as_aux_lemma =>
            have hbk : Blk X4 p 32 #[.int .i64 v0, .int .i64 R1, .int .i64 N1, .int .i64 B2, .int .i64 C2, .int .i64 T3, .int .i64 U3, .int .i64 S3, .int .i64 K4, .int .i64 L4, .int .i64 Q4, .string Y4, .string V4, .int .i64 Z4, .slice none 0 0, .int .i64 0, .int .i64 0, .int .i64 0] := HG.out.1
            have HBK := Lib.hid hbk
            clear hbk
            go_wp2_with (with_reducible refine wpList_load_blk_w 32 _ rfl p 32 #[.int .i64 v0, .int .i64 R1, .int .i64 N1, .int .i64 B2, .int .i64 C2, .int .i64 T3, .int .i64 U3, .int .i64 S3, .int .i64 K4, .int .i64 L4, .int .i64 Q4, .string Y4, .string V4, .int .i64 Z4, .slice none 0 0, .int .i64 0, .int .i64 0, .int .i64 0] _ ?_ ?_ HBK.out Tryz.underlying32 ?_ ?_ ?_; (focus kernel_rfl); (focus kernel_rfl); (focus rfl); (focus kernel_rfl))
            refine (HCT.out _).mono ?_
            rintro e uu1 ⟨rfl, hb1⟩
            cases t4 with
            | false =>
              go_wp2_with fail
              go_meet
              case rel => exact ⟨rfl, HG.out.bel hb1⟩
            | true =>
              go_wp2_with fail
              go_meet
              case rel => exact ⟨rfl, HG.out.bel hb1⟩
          case rest =>
           obtain ⟨rfl, hG⟩ := hcut
           clear HG HCT
           generalize wc = Wy4 at hG ⊢
           have HG := Lib.hid hG
           clear hG
           go_upto_if 96 with fail
           go_cut [] from 7 (fun wx => ∃ (A5 : Option Addr) (n5 : Nat) (c5 : Nat) (E5 : Int) (G5 : Int) (g5 : List (Int × Int)), rd5 attTake x k4 ⟨v0, (R1, N1), (B2, C2), (T3, U3), S3, ⟨K4, L4, Q4, Y4, V4, Z4⟩, ⟨[], 0, 0⟩, 0⟩ = ⟨v0, (R1, N1), (B2, C2), (T3, U3), S3, ⟨K4, L4, Q4, Y4, V4, Z4⟩, ⟨g5, E5, G5⟩, 0⟩ ∧ InvR W p #[.int .i64 v0, .int .i64 R1, .int .i64 N1, .int .i64 B2, .int .i64 C2, .int .i64 T3, .int .i64 U3, .int .i64 S3, .int .i64 K4, .int .i64 L4, .int .i64 Q4, .string Y4, .string V4, .int .i64 Z4, .slice A5 n5 c5, .int .i64 E5, .int .i64 G5, .int .i64 0] A5 n5 c5 g5 wx)
           case first =>
            as_aux_lemma =>
             cases t4 with
             | false =>
               go_wp2_with fail
               go_meet
               case rel => exact ⟨none, 0, 0, 0, 0, [], rd5_no (m := ⟨v0, (R1, N1), (B2, C2), (T3, U3), S3, ⟨K4, L4, Q4, Y4, V4, Z4⟩, ⟨[], 0, 0⟩, 0⟩) HT4.out, HG.out⟩
             | true =>
               have HI0 := HG
               obtain ⟨x0, x1, x2, x3⟩ := blk4 (HX.out.bel HG.out.2.2.2)
               go_wp2_with fail
               refine (HAT.out _ HI0.out.2.2.2 k4).mono ?_
               rintro e u1 ⟨D, d, rfl, hly, hb1⟩
               have hI := HI0.out.bel hb1
               obtain ⟨y, hy⟩ : ∃ y, atOf x k4 = y := ⟨_, rfl⟩
               rw [hy] at hly ⊢
               have HLY := Lib.hid hly
               have HYy := Lib.hid hy
               have HI := Lib.hid hI
               clear hb1 hI hly hy
               clear x0 x1 x2 x3
               go_wp2_with fail
               refine (refatttake_any y D d S _ HLY.out (HSS.out _ HI.out.2.2.2)).mono ?_
               rintro e u2 ⟨F, nf, cf, rfl, hrs, hb1, hnew⟩
               obtain ⟨⟨gl, gs, gt⟩, ha⟩ : ∃ a, (attTake y).getD zeroAt = a := ⟨_, rfl⟩
               rw [ha] at hrs ⊢
               simp only at hrs ⊢
               have hlt := HI.out.1.lt
               have hI := (HI.out.bel hb1).swap hrs (fun g o e => by have := hnew g o e; omega)
               rw [← HYy.out] at ha
               have HVa := Lib.hid ha
               clear HI HLY HYy hb1 hrs hnew ha hlt
               have HI := Lib.hid hI
               clear hI
               have hI := HI.out.bel (bel_alloc (Below.refl _ _) (.cells #[.slice F nf cf, .int .i64 gs, .int .i64 gt] 30))
               have hbx := Blk.new u2 30 #[.slice F nf cf, .int .i64 gs, .int .i64 gt]
               have hlt := HI.out.1.lt
               obtain ⟨UB, hUB⟩ : ∃ v, u2.alloc (.cells #[.slice F nf cf, .int .i64 gs, .int .i64 gt] 30) = v := ⟨_, rfl⟩
               rw [hUB] at hI hbx
               have HUB := Lib.hid hUB
               clear hUB HI
               have HI := Lib.hid hI
               clear hI
               have w0 := hbx.cell 0
               have w1 := hbx.cell 1
               have w2 := hbx.cell 2
               simp at w0 w1 w2
               clear hbx
               go_upto_region 24 with fail
               rw [HUB.out]
               have c14 := HI.out.1.cell 14
               have z14 := HI.out.1.soft 14
               have c15 := HI.out.1.cell 15
               have z15 := HI.out.1.soft 15
               have c16 := HI.out.1.cell 16
               have z16 := HI.out.1.soft 16
               simp at c14 c15 c16
               go_wp2_with fail
               go_meet
               case rel => exact ⟨F, nf, cf, gs, gt, gl, rd5_yes (m := ⟨v0, (R1, N1), (B2, C2), (T3, U3), S3, ⟨K4, L4, Q4, Y4, V4, Z4⟩, ⟨[], 0, 0⟩, 0⟩) HT4.out HVa.out, by simpa using (((HI.out.set HPM.out 14 (.slice F nf cf)).set HPM.out 15 (.int .i64 gs)).set HPM.out 16 (.int .i64 gt))⟩
           case rest =>
            obtain ⟨A5, n5, c5, E5, G5, g5, hq, hG⟩ := hcut
            clear HG
            generalize wc = X5 at hG ⊢
            have HG := Lib.hid hG
            have HQ5 := Lib.hid hq
            clear hG hq
            go_upto_region 25 with fail
            obtain ⟨t5, ht5⟩ : ∃ t, (v0 == 9) = t := ⟨_, rfl⟩
            have HT5 := Lib.hid ht5
            go_cut [108] from 7 (fun cv wx => cv = .bool t5 ∧ InvR W p #[.int .i64 v0, .int .i64 R1, .int .i64 N1, .int .i64 B2, .int .i64 C2, .int .i64 T3, .int .i64 U3, .int .i64 S3, .int .i64 K4, .int .i64 L4, .int .i64 Q4, .string Y4, .string V4, .int .i64 Z4, .slice A5 n5 c5, .int .i64 E5, .int .i64 G5, .int .i64 0] A5 n5 c5 g5 wx)
            case first =>
             as_aux_lemma =>
              have c0 := HG.out.1.cell 0
              simp at c0
              go_wp2_with fail
              go_meet
              case rel => exact ⟨rfl, HG.out⟩
            case rest =>
             obtain ⟨rfl, hG⟩ := hcut
             clear HG ht5
             generalize wc = Wy5 at hG ⊢
             have HG := Lib.hid hG
             clear hG
             go_upto_if 108 with fail
             go_cut [] from 7 (fun wx => ∃ (W6 : Int), rd6 x ⟨v0, (R1, N1), (B2, C2), (T3, U3), S3, ⟨K4, L4, Q4, Y4, V4, Z4⟩, ⟨g5, E5, G5⟩, 0⟩ = ⟨v0, (R1, N1), (B2, C2), (T3, U3), S3, ⟨K4, L4, Q4, Y4, V4, Z4⟩, ⟨g5, E5, G5⟩, W6⟩ ∧ InvR W p #[.int .i64 v0, .int .i64 R1, .int .i64 N1, .int .i64 B2, .int .i64 C2, .int .i64 T3, .int .i64 U3, .int .i64 S3, .int .i64 K4, .int .i64 L4, .int .i64 Q4, .string Y4, .string V4, .int .i64 Z4, .slice A5 n5 c5, .int .i64 E5, .int .i64 G5, .int .i64 W6] A5 n5 c5 g5 wx)
             case first =>
              as_aux_lemma =>
               cases t5 with
               | false =>
                 go_wp2_with fail
                 go_meet
                 case rel => exact ⟨0, rd6_no (m := ⟨v0, (R1, N1), (B2, C2), (T3, U3), S3, ⟨K4, L4, Q4, Y4, V4, Z4⟩, ⟨g5, E5, G5⟩, 0⟩) HT5.out, HG.out⟩
               | true =>
                 have HI0 := HG
                 obtain ⟨x0, x1, x2, x3⟩ := blk4 (HX.out.bel HG.out.2.2.2)
                 go_wp2_with fail
                 refine (HAT.out _ HI0.out.2.2.2 1).mono ?_
                 rintro e u1a ⟨D, d, rfl, hly, hb1⟩
                 have hI := HI0.out.bel hb1
                 obtain ⟨y, hy⟩ : ∃ y, atOf x 1 = y := ⟨_, rfl⟩
                 rw [hy] at hly ⊢
                 have HLY := Lib.hid hly
                 have HYy := Lib.hid hy
                 have HI := Lib.hid hI
                 clear hb1 hI hly hy
                 go_wp2_with fail
                 refine (Cw.refint_any y.kind y.num y.str D y.kids.length d _).mono ?_
                 rintro e u1 ⟨rfl, hb1⟩
                 obtain ⟨v1, hv1⟩ : ∃ v, Cmd.cap y.num = v := ⟨_, rfl⟩
                 rw [hv1]
                 rw [← HYy.out] at hv1
                 have HVv1 := Lib.hid hv1
                 have hI := HI.out.bel hb1
                 clear HI HLY HYy hv1 hb1
                 have HI := Lib.hid hI
                 clear hI
                 clear x0 x1 x2 x3
                 have c17 := HI.out.1.cell 17
                 have z17 := HI.out.1.soft 17
                 simp at c17
                 go_wp2_with fail
                 go_meet
                 case rel => exact ⟨v1, rd6_yes (m := ⟨v0, (R1, N1), (B2, C2), (T3, U3), S3, ⟨K4, L4, Q4, Y4, V4, Z4⟩, ⟨g5, E5, G5⟩, 0⟩) HT5.out HVv1.out, by simpa using (HI.out.set HPM.out 17 (.int .i64 v1))⟩
             case rest =>
              obtain ⟨W6, hq, hG⟩ := hcut
              clear HG
              generalize wc = X6 at hG ⊢
              have HG := Lib.hid hG
              have HQ6 := Lib.hid hq
              clear hG hq
              go_upto_region 27 with fail
              have hz9 : Blk X6 (w.heap.size + 1) 32 #[.int .i64 0, .int .i64 0, .int .i64 0, .int .i64 0, .int .i64 0, .int .i64 0, .int .i64 0, .int .i64 0, .int .i64 0, .int .i64 0, .int .i64 0, .string ⟨#[]⟩, .string ⟨#[]⟩, .int .i64 0, .slice none 0 0, .int .i64 0, .int .i64 0, .int .i64 0] := HZ.out.bel HG.out.2.2.2
              have HZ9 := Lib.hid hz9
              have hbk : Blk X6 p 32 #[.int .i64 v0, .int .i64 R1, .int .i64 N1, .int .i64 B2, .int .i64 C2, .int .i64 T3, .int .i64 U3, .int .i64 S3, .int .i64 K4, .int .i64 L4, .int .i64 Q4, .string Y4, .string V4, .int .i64 Z4, .slice A5 n5 c5, .int .i64 E5, .int .i64 G5, .int .i64 W6] := HG.out.1
              have HBK := Lib.hid hbk
              clear hz9 hbk
              go_wp2_with (first | (with_reducible refine wpList_load_blk_w 32 _ rfl p 32 #[.int .i64 v0, .int .i64 R1, .int .i64 N1, .int .i64 B2, .int .i64 C2, .int .i64 T3, .int .i64 U3, .int .i64 S3, .int .i64 K4, .int .i64 L4, .int .i64 Q4, .string Y4, .string V4, .int .i64 Z4, .slice A5 n5 c5, .int .i64 E5, .int .i64 G5, .int .i64 W6] _ ?_ ?_ HBK.out Tryz.underlying32 ?_ ?_ ?_; (focus kernel_rfl); (focus kernel_rfl); (focus rfl); (focus kernel_rfl)) | ((with_reducible refine wpList_store_blk rfl 32 _ _ rfl (w.heap.size + 1) 32 #[.int .i64 0, .int .i64 0, .int .i64 0, .int .i64 0, .int .i64 0, .int .i64 0, .int .i64 0, .int .i64 0, .int .i64 0, .int .i64 0, .int .i64 0, .string ⟨#[]⟩, .string ⟨#[]⟩, .int .i64 0, .slice none 0 0, .int .i64 0, .int .i64 0, .int .i64 0] #[.int .i64 v0, .int .i64 R1, .int .i64 N1, .int .i64 B2, .int .i64 C2, .int .i64 T3, .int .i64 U3, .int .i64 S3, .int .i64 K4, .int .i64 L4, .int .i64 Q4, .string Y4, .string V4, .int .i64 Z4, .slice A5 n5 c5, .int .i64 E5, .int .i64 G5, .int .i64 W6] ?_ ?_ HZ9.out ?_ ?_ ?_ ?_); (focus rfl); (focus rfl); (focus kernel_rfl); (focus rfl); (focus kernel_rfl); intro w9 hblk2 hgr))
              refine bodyPost_ret (v := .agg #[.int .i64 v0, .int .i64 R1, .int .i64 N1, .int .i64 B2, .int .i64 C2, .int .i64 T3, .int .i64 U3, .int .i64 S3, .int .i64 K4, .int .i64 L4, .int .i64 Q4, .string Y4, .string V4, .int .i64 Z4, .slice A5 n5 c5, .int .i64 E5, .int .i64 G5, .int .i64 W6]) (results_blk Tryz.results47 _ _ (w.heap.size + 1) 32 _ _ rfl hblk2 Tryz.underlying32 rfl (by kernel_rfl)) rfl ?_
              have hrd : readMg attTake x = ⟨v0, (R1, N1), (B2, C2), (T3, U3), S3, ⟨K4, L4, Q4, Y4, V4, Z4⟩, ⟨g5, E5, G5⟩, W6⟩ := read_steps attTake x HM0.out HQ1.out.1.symm HQ1.out.2.symm HQ2.out.1.symm HQ2.out.2.symm HQ3.out.1.symm HQ3.out.2.symm HQ4.out.1.symm HQ4.out.2.symm HQ5.out.symm HQ6.out.symm
              rw [hrd]
              obtain ⟨_, hr9, hn9, hb9⟩ := HG.out
              have hpm := HPM.out
              have hsw := HSW.out
              have hbw : Below w.heap.size w X6 := HB.out.trans (hb9.mono HB.out.size)
              exact ⟨_, _, _, rfl, hr9.grown hgr (fun g o e h => by injection h with h; have := hn9 g o e; omega), fun g o e => by have := hn9 g o e; omega, hbw.trans (gr_below hgr hbw.size fun b hb => by injection hb with hb; omega)⟩
end Go.Proofs.YtjfpfbagckckkaaGreatDoor.Mg
