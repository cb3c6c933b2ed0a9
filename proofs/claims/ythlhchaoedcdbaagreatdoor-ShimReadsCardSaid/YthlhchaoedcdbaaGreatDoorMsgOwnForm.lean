/-
  Texts of earlier layers, as one.
-/
import Derived.Test.YthlhchaoedcdbaaGreatDoorMsgOw
import Derived.Test.YthlhchaoedcdbaaGreatDoorMsgItem
/- The program's form of a right message. -/
namespace Go.Proofs.YthlhchaoedcdbaaGreatDoor.Mg
open Lib (hid)
open Go.RowKit Mem Ids Att Cod Rk
set_option maxRecDepth 100000 in
set_option maxHeartbeats 8000000 in
theorem form_any (aM aR aN aB aC aT aU aS aK aL aQ : Int) (aY aV : ByteArray) (aZ : Int) (aA : Option Addr) (an ac : Nat) (aE aG aW : Int) (al : List (Int × Int)) (w : World) (ha : Rs w aA an ac al) (hn : Nam w) (hr : mright ⟨aM, (aR, aN), (aB, aC), (aT, aU), aS, ⟨aK, aL, aQ, aY, aV, aZ⟩, ⟨al, aE, aG⟩, aW⟩ = true) :
 Calls Tryz.prog 28 #[.agg #[.int .i64 aM, .int .i64 aR, .int .i64 aN, .int .i64 aB, .int .i64 aC, .int .i64 aT, .int .i64 aU, .int .i64 aS, .int .i64 aK, .int .i64 aL, .int .i64 aQ, .string aY, .string aV, .int .i64 aZ, .slice aA an ac, .int .i64 aE, .int .i64 aG, .int .i64 aW]] w (GivesNew w (mgIt ⟨aM, (aR, aN), (aB, aC), (aT, aU), aS, ⟨aK, aL, aQ, aY, aV, aZ⟩, ⟨al, aE, aG⟩, aW⟩)) := by
 obtain ⟨i0, hi, hz0, hz1, hz2⟩ := info_parts info25;have hwt := wt_mg hr;obtain ⟨hk, f1, f2, f3, f4, f5, f6, g1, g2, g3, g4, g5, g6⟩ := mright_parts hr;simp only at hk f1 f2 f3 f4 f5 f6 g1 g2 g3 g4 g5 g6;obtain ⟨W, hW⟩ : ∃ W, (w.alloc (.cells #[.int .i64 aM, .int .i64 aR, .int .i64 aN, .int .i64 aB, .int .i64 aC, .int .i64 aT, .int .i64 aU, .int .i64 aS, .int .i64 aK, .int .i64 aL, .int .i64 aQ, .string aY, .string aV, .int .i64 aZ, .slice aA an ac, .int .i64 aE, .int .i64 aG, .int .i64 aW] 32)).alloc (.cells #[.int .i64 0, .int .u64 0, .string ⟨#[]⟩, .slice none 0 0] 57) = W := ⟨_, rfl⟩
 obtain ⟨k1, k2, kb, hsW⟩ := two_kinds w _ _ _ _ W hW;have HK0 := hid k1;have HZ := hid k2;have HB := hid kb;have HW := hid hW;have HSW := hid hsW;have HR0 := hid (ha.below kb);have HKa := HK0;have HRa := HR0;have HN0 := hid (hn.below kb);have HRN := HN0;have C1 := hid (fun w h => has_id aM aR aN aB aC aT aU aS aK aL aQ aY aV aZ aA an ac aE aG aW al w h);have C2 := hid (fun w h => has_bal aM aR aN aB aC aT aU aS aK aL aQ aY aV aZ aA an ac aE aG aW al w h);have C3 := hid (fun w h => has_cmd aM aR aN aB aC aT aU aS aK aL aQ aY aV aZ aA an ac aE aG aW al w h);have C4 := hid (fun w h => has_at aM aR aN aB aC aT aU aS aK aL aQ aY aV aZ aA an ac aE aG aW al w h);have C7 := hid (fun w h => has_state aM aR aN aB aC aT aU aS aK aL aQ aY aV aZ aA an ac aE aG aW al w h);have C9 := hid (fun w h => has_vn aM aR aN aB aC aT aU aS aK aL aQ aY aV aZ aA an ac aE aG aW al w h);have NM := hid (mnumber_any aM (by omega) (by omega))
 have hR : hId ⟨aM, (aR, aN), (aB, aC), (aT, aU), aS, ⟨aK, aL, aQ, aY, aV, aZ⟩, ⟨al, aE, aG⟩, aW⟩ = true → (0 ≤ aR ∧ aR ≤ 6) ∧ 0 ≤ aN ∧ aN ≤ 1099511627776 := fun e => by
  have h := of_decide_eq_true (g1 e);omega
 have hS : aM = 7 → 0 ≤ aS ∧ aS ≤ 3 := fun e => (rgt_parts (g5 e)).2.2.1;have hT : aM = 7 → Bal.right (aT, aU) = true := fun e => (rgt_parts (g5 e)).2.2.2.2.1;have hit : mgIt ⟨aM, (aR, aN), (aB, aC), (aT, aU), aS, ⟨aK, aL, aQ, aY, aV, aZ⟩, ⟨al, aE, aG⟩, aW⟩ = .mk 2 0 ByteArray.empty (mparts ⟨aM, (aR, aN), (aB, aC), (aT, aU), aS, ⟨aK, aL, aQ, aY, aV, aZ⟩, ⟨al, aE, aG⟩, aW⟩ (attIt ⟨al, aE, aG⟩)) := rfl;unfold mparts at hit;simp only at hit;generalize hId ⟨aM, (aR, aN), (aB, aC), (aT, aU), aS, ⟨aK, aL, aQ, aY, aV, aZ⟩, ⟨al, aE, aG⟩, aW⟩ = ti at C1 hR hit;generalize hBal ⟨aM, (aR, aN), (aB, aC), (aT, aU), aS, ⟨aK, aL, aQ, aY, aV, aZ⟩, ⟨al, aE, aG⟩, aW⟩ = tb at C2 g2 hit;generalize hCmd ⟨aM, (aR, aN), (aB, aC), (aT, aU), aS, ⟨aK, aL, aQ, aY, aV, aZ⟩, ⟨al, aE, aG⟩, aW⟩ = tc at C3 g3 hit;generalize hAt ⟨aM, (aR, aN), (aB, aC), (aT, aU), aS, ⟨aK, aL, aQ, aY, aV, aZ⟩, ⟨al, aE, aG⟩, aW⟩ = th at C4 g4 hit;obtain ⟨k7, e7⟩ : ∃ k, decide (aM = 7) = k := ⟨_, rfl⟩
 obtain ⟨k9, e9⟩ : ∃ k, decide (aM = 9) = k := ⟨_, rfl⟩
 have h7 : k7 = true → aM = 7 := fun h => of_decide_eq_true (e7.trans h);have h9 : k9 = true → aM = 9 := fun h => of_decide_eq_true (e9.trans h);have p7 : ∀ l : List It, (if aM = 7 then l else []) = if k7 = true then l else [] := fun l => by rw [← e7]; by_cases h : aM = 7 <;> simp [h]
 have p9 : ∀ l : List It, (if aM = 9 then l else []) = if k9 = true then l else [] := fun l => by rw [← e9]; by_cases h : aM = 9 <;> simp [h]
 rw [p7, p9] at hit;rw [e7] at C7;rw [e9] at C9;have HIT := hid hit;have HWT := hid hwt;clear hwt;have HP := hid (And.intro hk (And.intro hR (And.intro hS (And.intro hT (And.intro g2 (And.intro g3 (And.intro g4 (And.intro g6 (And.intro h7 h9)))))))));clear hn hk f1 f2 f3 f4 f5 f6 g1 g2 g3 g4 g5 g6 k1 k2 kb hW hsW ha hr hR hS hT hit e7 e9 h7 h9 p7 p9;go_enter Tryz.func28, Tryz.ntmps28
 go_upto_region 1 with fail
 rw [HW.out];have x0 := HKa.out.cell 0;simp at x0;go_wp2_with fail
 refine (NM.out _).mono ?_;rintro e u0 ⟨rfl, hb1⟩;have hn0 : (0 : Int) ≤ aM ∧ aM ≤ 9 := by have := HP.out.1; omega
 have hlit := World.ownsRow_lit (base := W.heap.size) (e := 57) (size := 4) u0 #[.int .i64 0, .int .u64 aM, .string ByteArray.empty, .slice none 0 0] 1 hb1.size (by simp [maxLen]) rfl
 have hG : Grow W [Cmd.numIt aM] (some ⟨u0.heap.size, 0, none⟩) 1 1 [⟨Cmd.numIt aM, none, 0⟩] (u0.alloc (.cells #[.int .i64 0, .int .u64 aM, .string ByteArray.empty, .slice none 0 0] 57)) := by
  refine ⟨rfl, ?_, ?_, bel_alloc hb1 _⟩
  · rw [cells4_h, num_cells aM hn0.1]
    exact hlit
  · intro x hx
    simp only [List.mem_cons, List.not_mem_nil, or_false] at hx;subst hx;exact lies_num _ _ aM (by omega)
 obtain ⟨V0, n0, c0, hs0, hv0, hn0', hG⟩ : ∃ V n c hs, Value.slice (some ⟨u0.heap.size, 0, none⟩) 1 1 = .slice V n c ∧ n ≤ 1 ∧ Grow W [Cmd.numIt aM] V n c hs (u0.alloc (.cells #[.int .i64 0, .int .u64 aM, .string ByteArray.empty, .slice none 0 0] 57)) := ⟨_, _, _, _, rfl, Nat.le_refl _, hG⟩
 have HV0 := hid hv0;clear x0 hlit hb1 NM hn0 hv0;go_upto_region 2 with fail
 rw [HV0.out];clear HV0;generalize u0.alloc (.cells #[.int .i64 0, .int .u64 aM, .string ByteArray.empty, .slice none 0 0] 57) = X0 at hG ⊢;have HN := hid hn0';have HG := hid hG;replace HKa := hid (HK0.out.bel hG.2.2.2);replace HRa := hid (HR0.out.below hG.2.2.2);replace HRN := hid (HN0.out.below hG.2.2.2);have HC := hid (Below.refl X0.heap.size X0);clear hn0' hG;obtain ⟨l0, hl0⟩ : ∃ l, [Cmd.numIt aM] = l := ⟨_, rfl⟩
 have hG := HG.out;rw [hl0] at hG;replace HG := hid hG;have HL0 := hid hl0;clear hG hl0;go_cut [9] from 4 (fun cv wx => cv = .bool ti ∧ Grow W (l0) V0 n0 c0 hs0 wx)
 case first =>
  go_wp2_with (first | (with_reducible refine wpList_load_blk_w 32 _ rfl w.heap.size 32 _ _ ?_ ?_ (HKa.out.bel HC.out) Tryz.underlying32 ?_ ?_ ?_; (focus kernel_rfl); (focus kernel_rfl); (focus rfl); (focus kernel_rfl)))
  refine (C1.out _ (HRN.out.below HC.out)).mono ?_;rintro e u1 ⟨rfl, hb1⟩;replace HC := hid (bel_trans HC.out hb1);clear hb1;go_wp2_with fail
  go_meet
  case rel => exact ⟨rfl, HG.out.bel HC.out⟩
 case rest =>
  obtain ⟨rfl, hG⟩ := hcut;clear HG HKa HRa HRN HC;generalize wc = Y0 at hG ⊢;have HG := hid hG;have HKa := hid (HK0.out.bel hG.2.2.2);have HRa := hid (HR0.out.below hG.2.2.2);have HRN := hid (HN0.out.below hG.2.2.2);have HC := hid (Below.refl Y0.heap.size Y0);clear hG;go_upto_if 9 with fail
  go_cut [3] from 4 (fun v5 wx => ∃ V n c hs, v5 = .slice V n c ∧ n ≤ 3 ∧ Grow W (l0 ++ (if ti = true then [Cmd.numIt aR, Cmd.numIt aN] else [])) V n c hs wx)
  case first =>
   cases ti with
   | false =>
     go_wp2_with fail
     go_meet
     case rel => exact ⟨V0, n0, c0, hs0, rfl, by have := HN.out; omega, by simpa using HG.out⟩
   | true =>
     have hnn := HN.out;have hWX := HG.out.2.2.2.size;have hlt0 := HG.out.2.1.lt;obtain ⟨hra, hrb⟩ := HP.out.2.1 rfl;have N1 := hid (mnumber_any aR (by omega) (by omega));have N2 := hid (mnumber_any aN (by omega) (by omega));go_upto_region 3 with fail
     replace HC := hid (Below.drew HC.out);refine wp_region_held_drew (S := (fun w' => Blk w' w.heap.size 32 #[.int .i64 aM, .int .i64 aR, .int .i64 aN, .int .i64 aB, .int .i64 aC, .int .i64 aT, .int .i64 aU, .int .i64 aS, .int .i64 aK, .int .i64 aL, .int .i64 aQ, .string aY, .string aV, .int .i64 aZ, .slice aA an ac, .int .i64 aE, .int .i64 aG, .int .i64 aW])) (by kernel_rfl) (by first | (with_reducible exact HKZ.out) | (with_reducible exact HKa.out.bel HC.out)) (fun hHeld => ?_);refine hs_take 0 10 (.slice V0 n0 c0) rfl rfl (by kernel_rfl) (fun _ _ _ h => h) (fun w hS => by go_simp) hHeld ?_;try simp only [n0, n1, n2]
     refine hs_take 1 11 (.pointer (some ⟨w.heap.size, 1, none⟩)) rfl rfl (by kernel_rfl) (fun _ _ _ h => h) (fun w hS => by go_simp) hHeld ?_;try simp only [n0, n1, n2]
     refine hs_take 2 12 (.pointer (some ⟨w.heap.size, 1, none⟩)) rfl rfl (by kernel_rfl) (fun _ _ _ h => h) (fun w hS => by go_simp) hHeld ?_;try simp only [n0, n1, n2]
     refine hs_take 3 13 (.int .i64 aR) rfl rfl (by kernel_rfl) (fun _ _ _ h => h) (fun w' hS => by (have hh := hS.cell 1; simp at hh; go_simp)) hHeld ?_;try simp only [n0, n1, n2]
     refine hs_take 5 15 (.pointer (some ⟨w.heap.size, 1, none⟩)) rfl rfl (by kernel_rfl) (fun _ _ _ h => h) (fun w hS => by go_simp) hHeld ?_;try simp only [n0, n1, n2]
     refine hs_take 6 16 (.pointer (some ⟨w.heap.size, 2, none⟩)) rfl rfl (by kernel_rfl) (fun _ _ _ h => h) (fun w hS => by go_simp) hHeld ?_;try simp only [n0, n1, n2]
     refine hs_take 7 17 (.int .i64 aN) rfl rfl (by kernel_rfl) (fun _ _ _ h => h) (fun w' hS => by (have hh := hS.cell 2; simp at hh; go_simp)) hHeld ?_;try simp only [n0, n1, n2]
     refine wpAnyH_ready (rs := [4]) (by kernel_rfl) (by simp) ?_;refine AllReadyH.cons rfl (fun K hK => ?_) AllReadyH.nil;go_simp;go_at_call 67
     refine (N1.out _).mono ?_;rintro e u0 ⟨rfl, hb1⟩;replace HC := hid (bel_trans HC.out hb1);clear hb1;refine hK.out _ _ (by first | (with_reducible exact HKZ.out) | (with_reducible exact HKa.out.bel HC.out)) (fun hHeld => ?_);clear hK K;refine wpAnyH_ready (rs := [8]) (by kernel_rfl) (by simp) ?_;refine AllReadyH.cons rfl (fun K hK => ?_) AllReadyH.nil;go_simp;go_at_call 67
     refine (N2.out _).mono ?_;rintro e u1 ⟨rfl, hb1⟩;replace HC := hid (bel_trans HC.out hb1);clear hb1;refine hK.out _ _ (by first | (with_reducible exact HKZ.out) | (with_reducible exact HKa.out.bel HC.out)) (fun hHeld => ?_);clear hK K;refine wpAnyH_ready (rs := [9]) (by kernel_rfl) (by simp) ?_;refine AllReadyH.cons rfl (fun K hK => ?_) AllReadyH.nil;go_simp;have hXu := HC.out.size;have hgm := (HG.out.bel HC.out).alloc (.cells #[.int .i64 0, .int .u64 aR, .string ByteArray.empty, .slice none 0 0, .int .i64 0, .int .u64 aN, .string ByteArray.empty, .slice none 0 0] 57);have hnw := World.news_of_block (Blk.new u1 57 #[.int .i64 0, .int .u64 aR, .string ByteArray.empty, .slice none 0 0, .int .i64 0, .int .u64 aN, .string ByteArray.empty, .slice none 0 0]);replace HC := hid (bel_alloc HC.out (.cells #[.int .i64 0, .int .u64 aR, .string ByteArray.empty, .slice none 0 0, .int .i64 0, .int .u64 aN, .string ByteArray.empty, .slice none 0 0] 57));refine hK.out _ _ (by first | (with_reducible exact HKZ.out) | (with_reducible exact HKa.out.bel HC.out)) (fun hHeld => ?_);clear hK K;refine wpAnyH_ready (rs := [10]) (by kernel_rfl) (by simp) ?_;refine AllReadyH.cons rfl (fun K hK => ?_) AllReadyH.nil;refine step_append_lies _ rfl (.tmp 10) (.tmp 19) 55 rfl W.heap.size 57 i0 _ 4 56 Tryz.underlying55 hi hz0 hz1 hz2 rfl (by omega) (.slice V0 n0 c0) n0 _ (by simp [Act.eval]) hgm.2.1 ⟨u1.heap.size, 0, none⟩ 2 2 [.int .i64 0, .int .u64 aR, .string ByteArray.empty, .slice none 0 0, .int .i64 0, .int .u64 aN, .string ByteArray.empty, .slice none 0 0] (by simp [Act.eval]) rfl hnw (by intro u hu; simp at hu; rcases hu with rfl | rfl | rfl | rfl | rfl | rfl | rfl | rfl <;> rfl) (by omega) (by unfold maxLen; omega) (by omega) (by rw [size_alloc]; omega) (u1.heap.size + 1) (size_alloc _ _) ?_;intro g3 cap3 w3 hown3 hgrow3 hat3 hlt3;have HKZ := hid ((HKa.out.bel HC.out).grown hgrow3 (fun e => by have := (HG.out.2.1.lt _ e.symm).1; have := HSW.out; omega));try simp only [Act.put]
     refine hK.out _ _ (by first | (with_reducible exact HKZ.out) | (with_reducible exact HKa.out.bel HC.out)) (fun hHeld => ?_);clear hK K;refine hs_take 11 3 (.slice (some ⟨g3, 0, none⟩) (n0 + 2) cap3) rfl rfl (by kernel_rfl) (fun _ _ _ h => h) (fun w hS => by go_simp) hHeld ?_;try simp only [List.setIfInBounds_toArray]
     refine wpAnyH_done (by kernel_rfl) ?_ _;go_wp2_with fail
     go_meet
     case rel =>
      refine ⟨some ⟨g3, 0, none⟩, n0 + 2, cap3, hs0 ++ [⟨Cmd.numIt aR, none, 0⟩, ⟨Cmd.numIt aN, none, 0⟩], rfl, by omega, ?_⟩;have hh := hgm.step (ns := [⟨Cmd.numIt aR, none, 0⟩, ⟨Cmd.numIt aN, none, 0⟩]) (fun x hx => by simp only [List.mem_cons, List.not_mem_nil, or_false] at hx; rcases hx with rfl | rfl; exact lies_num _ _ aR (by omega); exact lies_num _ _ aN (by omega)) (by rw [cells4_hh, num_cells _ hra.1, num_cells _ hrb.1]; exact hown3) hgrow3 (hat3.imp id fun e => by rw [size_alloc]; exact e);simpa using hh
  case rest =>
   obtain ⟨V1, n1, c1, hs1, rfl, hn', hG⟩ := hcut;clear HG HKa HRa HRN HC HN;generalize wc = X1 at hG ⊢;have HN := hid hn';clear hn';obtain ⟨l1, hl⟩ : ∃ l, l0 ++ (if ti = true then [Cmd.numIt aR, Cmd.numIt aN] else []) = l := ⟨_, rfl⟩
   rw [hl] at hG;have HL1 := hid hl;clear hl;have HG := hid hG;have HKa := hid (HK0.out.bel hG.2.2.2);have HRa := hid (HR0.out.below hG.2.2.2);have HRN := hid (HN0.out.below hG.2.2.2);have HC := hid (Below.refl X1.heap.size X1);clear hG;go_upto_region 4 with fail
   go_cut [22] from 4 (fun cv wx => cv = .bool tb ∧ Grow W (l1) V1 n1 c1 hs1 wx)
   case first =>
    go_wp2_with (first | (with_reducible refine wpList_load_blk_w 32 _ rfl w.heap.size 32 _ _ ?_ ?_ (HKa.out.bel HC.out) Tryz.underlying32 ?_ ?_ ?_; (focus kernel_rfl); (focus kernel_rfl); (focus rfl); (focus kernel_rfl)))
    refine (C2.out _ (HRN.out.below HC.out)).mono ?_;rintro e u1 ⟨rfl, hb1⟩;replace HC := hid (bel_trans HC.out hb1);clear hb1;go_wp2_with fail
    go_meet
    case rel => exact ⟨rfl, HG.out.bel HC.out⟩
   case rest =>
    obtain ⟨rfl, hG⟩ := hcut;clear HG HKa HRa HRN HC;generalize wc = Y1 at hG ⊢;have HG := hid hG;have HKa := hid (HK0.out.bel hG.2.2.2);have HRa := hid (HR0.out.below hG.2.2.2);have HRN := hid (HN0.out.below hG.2.2.2);have HC := hid (Below.refl Y1.heap.size Y1);clear hG;go_upto_if 22 with fail
    go_cut [3] from 4 (fun v5 wx => ∃ V n c hs, v5 = .slice V n c ∧ n ≤ 4 ∧ Grow W (l1 ++ (if tb = true then [Bal.balIt (aB, aC)] else [])) V n c hs wx)
    case first =>
     cases tb with
     | false =>
       go_wp2_with fail
       go_meet
       case rel => exact ⟨V1, n1, c1, hs1, rfl, by have := HN.out; omega, by simpa using HG.out⟩
     | true =>
       have hbr := HP.out.2.2.2.2.1 rfl;have HBL := hid (fun w => (show Calls Tryz.prog 69 #[.agg #[.int .i64 aB, .int .i64 aC]] w (GivesNew w (Bal.balIt (aB, aC))) from by (have h := Bal.balitem_any aB aC w; rw [Bal.balItem, if_pos hbr] at h; exact h)).mono fun _ _ h => GivesNew.list (n := 2) rfl h);have hnn := HN.out;have hWX := HG.out.2.2.2.size;have hlt0 := HG.out.2.1.lt;have xa3 := (HKa.out.bel HC.out).cell 3;have xa4 := (HKa.out.bel HC.out).cell 4;simp at xa3 xa4;go_wp2_with fail
       refine (HBL.out _).mono ?_;rintro e u1 ⟨V8, c8, rfl, hl3, hb1⟩;clear xa3 xa4;have hXu := hb1.size;have hgm := (HG.out.bel hb1).alloc (.cells #[.int .i64 2, .int .u64 0, .string ByteArray.empty, .slice V8 2 c8] 57);have hnw := World.news_of_block (Blk.new u1 57 #[.int .i64 2, .int .u64 0, .string ByteArray.empty, .slice V8 2 c8]);have hl4 := (hl3.alloc (.cells #[.int .i64 2, .int .u64 0, .string ByteArray.empty, .slice V8 2 c8] 57)).more (S' := fun b => W.heap.size ≤ b ∧ b < (u1.alloc (.cells #[.int .i64 2, .int .u64 0, .string ByteArray.empty, .slice V8 2 c8] 57)).heap.size ∧ some b ≠ (Value.slice V1 n1 c1).ownBlock) fun b hb _ => ⟨by have := hb.1; omega, by rw [size_alloc]; have := hb.2; omega, fun e => by have := (hlt0 b e.symm).2; have := hb.1; omega⟩
       go_wp2_with (at_builtin; refine wpList_append_lies _ rfl (.tmp 23) (.tmp 27) 55 rfl W.heap.size 57 i0 _ 4 56 Tryz.underlying55 hi hz0 hz1 hz2 rfl (by omega) (.slice V1 n1 c1) n1 _ (by simp [Act.eval]) hgm.2.1 ⟨u1.heap.size, 0, none⟩ 1 1 [.int .i64 2, .int .u64 0, .string ByteArray.empty, .slice V8 2 c8] (by simp [Act.eval]) rfl hnw (by intro u hu; simp at hu; rcases hu with rfl | rfl | rfl | rfl <;> rfl) (by omega) (by unfold maxLen; omega) (by omega) (by rw [size_alloc]; omega) (u1.heap.size + 1) (size_alloc _ _) ?_; intro g3 cap3 w3 hown3 hgrow3 hat3 hlt3)
       go_meet
       case rel =>
        refine ⟨some ⟨g3, 0, none⟩, n1 + 1, cap3, hs1 ++ [⟨Bal.balIt (aB, aC), V8, c8⟩], rfl, by omega, ?_⟩;have hh := hgm.step (ns := [⟨Bal.balIt (aB, aC), V8, c8⟩]) (fun x hx => by simp only [List.mem_cons, List.not_mem_nil, or_false] at hx; subst hx; exact hl4) (by rw [cells4_h]; exact hown3) hgrow3 (hat3.imp id fun e => by rw [size_alloc]; exact e);simpa using hh
    case rest =>
     obtain ⟨V2, n2, c2, hs2, rfl, hn', hG⟩ := hcut;clear HG HKa HRa HRN HC HN;generalize wc = X2 at hG ⊢;have HN := hid hn';clear hn';obtain ⟨l2, hl⟩ : ∃ l, l1 ++ (if tb = true then [Bal.balIt (aB, aC)] else []) = l := ⟨_, rfl⟩
     rw [hl] at hG;have HL2 := hid hl;clear hl;have HG := hid hG;have HKa := hid (HK0.out.bel hG.2.2.2);have HRa := hid (HR0.out.below hG.2.2.2);have HRN := hid (HN0.out.below hG.2.2.2);have HC := hid (Below.refl X2.heap.size X2);clear hG;go_upto_region 6 with fail
     go_cut [30] from 4 (fun cv wx => cv = .bool k7 ∧ Grow W (l2) V2 n2 c2 hs2 wx)
     case first =>
      go_wp2_with (first | (with_reducible refine wpList_load_blk_w 32 _ rfl w.heap.size 32 _ _ ?_ ?_ (HKa.out.bel HC.out) Tryz.underlying32 ?_ ?_ ?_; (focus kernel_rfl); (focus kernel_rfl); (focus rfl); (focus kernel_rfl)))
      refine (C7.out _ (HRN.out.below HC.out)).mono ?_;rintro e u1 ⟨rfl, hb1⟩;replace HC := hid (bel_trans HC.out hb1);clear hb1;go_wp2_with fail
      go_meet
      case rel => exact ⟨rfl, HG.out.bel HC.out⟩
     case rest =>
      obtain ⟨rfl, hG⟩ := hcut;clear HG HKa HRa HRN HC;generalize wc = Y2 at hG ⊢;have HG := hid hG;have HKa := hid (HK0.out.bel hG.2.2.2);have HRa := hid (HR0.out.below hG.2.2.2);have HRN := hid (HN0.out.below hG.2.2.2);have HC := hid (Below.refl Y2.heap.size Y2);clear hG;go_upto_if 30 with fail
      go_cut [3] from 4 (fun v5 wx => ∃ V n c hs, v5 = .slice V n c ∧ n ≤ 6 ∧ Grow W (l2 ++ (if k7 = true then [Cmd.numIt aS, Bal.balIt (aT, aU)] else [])) V n c hs wx)
      case first =>
       cases k7 with
       | false =>
         go_wp2_with fail
         go_meet
         case rel => exact ⟨V2, n2, c2, hs2, rfl, by have := HN.out; omega, by simpa using HG.out⟩
       | true =>
         have hnn := HN.out;have hWX := HG.out.2.2.2.size;have hlt0 := HG.out.2.1.lt;have h7 := HP.out.2.2.2.2.2.2.2.2.1 rfl;have hsa := HP.out.2.2.1 h7;have htr := HP.out.2.2.2.1 h7;clear h7;have N1 := hid (mnumber_any aS (by omega) (by omega));have N2 := hid (fun w => (show Calls Tryz.prog 69 #[.agg #[.int .i64 aT, .int .i64 aU]] w (GivesNew w (Bal.balIt (aT, aU))) from by (have h := Bal.balitem_any aT aU w; rw [Bal.balItem, if_pos htr] at h; exact h)).mono fun _ _ h => GivesNew.list (n := 2) rfl h);go_upto_region 7 with fail
         replace HC := hid (Below.drew HC.out);refine wp_region_held_drew (S := (fun w' => Blk w' w.heap.size 32 #[.int .i64 aM, .int .i64 aR, .int .i64 aN, .int .i64 aB, .int .i64 aC, .int .i64 aT, .int .i64 aU, .int .i64 aS, .int .i64 aK, .int .i64 aL, .int .i64 aQ, .string aY, .string aV, .int .i64 aZ, .slice aA an ac, .int .i64 aE, .int .i64 aG, .int .i64 aW])) (by kernel_rfl) (by first | (with_reducible exact HKZ.out) | (with_reducible exact HKa.out.bel HC.out)) (fun hHeld => ?_);refine hs_take 0 31 (.slice V2 n2 c2) rfl rfl (by kernel_rfl) (fun _ _ _ h => h) (fun w hS => by go_simp) hHeld ?_;try simp only [n0, n1, n2]
         refine hs_take 1 32 (.pointer (some ⟨w.heap.size, 7, none⟩)) rfl rfl (by kernel_rfl) (fun _ _ _ h => h) (fun w hS => by go_simp) hHeld ?_;try simp only [n0, n1, n2]
         refine hs_take 2 33 (.int .i64 aS) rfl rfl (by kernel_rfl) (fun _ _ _ h => h) (fun w' hS => by (have hh := hS.cell 7; simp at hh; go_simp)) hHeld ?_;try simp only [n0, n1, n2]
         refine hs_take 4 35 (.pointer (some ⟨w.heap.size, 5, none⟩)) rfl rfl (by kernel_rfl) (fun _ _ _ h => h) (fun w hS => by go_simp) hHeld ?_;try simp only [n0, n1, n2]
         refine hs_take 5 36 (.agg #[.int .i64 aT, .int .i64 aU]) rfl rfl (by kernel_rfl) (fun _ _ _ h => h) (fun w' hS => by (have hh := hS.cell 5; have hh2 := hS.cell 6; simp at hh hh2; go_simp)) hHeld ?_;try simp only [n0, n1, n2]
         refine wpAnyH_ready (rs := [3]) (by kernel_rfl) (by simp) ?_;refine AllReadyH.cons rfl (fun K hK => ?_) AllReadyH.nil;go_simp;go_at_call 67
         refine (N1.out _).mono ?_;rintro e u0 ⟨rfl, hb1⟩;replace HC := hid (bel_trans HC.out hb1);clear hb1;refine hK.out _ _ (by first | (with_reducible exact HKZ.out) | (with_reducible exact HKa.out.bel HC.out)) (fun hHeld => ?_);clear hK K;refine wpAnyH_ready (rs := [6]) (by kernel_rfl) (by simp) ?_;refine AllReadyH.cons rfl (fun K hK => ?_) AllReadyH.nil;go_simp;go_at_call 69
         refine (N2.out _).mono ?_;rintro e u1 ⟨V8, c8, rfl, hl3, hb1⟩;have hX0 := HC.out.size;replace HC := hid (bel_trans HC.out hb1);clear hb1;refine hK.out _ _ (by first | (with_reducible exact HKZ.out) | (with_reducible exact HKa.out.bel HC.out)) (fun hHeld => ?_);clear hK K;refine wpAnyH_ready (rs := [7]) (by kernel_rfl) (by simp) ?_;refine AllReadyH.cons rfl (fun K hK => ?_) AllReadyH.nil;go_simp;have hXu := HC.out.size;have hgm := (HG.out.bel HC.out).alloc (.cells #[.int .i64 0, .int .u64 aS, .string ByteArray.empty, .slice none 0 0, .int .i64 2, .int .u64 0, .string ByteArray.empty, .slice V8 2 c8] 57);have hnw := World.news_of_block (Blk.new u1 57 #[.int .i64 0, .int .u64 aS, .string ByteArray.empty, .slice none 0 0, .int .i64 2, .int .u64 0, .string ByteArray.empty, .slice V8 2 c8]);have hl4 := (hl3.alloc (.cells #[.int .i64 0, .int .u64 aS, .string ByteArray.empty, .slice none 0 0, .int .i64 2, .int .u64 0, .string ByteArray.empty, .slice V8 2 c8] 57)).more (S' := fun b => W.heap.size ≤ b ∧ b < (u1.alloc (.cells #[.int .i64 0, .int .u64 aS, .string ByteArray.empty, .slice none 0 0, .int .i64 2, .int .u64 0, .string ByteArray.empty, .slice V8 2 c8] 57)).heap.size ∧ some b ≠ (Value.slice V2 n2 c2).ownBlock) fun b hb _ => ⟨by have := hb.1; omega, by rw [size_alloc]; have := hb.2; omega, fun e => by have := (hlt0 b e.symm).2; have := hb.1; omega⟩
         replace HC := hid (bel_alloc HC.out (.cells #[.int .i64 0, .int .u64 aS, .string ByteArray.empty, .slice none 0 0, .int .i64 2, .int .u64 0, .string ByteArray.empty, .slice V8 2 c8] 57));refine hK.out _ _ (by first | (with_reducible exact HKZ.out) | (with_reducible exact HKa.out.bel HC.out)) (fun hHeld => ?_);clear hK K;refine wpAnyH_ready (rs := [8]) (by kernel_rfl) (by simp) ?_;refine AllReadyH.cons rfl (fun K hK => ?_) AllReadyH.nil;refine step_append_lies _ rfl (.tmp 31) (.tmp 38) 55 rfl W.heap.size 57 i0 _ 4 56 Tryz.underlying55 hi hz0 hz1 hz2 rfl (by omega) (.slice V2 n2 c2) n2 _ (by simp [Act.eval]) hgm.2.1 ⟨u1.heap.size, 0, none⟩ 2 2 [.int .i64 0, .int .u64 aS, .string ByteArray.empty, .slice none 0 0, .int .i64 2, .int .u64 0, .string ByteArray.empty, .slice V8 2 c8] (by simp [Act.eval]) rfl hnw (by intro u hu; simp at hu; rcases hu with rfl | rfl | rfl | rfl | rfl | rfl | rfl | rfl <;> rfl) (by omega) (by unfold maxLen; omega) (by omega) (by rw [size_alloc]; omega) (u1.heap.size + 1) (size_alloc _ _) ?_;intro g3 cap3 w3 hown3 hgrow3 hat3 hlt3;have HKZ := hid ((HKa.out.bel HC.out).grown hgrow3 (fun e => by have := (HG.out.2.1.lt _ e.symm).1; have := HSW.out; omega));try simp only [Act.put]
         refine hK.out _ _ (by first | (with_reducible exact HKZ.out) | (with_reducible exact HKa.out.bel HC.out)) (fun hHeld => ?_);clear hK K;refine hs_take 9 3 (.slice (some ⟨g3, 0, none⟩) (n2 + 2) cap3) rfl rfl (by kernel_rfl) (fun _ _ _ h => h) (fun w hS => by go_simp) hHeld ?_;try simp only [List.setIfInBounds_toArray]
         refine wpAnyH_done (by kernel_rfl) ?_ _;go_wp2_with fail
         go_meet
         case rel =>
          refine ⟨some ⟨g3, 0, none⟩, n2 + 2, cap3, hs2 ++ [⟨Cmd.numIt aS, none, 0⟩, ⟨Bal.balIt (aT, aU), V8, c8⟩], rfl, by omega, ?_⟩;have hh := hgm.step (ns := [⟨Cmd.numIt aS, none, 0⟩, ⟨Bal.balIt (aT, aU), V8, c8⟩]) (fun x hx => by simp only [List.mem_cons, List.not_mem_nil, or_false] at hx; rcases hx with rfl | rfl; exact lies_num _ _ aS (by omega); exact hl4) (by rw [cells4_hh, num_cells _ hsa.1]; exact hown3) hgrow3 (hat3.imp id fun e => by rw [size_alloc]; exact e);simpa using hh
      case rest =>
       obtain ⟨V3, n3, c3, hs3, rfl, hn', hG⟩ := hcut;clear HG HKa HRa HRN HC HN;generalize wc = X3 at hG ⊢;have HN := hid hn';clear hn';obtain ⟨l3, hl⟩ : ∃ l, l2 ++ (if k7 = true then [Cmd.numIt aS, Bal.balIt (aT, aU)] else []) = l := ⟨_, rfl⟩
       rw [hl] at hG;have HL3 := hid hl;clear hl;have HG := hid hG;have HKa := hid (HK0.out.bel hG.2.2.2);have HRa := hid (HR0.out.below hG.2.2.2);have HRN := hid (HN0.out.below hG.2.2.2);have HC := hid (Below.refl X3.heap.size X3);clear hG;go_upto_region 8 with fail
       go_cut [41] from 4 (fun cv wx => cv = .bool tc ∧ Grow W (l3) V3 n3 c3 hs3 wx)
       case first =>
        go_wp2_with (first | (with_reducible refine wpList_load_blk_w 32 _ rfl w.heap.size 32 _ _ ?_ ?_ (HKa.out.bel HC.out) Tryz.underlying32 ?_ ?_ ?_; (focus kernel_rfl); (focus kernel_rfl); (focus rfl); (focus kernel_rfl)))
        refine (C3.out _ (HRN.out.below HC.out)).mono ?_;rintro e u1 ⟨rfl, hb1⟩;replace HC := hid (bel_trans HC.out hb1);clear hb1;go_wp2_with fail
        go_meet
        case rel => exact ⟨rfl, HG.out.bel HC.out⟩
       case rest =>
        obtain ⟨rfl, hG⟩ := hcut;clear HG HKa HRa HRN HC;generalize wc = Y3 at hG ⊢;have HG := hid hG;have HKa := hid (HK0.out.bel hG.2.2.2);have HRa := hid (HR0.out.below hG.2.2.2);have HRN := hid (HN0.out.below hG.2.2.2);have HC := hid (Below.refl Y3.heap.size Y3);clear hG;go_upto_if 41 with fail
        go_cut [3] from 4 (fun v5 wx => ∃ V n c hs, v5 = .slice V n c ∧ n ≤ 7 ∧ Grow W (l3 ++ (if tc = true then [Cmd.cmIt ⟨aK, aL, aQ, aY, aV, aZ⟩] else [])) V n c hs wx)
        case first =>
         cases tc with
         | false =>
           go_wp2_with fail
           go_meet
           case rel => exact ⟨V3, n3, c3, hs3, rfl, by have := HN.out; omega, by simpa using HG.out⟩
         | true =>
           have hcc := HP.out.2.2.2.2.2.1 rfl;have HCM := hid (fun w => (show Calls Tryz.prog 70 #[.agg #[.int .i64 aK, .int .i64 aL, .int .i64 aQ, .string aY, .string aV, .int .i64 aZ]] w (GivesNew w (Cmd.cmIt ⟨aK, aL, aQ, aY, aV, aZ⟩)) from by (have h := Cw.cmitem_new aK aL aQ aY aV aZ w; rw [Cmd.itemOf, if_pos hcc] at h; exact h)).mono fun _ _ h => GivesNew.list (n := 6) rfl h);have hnn := HN.out;have hWX := HG.out.2.2.2.size;have hlt0 := HG.out.2.1.lt;obtain ⟨-, -, -, -, -, -, -, -, xa8, xa9, xa10, xa11, xa12, xa13, -, -, -, -⟩ := blk18 (HKa.out.bel HC.out);go_wp2_with fail
           refine (HCM.out _).mono ?_;rintro e u1 ⟨V8, c8, rfl, hl3, hb1⟩;clear xa8 xa9 xa10 xa11 xa12 xa13;have hXu := hb1.size;have hgm := (HG.out.bel hb1).alloc (.cells #[.int .i64 2, .int .u64 0, .string ByteArray.empty, .slice V8 6 c8] 57);have hnw := World.news_of_block (Blk.new u1 57 #[.int .i64 2, .int .u64 0, .string ByteArray.empty, .slice V8 6 c8]);have hl4 := (hl3.alloc (.cells #[.int .i64 2, .int .u64 0, .string ByteArray.empty, .slice V8 6 c8] 57)).more (S' := fun b => W.heap.size ≤ b ∧ b < (u1.alloc (.cells #[.int .i64 2, .int .u64 0, .string ByteArray.empty, .slice V8 6 c8] 57)).heap.size ∧ some b ≠ (Value.slice V3 n3 c3).ownBlock) fun b hb _ => ⟨by have := hb.1; omega, by rw [size_alloc]; have := hb.2; omega, fun e => by have := (hlt0 b e.symm).2; have := hb.1; omega⟩
           go_wp2_with (at_builtin; refine wpList_append_lies _ rfl (.tmp 42) (.tmp 46) 55 rfl W.heap.size 57 i0 _ 4 56 Tryz.underlying55 hi hz0 hz1 hz2 rfl (by omega) (.slice V3 n3 c3) n3 _ (by simp [Act.eval]) hgm.2.1 ⟨u1.heap.size, 0, none⟩ 1 1 [.int .i64 2, .int .u64 0, .string ByteArray.empty, .slice V8 6 c8] (by simp [Act.eval]) rfl hnw (by intro u hu; simp at hu; rcases hu with rfl | rfl | rfl | rfl <;> rfl) (by omega) (by unfold maxLen; omega) (by omega) (by rw [size_alloc]; omega) (u1.heap.size + 1) (size_alloc _ _) ?_; intro g3 cap3 w3 hown3 hgrow3 hat3 hlt3)
           go_meet
           case rel =>
            refine ⟨some ⟨g3, 0, none⟩, n3 + 1, cap3, hs3 ++ [⟨Cmd.cmIt ⟨aK, aL, aQ, aY, aV, aZ⟩, V8, c8⟩], rfl, by omega, ?_⟩;have hh := hgm.step (ns := [⟨Cmd.cmIt ⟨aK, aL, aQ, aY, aV, aZ⟩, V8, c8⟩]) (fun x hx => by simp only [List.mem_cons, List.not_mem_nil, or_false] at hx; subst hx; exact hl4) (by rw [cells4_h]; exact hown3) hgrow3 (hat3.imp id fun e => by rw [size_alloc]; exact e);simpa using hh
        case rest =>
         obtain ⟨V4, n4, c4, hs4, rfl, hn', hG⟩ := hcut;clear HG HKa HRa HRN HC HN;generalize wc = X4 at hG ⊢;have HN := hid hn';clear hn';obtain ⟨l4, hl⟩ : ∃ l, l3 ++ (if tc = true then [Cmd.cmIt ⟨aK, aL, aQ, aY, aV, aZ⟩] else []) = l := ⟨_, rfl⟩
         rw [hl] at hG;have HL4 := hid hl;clear hl;have HG := hid hG;have HKa := hid (HK0.out.bel hG.2.2.2);have HRa := hid (HR0.out.below hG.2.2.2);have HRN := hid (HN0.out.below hG.2.2.2);have HC := hid (Below.refl X4.heap.size X4);clear hG;go_upto_region 10 with fail
         go_cut [49] from 4 (fun cv wx => cv = .bool th ∧ Grow W (l4) V4 n4 c4 hs4 wx)
         case first =>
          go_wp2_with (first | (with_reducible refine wpList_load_blk_w 32 _ rfl w.heap.size 32 _ _ ?_ ?_ (HKa.out.bel HC.out) Tryz.underlying32 ?_ ?_ ?_; (focus kernel_rfl); (focus kernel_rfl); (focus rfl); (focus kernel_rfl)))
          refine (C4.out _ (HRN.out.below HC.out)).mono ?_;rintro e u1 ⟨rfl, hb1⟩;replace HC := hid (bel_trans HC.out hb1);clear hb1;go_wp2_with fail
          go_meet
          case rel => exact ⟨rfl, HG.out.bel HC.out⟩
         case rest =>
          obtain ⟨rfl, hG⟩ := hcut;clear HG HKa HRa HRN HC;generalize wc = Y4 at hG ⊢;have HG := hid hG;have HKa := hid (HK0.out.bel hG.2.2.2);have HRa := hid (HR0.out.below hG.2.2.2);have HRN := hid (HN0.out.below hG.2.2.2);have HC := hid (Below.refl Y4.heap.size Y4);clear hG;go_upto_if 49 with fail
          go_cut [3] from 4 (fun v5 wx => ∃ V n c hs, v5 = .slice V n c ∧ n ≤ 8 ∧ Grow W (l4 ++ (if th = true then [attIt ⟨al, aE, aG⟩] else [])) V n c hs wx)
          case first =>
           cases th with
           | false =>
             go_wp2_with fail
             go_meet
             case rel => exact ⟨V4, n4, c4, hs4, rfl, by have := HN.out; omega, by simpa using HG.out⟩
           | true =>
             have hca := (HP.out.2.2.2.2.2.2.1 rfl).1;have HAT := hid (fun w (h : Rs w aA an ac al) => (show Calls Tryz.prog 30 #[.agg #[.slice aA an ac, .int .i64 aE, .int .i64 aG]] w (GivesNew w (attIt ⟨al, aE, aG⟩)) from by (have h := attitem_any al aE aG aA an ac w h; rw [attItem, if_pos hca] at h; exact h)).mono fun _ _ h => GivesNew.list (n := 3) rfl h);have hnn := HN.out;have hWX := HG.out.2.2.2.size;have hlt0 := HG.out.2.1.lt;obtain ⟨-, -, -, -, -, -, -, -, -, -, -, -, -, -, xa14, xa15, xa16, -⟩ := blk18 (HKa.out.bel HC.out);go_wp2_with fail
             refine (HAT.out _ HRa.out).mono ?_;rintro e u1 ⟨V8, c8, rfl, hl3, hb1⟩;clear xa14 xa15 xa16;have hXu := hb1.size;have hgm := (HG.out.bel hb1).alloc (.cells #[.int .i64 2, .int .u64 0, .string ByteArray.empty, .slice V8 3 c8] 57);have hnw := World.news_of_block (Blk.new u1 57 #[.int .i64 2, .int .u64 0, .string ByteArray.empty, .slice V8 3 c8]);have hl4 := (hl3.alloc (.cells #[.int .i64 2, .int .u64 0, .string ByteArray.empty, .slice V8 3 c8] 57)).more (S' := fun b => W.heap.size ≤ b ∧ b < (u1.alloc (.cells #[.int .i64 2, .int .u64 0, .string ByteArray.empty, .slice V8 3 c8] 57)).heap.size ∧ some b ≠ (Value.slice V4 n4 c4).ownBlock) fun b hb _ => ⟨by have := hb.1; omega, by rw [size_alloc]; have := hb.2; omega, fun e => by have := (hlt0 b e.symm).2; have := hb.1; omega⟩
             go_wp2_with (at_builtin; refine wpList_append_lies _ rfl (.tmp 50) (.tmp 54) 55 rfl W.heap.size 57 i0 _ 4 56 Tryz.underlying55 hi hz0 hz1 hz2 rfl (by omega) (.slice V4 n4 c4) n4 _ (by simp [Act.eval]) hgm.2.1 ⟨u1.heap.size, 0, none⟩ 1 1 [.int .i64 2, .int .u64 0, .string ByteArray.empty, .slice V8 3 c8] (by simp [Act.eval]) rfl hnw (by intro u hu; simp at hu; rcases hu with rfl | rfl | rfl | rfl <;> rfl) (by omega) (by unfold maxLen; omega) (by omega) (by rw [size_alloc]; omega) (u1.heap.size + 1) (size_alloc _ _) ?_; intro g3 cap3 w3 hown3 hgrow3 hat3 hlt3)
             go_meet
             case rel =>
              refine ⟨some ⟨g3, 0, none⟩, n4 + 1, cap3, hs4 ++ [⟨attIt ⟨al, aE, aG⟩, V8, c8⟩], rfl, by omega, ?_⟩;have hh := hgm.step (ns := [⟨attIt ⟨al, aE, aG⟩, V8, c8⟩]) (fun x hx => by simp only [List.mem_cons, List.not_mem_nil, or_false] at hx; subst hx; exact hl4) (by rw [cells4_h]; exact hown3) hgrow3 (hat3.imp id fun e => by rw [size_alloc]; exact e);simpa using hh
          case rest =>
           obtain ⟨V5, n5, c5, hs5, rfl, hn', hG⟩ := hcut;clear HG HKa HRa HRN HC HN;generalize wc = X5 at hG ⊢;have HN := hid hn';clear hn';obtain ⟨l5, hl⟩ : ∃ l, l4 ++ (if th = true then [attIt ⟨al, aE, aG⟩] else []) = l := ⟨_, rfl⟩
           rw [hl] at hG;have HL5 := hid hl;clear hl;have HG := hid hG;have HKa := hid (HK0.out.bel hG.2.2.2);have HRa := hid (HR0.out.below hG.2.2.2);have HRN := hid (HN0.out.below hG.2.2.2);have HC := hid (Below.refl X5.heap.size X5);clear hG;go_upto_region 12 with fail
           go_cut [57] from 4 (fun cv wx => cv = .bool k9 ∧ Grow W (l5) V5 n5 c5 hs5 wx)
           case first =>
            go_wp2_with (first | (with_reducible refine wpList_load_blk_w 32 _ rfl w.heap.size 32 _ _ ?_ ?_ (HKa.out.bel HC.out) Tryz.underlying32 ?_ ?_ ?_; (focus kernel_rfl); (focus kernel_rfl); (focus rfl); (focus kernel_rfl)))
            refine (C9.out _ (HRN.out.below HC.out)).mono ?_;rintro e u1 ⟨rfl, hb1⟩;replace HC := hid (bel_trans HC.out hb1);clear hb1;go_wp2_with fail
            go_meet
            case rel => exact ⟨rfl, HG.out.bel HC.out⟩
           case rest =>
            obtain ⟨rfl, hG⟩ := hcut;clear HG HKa HRa HRN HC;generalize wc = Y5 at hG ⊢;have HG := hid hG;have HKa := hid (HK0.out.bel hG.2.2.2);have HRa := hid (HR0.out.below hG.2.2.2);have HRN := hid (HN0.out.below hG.2.2.2);have HC := hid (Below.refl Y5.heap.size Y5);clear hG;go_upto_if 57 with fail
            go_cut [3] from 4 (fun v5 wx => ∃ V n c hs, v5 = .slice V n c ∧ n ≤ 9 ∧ Grow W (l5 ++ (if k9 = true then [Cmd.numIt aW] else [])) V n c hs wx)
            case first =>
             cases k9 with
             | false =>
               go_wp2_with fail
               go_meet
               case rel => exact ⟨V5, n5, c5, hs5, rfl, by have := HN.out; omega, by simpa using HG.out⟩
             | true =>
               have h9 := HP.out.2.2.2.2.2.2.2.2.2 rfl;have hvn := HP.out.2.2.2.2.2.2.2.1 h9;clear h9;have NV := hid (mnumber_any aW (by omega) (by omega));have hnn := HN.out;have hWX := HG.out.2.2.2.size;have hlt0 := HG.out.2.1.lt;have xa17 := (HKa.out.bel HC.out).cell 17;simp at xa17;go_wp2_with fail
               refine (NV.out _).mono ?_;rintro e u1 ⟨rfl, hb1⟩;clear xa17;have hXu := hb1.size;have hgm := (HG.out.bel hb1).alloc (.cells #[.int .i64 0, .int .u64 aW, .string ByteArray.empty, .slice none 0 0] 57);have hnw := World.news_of_block (Blk.new u1 57 #[.int .i64 0, .int .u64 aW, .string ByteArray.empty, .slice none 0 0]);have hl4 : Lies (u1.alloc (.cells #[.int .i64 0, .int .u64 aW, .string ByteArray.empty, .slice none 0 0] 57)) (fun b => W.heap.size ≤ b ∧ b < (u1.alloc (.cells #[.int .i64 0, .int .u64 aW, .string ByteArray.empty, .slice none 0 0] 57)).heap.size ∧ some b ≠ (Value.slice V5 n5 c5).ownBlock) (Cmd.numIt aW) none 0 := lies_num _ _ aW (by omega);go_wp2_with (at_builtin; refine wpList_append_lies _ rfl (.tmp 58) (.tmp 62) 55 rfl W.heap.size 57 i0 _ 4 56 Tryz.underlying55 hi hz0 hz1 hz2 rfl (by omega) (.slice V5 n5 c5) n5 _ (by simp [Act.eval]) hgm.2.1 ⟨u1.heap.size, 0, none⟩ 1 1 [.int .i64 0, .int .u64 aW, .string ByteArray.empty, .slice none 0 0] (by simp [Act.eval]) rfl hnw (by intro u hu; simp at hu; rcases hu with rfl | rfl | rfl | rfl <;> rfl) (by omega) (by unfold maxLen; omega) (by omega) (by rw [size_alloc]; omega) (u1.heap.size + 1) (size_alloc _ _) ?_; intro g3 cap3 w3 hown3 hgrow3 hat3 hlt3)
               go_meet
               case rel =>
                refine ⟨some ⟨g3, 0, none⟩, n5 + 1, cap3, hs5 ++ [⟨Cmd.numIt aW, none, 0⟩], rfl, by omega, ?_⟩;have hh := hgm.step (ns := [⟨Cmd.numIt aW, none, 0⟩]) (fun x hx => by simp only [List.mem_cons, List.not_mem_nil, or_false] at hx; subst hx; exact hl4) (by rw [cells4_h, num_cells _ (by omega)]; exact hown3) hgrow3 (hat3.imp id fun e => by rw [size_alloc]; exact e);simpa using hh
            case rest =>
             obtain ⟨V6, n6, c6, hs6, rfl, hn', hG⟩ := hcut;clear HG HKa HRa HRN HC HN;generalize wc = X6 at hG ⊢;have HN := hid hn';clear hn';obtain ⟨l6, hl⟩ : ∃ l, l5 ++ (if k9 = true then [Cmd.numIt aW] else []) = l := ⟨_, rfl⟩
             rw [hl] at hG;have HL6 := hid hl;clear hl;have HG := hid hG;have HKa := hid (HK0.out.bel hG.2.2.2);have HRa := hid (HR0.out.below hG.2.2.2);have HRN := hid (HN0.out.below hG.2.2.2);have HC := hid (Below.refl X6.heap.size X6);clear hG;go_upto_region 14 with fail
             have hL : mgIt ⟨aM, (aR, aN), (aB, aC), (aT, aU), aS, ⟨aK, aL, aQ, aY, aV, aZ⟩, ⟨al, aE, aG⟩, aW⟩ = .mk 2 0 ByteArray.empty l6 := by
              rw [HIT.out, ← HL6.out, ← HL5.out, ← HL4.out, ← HL3.out, ← HL2.out, ← HL1.out, ← HL0.out];simp only [List.append_assoc]
             have hwl : wts l6 ≤ 100000 := by
              have h := HWT.out;rw [hL] at h;have e : wt (.mk 2 0 ByteArray.empty l6) = 1 + ByteArray.empty.size + wts l6 := rfl;omega
             obtain ⟨h1, h2, h3, h4⟩ := HG.out
             have hln : l6.length = n6 := by
              have h := h2.1;rw [length_cells4] at h;rw [← h1, List.length_map];omega
             have hrow := row_own4 (S := fun b => W.heap.size ≤ b ∧ b < X6.heap.size) h2 (fun x hx => (h3 x hx).more fun b hb _ => ⟨hb.1, hb.2.1⟩) (fun b hb hb' => ⟨hb, hb'⟩);rw [h1] at hrow;have HLS := hid (list_more V6 n6 c6 _ l6 X6 hrow (fun b hb => hb.2) hwl);have HH4 := hid h4;have HLN := hid hln;have HLL := hid hL;clear h1 h2 h3 h4 hrow hln hL hwl;go_wp2_with fail
             refine HLS.out.mono ?_;rintro e u9 ⟨V9, c9, rfl, hr9, hb1⟩;have hz9 := HZ.out.bel (HH4.out.trans (hb1.mono HH4.out.size));have HZ9 := hid hz9;have HR9 := hid hr9;have HB9 := hid hb1;clear hb1 hz9 hr9 HG HKa HRa HRN HC;go_wp2_with (first | fail | (refine wpList_store_blk rfl 57 _ _ rfl (w.heap.size + 1) 57 _ #[.int .i64 2, .int .u64 0, .string ByteArray.empty, .slice V9 n6 c9] rfl rfl HZ9.out (by kernel_rfl) rfl (by kernel_rfl) ?_; intro w9 hblk2 hgr))
             refine bodyPost_ret (v := .agg _) (results_blk Tryz.results28 _ _ (w.heap.size + 1) 57 _ _ rfl hblk2 Tryz.underlying57 rfl (by kernel_rfl)) rfl ?_;have hsw := HSW.out;have hs4 := HH4.out.size;have hb4 := HB.out.trans (HH4.out.mono HB.out.size);have hb5 := hb4.trans (HB9.out.mono hb4.size);have hrow9 := (HR9.out.grown hgr (fun b hb e => by injection e with e; have := hb.2; omega)).more (S' := fun b => w.heap.size ≤ b ∧ b < w9.heap.size) fun b hb hlt => ⟨by have := hb.2; omega, hlt⟩
             rw [HLL.out];refine ⟨V9, c9, by rw [← HLN.out]; rfl, ?_, ?_⟩
             · exact hrow9.lies (k := 2) (n := 0) (s := ByteArray.empty) (by omega) (by omega) (by decide)
             · exact hb5.trans (gr_below hgr hb5.size fun b hb => by injection hb with hb; omega)
end Go.Proofs.YthlhchaoedcdbaaGreatDoor.Mg
