/-
  Texts of earlier layers, as one.
-/
import Derived.Test.YtbjooblaamjppaaGreatRecForm
/- The document's laid. -/
namespace Go.Proofs.YtbjooblaamjppaaGreat.Rk
open Go.RowKit Mem Ids Att Cod

set_option maxRecDepth 100000 in
set_option maxHeartbeats 4000000 in
theorem laid_any (aR aN aS aB aC aT aU aK aL aQ : Int) (aY aV : ByteArray) (aZ : Int) (aA : Option Addr) (an ac : Nat) (aE aG : Int) (al : List (Int × Int)) (y : It) (yA : Option Addr) (yc : Nat) (S : Nat → Prop) (w : World) (hc : rgt ⟨(aR, aN), aS, (aB, aC), (aT, aU), ⟨aK, aL, aQ, aY, aV, aZ⟩, ⟨al, aE, aG⟩⟩ = true) (hy : Lies w S y yA yc) (hS : ∀ b, S b → b < w.heap.size) (hwt : wt y ≤ 60000) :
    Calls Tryz.prog 32 #[.agg #[.int .i64 aR, .int .i64 aN, .int .i64 aS, .int .i64 aB, .int .i64 aC, .int .i64 aT, .int .i64 aU, .int .i64 aK, .int .i64 aL, .int .i64 aQ, .string aY, .string aV, .int .i64 aZ, .slice aA an ac, .int .i64 aE, .int .i64 aG], .agg #[.int .i64 y.kind, .int .u64 (y.num : Int), .string y.str, .slice yA y.kids.length yc]] w (GivesUp S w (laidIt ⟨(aR, aN), aS, (aB, aC), (aT, aU), ⟨aK, aL, aQ, aY, aV, aZ⟩, ⟨al, aE, aG⟩⟩ y)) := by
  obtain ⟨i0, hi, hz0, hz1, hz2⟩ := info_parts info25
  obtain ⟨g1, g2, g3, g4, g5, g6, _⟩ := rgt_parts hc
  simp only at g1 g2 g3 g4 g5 g6
  obtain ⟨ym, hym⟩ : ∃ ym, y.kids.length = ym := ⟨_, rfl⟩
  rw [hym]
  have HYM := Lib.hid hym
  clear hym
  obtain ⟨W, hW⟩ : ∃ W, ((w.alloc (.cells #[.int .i64 aR, .int .i64 aN, .int .i64 aS, .int .i64 aB, .int .i64 aC, .int .i64 aT, .int .i64 aU, .int .i64 aK, .int .i64 aL, .int .i64 aQ, .string aY, .string aV, .int .i64 aZ, .slice aA an ac, .int .i64 aE, .int .i64 aG] 32)).alloc (.cells #[.int .i64 y.kind, .int .u64 (y.num : Int), .string y.str, .slice yA ym yc] 36)).alloc (.cells #[.int .i64 0, .int .u64 0, .string ⟨#[]⟩, .slice none 0 0] 36) = W := ⟨_, rfl⟩
  obtain ⟨k1, k2, k3, kb, hsW⟩ := three_kinds w _ _ _ _ _ _ W hW
  have HK := Lib.hid k1
  have HY := Lib.hid k2
  have HX := Lib.hid k3
  have HB0 := Lib.hid kb
  have HW := Lib.hid hW
  have HYL := Lib.hid (hy.below kb hS)
  have HSS := Lib.hid hS
  have HC := Lib.hid hc
  have HWT := Lib.hid hwt
  have H0 := Lib.hid (refnum_any aR (by omega) (by omega))
  have H1 := Lib.hid (refnum_any aN (by omega) (by omega))
  have H2 := Lib.hid (refnum_any aS (by omega) (by omega))
  have HB1 := Lib.hid (fun w => (show Calls Tryz.prog 68 #[.agg #[.int .i64 aB, .int .i64 aC]] w (GivesNew w (Bal.balIt (aB, aC))) from (Bal.refbalitem_any aB aC w g4)).mono fun _ _ h => GivesNew.list (n := 2) rfl h)
  have HB2 := Lib.hid (fun w => (show Calls Tryz.prog 68 #[.agg #[.int .i64 aT, .int .i64 aU]] w (GivesNew w (Bal.balIt (aT, aU))) from (Bal.refbalitem_any aT aU w g5)).mono fun _ _ h => GivesNew.list (n := 2) rfl h)
  have HCM := Lib.hid (fun w (hs : ¬ aS = 0) => (show Calls Tryz.prog 69 #[.agg #[.int .i64 aK, .int .i64 aL, .int .i64 aQ, .string aY, .string aV, .int .i64 aZ]] w (GivesNew w (Cmd.cmIt ⟨aK, aL, aQ, aY, aV, aZ⟩)) from by have hcc := (g6 hs).1; exact (Cw.refcmitem_new aK aL aQ aY aV aZ w hcc)).mono fun _ _ h => GivesNew.list (n := 6) rfl h)
  have HR5 := Lib.hid (hung5_cells aR aN aS aB aC aT aU aK aL aQ aY aV aZ aE aG al g1.1 g2.1 g3.1)
  obtain ⟨p0, p1, p2, p3, p4, p5, p6, p7, p8, p9, p10, p11, p12, p13, p14, p15⟩ := blk16 k1
  have hwW : w.heap.size < W.heap.size := by omega
  have HSW := Lib.hid hsW
  clear k1 k2 k3 kb hW hy hS hc hwt g1 g2 g3 g4 g5 g6 hsW
  go_enter Tryz.func32, Tryz.ntmps32
  go_wp2_with fail
  rw [HW.out]
  have HCUR := Lib.hid (Below.drew (Below.refl W.heap.size W))
  go_region_held3 (fun w' => w'.cell? ⟨w.heap.size, 0, none⟩ = some (.int .i64 aR) ∧ w'.cell? ⟨w.heap.size, 1, none⟩ = some (.int .i64 aN) ∧ w'.cell? ⟨w.heap.size, 2, none⟩ = some (.int .i64 aS) ∧ w'.cell? ⟨w.heap.size, 3, none⟩ = some (.int .i64 aB) ∧ w'.cell? ⟨w.heap.size, 4, none⟩ = some (.int .i64 aC) ∧ w'.cell? ⟨w.heap.size, 5, none⟩ = some (.int .i64 aT) ∧ w'.cell? ⟨w.heap.size, 6, none⟩ = some (.int .i64 aU)) (first | (with_reducible exact held7a HK.out HCUR.out _) | (with_reducible exact held7 HK.out HCUR.out))
    (first
    | (go_at_call 67
       refine (H0.out _).mono ?_
       rintro e v1 ⟨rfl, hb1⟩
       have hnow := HCUR.out.trans (hb1.mono HCUR.out.size)
       replace HCUR := Lib.hid hnow
       clear H0 hb1 hnow)
    | (go_at_call 67
       refine (H1.out _).mono ?_
       rintro e v1 ⟨rfl, hb1⟩
       have hnow := HCUR.out.trans (hb1.mono HCUR.out.size)
       replace HCUR := Lib.hid hnow
       clear H1 hb1 hnow)
    | (go_at_call 67
       refine (H2.out _).mono ?_
       rintro e v1 ⟨rfl, hb1⟩
       have hnow := HCUR.out.trans (hb1.mono HCUR.out.size)
       replace HCUR := Lib.hid hnow
       clear H2 hb1 hnow)
    | (go_at_call 68
       refine (HB1.out _).mono ?_
       rintro e v1 ⟨V3, c3, rfl, hl3, hb1⟩
       have hnow := HCUR.out.trans (hb1.mono HCUR.out.size)
       have HL3 := Lib.hid (hl3.more (S' := fun b => W.heap.size ≤ b ∧ b < v1.heap.size) fun b hb _ => ⟨Nat.le_trans HCUR.out.size hb.1, hb.2⟩)
       replace HCUR := Lib.hid hnow
       clear HB1 hb1 hnow hl3)
    | (go_at_call 68
       refine (HB2.out _).mono ?_
       rintro e v2 ⟨V4, c4, rfl, hl4, hb1⟩
       have hnow := HCUR.out.trans (hb1.mono HCUR.out.size)
       have HL4 := Lib.hid (hl4.more (S' := fun b => W.heap.size ≤ b ∧ b < v2.heap.size) fun b hb _ => ⟨Nat.le_trans HCUR.out.size hb.1, hb.2⟩)
       replace HL3 := Lib.hid ((HL3.out.below hb1 (fun b hb => hb.2)).more (S' := fun b => W.heap.size ≤ b ∧ b < v2.heap.size) fun b hb _ => ⟨hb.1, Nat.lt_of_lt_of_le hb.2 hb1.size⟩)
       replace HCUR := Lib.hid hnow
       clear HB2 hb1 hnow hl4))
  have hown := (congrArg (fun l => World.ownsRow (v2.alloc (.cells #[.int .i64 0, .int .u64 aR, .string ByteArray.empty, .slice none 0 0, .int .i64 0, .int .u64 aN, .string ByteArray.empty, .slice none 0 0, .int .i64 0, .int .u64 aS, .string ByteArray.empty, .slice none 0 0, .int .i64 2, .int .u64 0, .string ByteArray.empty, .slice V3 2 c3, .int .i64 2, .int .u64 0, .string ByteArray.empty, .slice V4 2 c4] 36)) W.heap.size 36 4 (.slice (some ⟨v2.heap.size, 0, none⟩) 5 5) 5 l) (HR5.out V3 c3 V4 c4)).mp (World.ownsRow_lit (base := W.heap.size) (e := 36) (size := 4) v2 #[.int .i64 0, .int .u64 aR, .string ByteArray.empty, .slice none 0 0, .int .i64 0, .int .u64 aN, .string ByteArray.empty, .slice none 0 0, .int .i64 0, .int .u64 aS, .string ByteArray.empty, .slice none 0 0, .int .i64 2, .int .u64 0, .string ByteArray.empty, .slice V3 2 c3, .int .i64 2, .int .u64 0, .string ByteArray.empty, .slice V4 2 c4] 5 HCUR.out.size (by decide) rfl)
  have hs5 := size_alloc v2 (.cells #[.int .i64 0, .int .u64 aR, .string ByteArray.empty, .slice none 0 0, .int .i64 0, .int .u64 aN, .string ByteArray.empty, .slice none 0 0, .int .i64 0, .int .u64 aS, .string ByteArray.empty, .slice none 0 0, .int .i64 2, .int .u64 0, .string ByteArray.empty, .slice V3 2 c3, .int .i64 2, .int .u64 0, .string ByteArray.empty, .slice V4 2 c4] 36)
  have hbw := HCUR.out.alloc HCUR.out.size (.cells #[.int .i64 0, .int .u64 aR, .string ByteArray.empty, .slice none 0 0, .int .i64 0, .int .u64 aN, .string ByteArray.empty, .slice none 0 0, .int .i64 0, .int .u64 aS, .string ByteArray.empty, .slice none 0 0, .int .i64 2, .int .u64 0, .string ByteArray.empty, .slice V3 2 c3, .int .i64 2, .int .u64 0, .string ByteArray.empty, .slice V4 2 c4] 36)
  replace HL3 := Lib.hid (HL3.out.alloc (.cells #[.int .i64 0, .int .u64 aR, .string ByteArray.empty, .slice none 0 0, .int .i64 0, .int .u64 aN, .string ByteArray.empty, .slice none 0 0, .int .i64 0, .int .u64 aS, .string ByteArray.empty, .slice none 0 0, .int .i64 2, .int .u64 0, .string ByteArray.empty, .slice V3 2 c3, .int .i64 2, .int .u64 0, .string ByteArray.empty, .slice V4 2 c4] 36))
  replace HL4 := Lib.hid (HL4.out.alloc (.cells #[.int .i64 0, .int .u64 aR, .string ByteArray.empty, .slice none 0 0, .int .i64 0, .int .u64 aN, .string ByteArray.empty, .slice none 0 0, .int .i64 0, .int .u64 aS, .string ByteArray.empty, .slice none 0 0, .int .i64 2, .int .u64 0, .string ByteArray.empty, .slice V3 2 c3, .int .i64 2, .int .u64 0, .string ByteArray.empty, .slice V4 2 c4] 36))
  generalize v2.alloc (.cells #[.int .i64 0, .int .u64 aR, .string ByteArray.empty, .slice none 0 0, .int .i64 0, .int .u64 aN, .string ByteArray.empty, .slice none 0 0, .int .i64 0, .int .u64 aS, .string ByteArray.empty, .slice none 0 0, .int .i64 2, .int .u64 0, .string ByteArray.empty, .slice V3 2 c3, .int .i64 2, .int .u64 0, .string ByteArray.empty, .slice V4 2 c4] 36) = W5 at hown hs5 hbw HL3 HL4 ⊢
  have HO := Lib.hid hown
  have HBW := Lib.hid hbw
  have HS5 := Lib.hid hs5
  have HSV := Lib.hid HCUR.out.size
  obtain ⟨q0, q1, q2, q3, q4, q5, q6, q7, q8, q9, q10, q11, q12, q13, q14, q15⟩ := blk16 (HK.out.bel hbw)
  obtain ⟨y0, y1, y2, y3⟩ := blk4 (HY.out.bel hbw)
  have hblk := HX.out.bel hbw
  clear hown hs5 hbw HCUR p0 p1 p2 p3 p4 p5 p6 p7 p8 p9 p10 p11 p12 p13 p14 p15
  by_cases hs : aS = 0
  case pos =>
    have b0 : (aS != 0) = false := by simpa using hs
    have hrow := row_own4 (S := fun b => (S b ∨ W.heap.size ≤ b) ∧ b < W5.heap.size) HO.out (hung5_lies HC.out (HL3.out.more fun b hb _ => ⟨.inr hb.1, by have := HS5.out; omega⟩) (HL4.out.more fun b hb _ => ⟨.inr hb.1, by have := HS5.out; omega⟩)) (fun b hb hb' => ⟨.inr hb, hb'⟩)
    have HIT := Lib.hid (show laidIt ⟨(aR, aN), aS, (aB, aC), (aT, aU), ⟨aK, aL, aQ, aY, aV, aZ⟩, ⟨al, aE, aG⟩⟩ y = .mk 2 0 ByteArray.empty (fronts ⟨(aR, aN), aS, (aB, aC), (aT, aU), ⟨aK, aL, aQ, aY, aV, aZ⟩, ⟨al, aE, aG⟩⟩) from by unfold laidIt; rw [if_pos hs])
    have HROW := Lib.hid hrow
    have HBK := Lib.hid hblk
    clear hrow hblk hs HCM y0 y1 y2 y3
    go_wp2_with fail
    refine (reflist_any (some ⟨v2.heap.size, 0, none⟩) 5 5 W5).mono ?_
    rintro e w5 ⟨rfl, hb5⟩
    have hq5 := (HROW.out.below hb5 (fun b hb => hb.2)).more (S' := fun b => (S b ∨ W.heap.size ≤ b) ∧ b < w5.heap.size) fun b hb _ => ⟨hb.1, Nat.lt_of_lt_of_le hb.2 hb5.size⟩
    have hz5 := hb5.size
    have hblk5 := HBK.out.bel hb5
    obtain ⟨c0, c1, c2, c3'⟩ := blk4 hblk5
    have z0 := hblk5.soft 0
    have z1 := hblk5.soft 1
    have z2 := hblk5.soft 2
    have z3 := hblk5.soft 3
    have HQ5 := Lib.hid hq5
    have HB5 := Lib.hid (HBW.out.trans (hb5.mono HBW.out.size))
    have HZ5 := Lib.hid hz5
    clear hq5 hb5 hz5
    go_wp2_with fail
    obtain ⟨hblk2, hgr⟩ := blk4_set hblk5 (.int .i64 2) (.int .u64 0) (.string ByteArray.empty) (.slice (some ⟨v2.heap.size, 0, none⟩) 5 5)
    generalize (((w5.setCell ⟨w.heap.size + 2, 0, none⟩ (.int .i64 2)).setCell ⟨w.heap.size + 2, 1, none⟩ (.int .u64 0)).setCell ⟨w.heap.size + 2, 2, none⟩ (.string ByteArray.empty)).setCell ⟨w.heap.size + 2, 3, none⟩ (.slice (some ⟨v2.heap.size, 0, none⟩) 5 5) = w9 at hblk2 hgr ⊢
    obtain ⟨d0, d1, d2, d3⟩ := blk4 hblk2
    refine bodyPost_ret (v := .agg #[.int .i64 2, .int .u64 0, .string ByteArray.empty, .slice (some ⟨v2.heap.size, 0, none⟩) 5 5]) (by simp [results, Tryz.results32, go_sem, d0, d1, d2, d3]) rfl ?_
    have hs9 := hgr.size
    have e1 := HSW.out
    have e2 := HB5.out.size
    have hrow9 : Cod.Row w9 (fun b => (S b ∨ w.heap.size ≤ b) ∧ b < w9.heap.size) (some ⟨v2.heap.size, 0, none⟩) 5 5 (fronts ⟨(aR, aN), aS, (aB, aC), (aT, aU), ⟨aK, aL, aQ, aY, aV, aZ⟩, ⟨al, aE, aG⟩⟩) := (HQ5.out.grown hgr (fun b hb e => by injection e with e; rcases hb.1 with h | h; have := HSS.out b h; omega; omega)).more fun b hb _ => ⟨by rcases hb.1 with h | h; exact .inl h; exact .inr (by omega), by omega⟩
    rw [HIT.out]
    refine ⟨(some ⟨v2.heap.size, 0, none⟩), 5, rfl, hrow9.lies (by omega) (by omega) (by decide), ?_⟩
    exact (HB0.out.trans (HB5.out.mono (by omega))).trans (gr_below hgr (by omega) fun b hb => by injection hb with hb; omega)
  have b0 : (aS != 0) = true := by simpa using hs
  have HIT := Lib.hid (show laidIt ⟨(aR, aN), aS, (aB, aC), (aT, aU), ⟨aK, aL, aQ, aY, aV, aZ⟩, ⟨al, aE, aG⟩⟩ y = .mk 2 0 ByteArray.empty (fronts ⟨(aR, aN), aS, (aB, aC), (aT, aU), ⟨aK, aL, aQ, aY, aV, aZ⟩, ⟨al, aE, aG⟩⟩ ++ [Cmd.cmIt ⟨aK, aL, aQ, aY, aV, aZ⟩, y]) from by unfold laidIt; rw [if_neg hs])
  have HCUR := Lib.hid (Below.drew (Below.refl W5.heap.size W5))
  have HK5 := Lib.hid (HK.out.bel HBW.out)
  have HY5 := Lib.hid (HY.out.bel HBW.out)
  have HC7 := Lib.hid (HCM.out · hs)
  have HSZ := Lib.hid (wts_seven HC.out hs HWT.out)
  have HBK0 := Lib.hid hblk
  have HYL5 := Lib.hid (HYL.out.below HBW.out (fun b hb => by have := HSS.out b hb; have := HSW.out; omega))
  have h5W := HS5.out
  have hWv := HSV.out
  have HN1 := Lib.hid (show some w.heap.size ≠ (Value.slice (some ⟨v2.heap.size, 0, none⟩) 5 5).ownBlock from fun e => by simp [Value.ownBlock] at e; omega)
  have HN2 := Lib.hid (show some (w.heap.size + 1) ≠ (Value.slice (some ⟨v2.heap.size, 0, none⟩) 5 5).ownBlock from fun e => by simp [Value.ownBlock] at e; have := HSW.out; omega)
  clear hs hblk HCM
  go_wp2_with fail
  go_region_held3 (fun w' => w'.cell? ⟨w.heap.size, 7, none⟩ = some (.int .i64 aK) ∧ w'.cell? ⟨w.heap.size, 8, none⟩ = some (.int .i64 aL) ∧ w'.cell? ⟨w.heap.size, 9, none⟩ = some (.int .i64 aQ) ∧ w'.cell? ⟨w.heap.size, 10, none⟩ = some (.string aY) ∧ w'.cell? ⟨w.heap.size, 11, none⟩ = some (.string aV) ∧ w'.cell? ⟨w.heap.size, 12, none⟩ = some (.int .i64 aZ) ∧ w'.cell? ⟨w.heap.size + 1, 0, none⟩ = some (.int .i64 y.kind) ∧ w'.cell? ⟨w.heap.size + 1, 1, none⟩ = some (.int .u64 (y.num : Int)) ∧ w'.cell? ⟨w.heap.size + 1, 2, none⟩ = some (.string y.str) ∧ w'.cell? ⟨w.heap.size + 1, 3, none⟩ = some (.slice yA ym yc)) (first | (with_reducible exact HS3.out) | (with_reducible exact held10a HK5.out HY5.out HCUR.out _) | (with_reducible exact held10 HK5.out HY5.out HCUR.out))
    (first
    | (go_at_call 69
       refine (HC7.out _).mono ?_
       rintro e v3 ⟨V5, c5, rfl, hl5, hb1⟩
       have hnow := HCUR.out.trans (hb1.mono HCUR.out.size)
       have HL5 := Lib.hid (hl5.more (S' := fun b => W5.heap.size ≤ b ∧ b < v3.heap.size) fun b hb _ => ⟨Nat.le_trans HCUR.out.size hb.1, hb.2⟩)
       have HO2 := Lib.hid (ownsRow_below HO.out hnow)
       have HNW := Lib.hid (World.news_of_block (Blk.new v3 36 #[.int .i64 2, .int .u64 0, .string ByteArray.empty, .slice V5 6 c5, .int .i64 y.kind, .int .u64 (y.num : Int), .string y.str, .slice yA ym yc]))
       have hsv := hnow.size
       replace HCUR := Lib.hid hnow
       clear HC7 hb1 hnow hl5)
    | (refine step_append_lies _ rfl (.tmp 27) (.tmp 32) 34 rfl W.heap.size 36 i0 _ 4 56 Tryz.underlying34 hi hz0 hz1 hz2 rfl (by omega) (.slice (some ⟨v2.heap.size, 0, none⟩) 5 5) 5 _ (by simp [Act.eval]) (HO2.out.alloc _) ⟨v3.heap.size, 0, none⟩ 2 2 [.int .i64 2, .int .u64 0, .string ByteArray.empty, .slice V5 6 c5, .int .i64 y.kind, .int .u64 (y.num : Int), .string y.str, .slice yA ym yc] (by simp [Act.eval]) rfl HNW.out (by intro u hu; simp at hu; rcases hu with rfl | rfl | rfl | rfl | rfl | rfl | rfl | rfl <;> rfl) (by omega) (by unfold maxLen; omega) (by omega) (by rw [size_alloc]; omega) (v3.heap.size + 1) (size_alloc _ _) ?_
       intro g3 cap3 w3 hown3 hgrow3 _ _
       have HS3 := Lib.hid (held10g HK5.out HY5.out HCUR.out _ hgrow3 HN1.out HN2.out)
       have HO3 := Lib.hid hown3
       have HG3 := Lib.hid hgrow3
       clear hown3 hgrow3))
  have hb3 : Below W.heap.size W w3 := ((HBW.out.trans (HCUR.out.mono HBW.out.size)).alloc (Nat.le_trans HBW.out.size HCUR.out.size) (.cells #[.int .i64 2, .int .u64 0, .string ByteArray.empty, .slice V5 6 c5, .int .i64 y.kind, .int .u64 (y.num : Int), .string y.str, .slice yA ym yc] 36)).trans (gr_below HG3.out (by rw [size_alloc]; omega) fun b hb => by simp [Value.ownBlock] at hb; omega)
  have hne : ∀ b, b ≠ v2.heap.size → some b ≠ (Value.slice (some ⟨v2.heap.size, 0, none⟩) 5 5).ownBlock := fun b hb e => by simp [Value.ownBlock] at e; omega
  have hs3 := HG3.out.size
  rw [size_alloc] at hs3
  have l3 := (((HL3.out.below HCUR.out (fun b hb => by omega)).alloc (.cells #[.int .i64 2, .int .u64 0, .string ByteArray.empty, .slice V5 6 c5, .int .i64 y.kind, .int .u64 (y.num : Int), .string y.str, .slice yA ym yc] 36)).grown HG3.out (fun b hb => hne b (by omega))).more (S' := fun b => (S b ∨ W.heap.size ≤ b) ∧ b < w3.heap.size) fun b hb _ => ⟨.inr hb.1, by omega⟩
  have l4 := (((HL4.out.below HCUR.out (fun b hb => by omega)).alloc (.cells #[.int .i64 2, .int .u64 0, .string ByteArray.empty, .slice V5 6 c5, .int .i64 y.kind, .int .u64 (y.num : Int), .string y.str, .slice yA ym yc] 36)).grown HG3.out (fun b hb => hne b (by omega))).more (S' := fun b => (S b ∨ W.heap.size ≤ b) ∧ b < w3.heap.size) fun b hb _ => ⟨.inr hb.1, by omega⟩
  have l5 := ((HL5.out.alloc (.cells #[.int .i64 2, .int .u64 0, .string ByteArray.empty, .slice V5 6 c5, .int .i64 y.kind, .int .u64 (y.num : Int), .string y.str, .slice yA ym yc] 36)).grown HG3.out (fun b hb => hne b (by omega))).more (S' := fun b => (S b ∨ W.heap.size ≤ b) ∧ b < w3.heap.size) fun b hb _ => ⟨.inr (by omega), by omega⟩
  have l6 := (((HYL5.out.below HCUR.out (fun b hb => by have := HSS.out b hb; omega)).alloc (.cells #[.int .i64 2, .int .u64 0, .string ByteArray.empty, .slice V5 6 c5, .int .i64 y.kind, .int .u64 (y.num : Int), .string y.str, .slice yA ym yc] 36)).grown HG3.out (fun b hb => hne b (by have := HSS.out b hb; omega))).more (S' := fun b => (S b ∨ W.heap.size ≤ b) ∧ b < w3.heap.size) fun b hb _ => ⟨.inl hb, by have := HSS.out b hb; omega⟩
  have hown7 : w3.ownsRow W.heap.size 36 4 (.slice (some ⟨g3, 0, none⟩) 7 cap3) 7 (cells4 (hung5 ⟨(aR, aN), aS, (aB, aC), (aT, aU), ⟨aK, aL, aQ, aY, aV, aZ⟩, ⟨al, aE, aG⟩⟩ V3 c3 V4 c4 ++ [⟨Cmd.cmIt ⟨aK, aL, aQ, aY, aV, aZ⟩, V5, c5⟩, ⟨y, yA, yc⟩])) := by
    have h := HO3.out
    rw [cells4_append]
    have e : cells4 [(⟨Cmd.cmIt ⟨aK, aL, aQ, aY, aV, aZ⟩, V5, c5⟩ : Hung), ⟨y, yA, yc⟩] = [.int .i64 2, .int .u64 0, .string ByteArray.empty, .slice V5 6 c5, .int .i64 y.kind, .int .u64 (y.num : Int), .string y.str, .slice yA ym yc] := by
      rw [← HYM.out]
      rfl
    rw [e]
    exact h
  have hrow := row_own4 (S := fun b => (S b ∨ W.heap.size ≤ b) ∧ b < w3.heap.size) hown7 (by
    intro h hh
    rcases List.mem_append.1 hh with hh | hh
    · exact hung5_lies HC.out l3 l4 h hh
    · simp only [List.mem_cons, List.not_mem_nil, or_false] at hh
      rcases hh with rfl | rfl
      · exact l5
      · exact l6) (fun b hb hb' => ⟨.inr hb, hb'⟩)
  have HROW := Lib.hid (show Cod.Row w3 (fun b => (S b ∨ W.heap.size ≤ b) ∧ b < w3.heap.size) (some ⟨g3, 0, none⟩) 7 cap3 (fronts ⟨(aR, aN), aS, (aB, aC), (aT, aU), ⟨aK, aL, aQ, aY, aV, aZ⟩, ⟨al, aE, aG⟩⟩ ++ [Cmd.cmIt ⟨aK, aL, aQ, aY, aV, aZ⟩, y]) from hrow)
  have HB3 := Lib.hid hb3
  have HBK := Lib.hid (HX.out.bel hb3)
  clear hb3 hne hs3 l3 l4 l5 l6 hown7 hrow
  go_wp2_with fail
  refine (reflist_any (some ⟨g3, 0, none⟩) 7 cap3 w3).mono ?_
  rintro e w5 ⟨rfl, hb5⟩
  have hq5 := (HROW.out.below hb5 (fun b hb => hb.2)).more (S' := fun b => (S b ∨ W.heap.size ≤ b) ∧ b < w5.heap.size) fun b hb _ => ⟨hb.1, Nat.lt_of_lt_of_le hb.2 hb5.size⟩
  have hz5 := hb5.size
  have hblk5 := HBK.out.bel hb5
  obtain ⟨c0, c1, c2, c3'⟩ := blk4 hblk5
  have z0 := hblk5.soft 0
  have z1 := hblk5.soft 1
  have z2 := hblk5.soft 2
  have z3 := hblk5.soft 3
  have HQ5 := Lib.hid hq5
  have HB5 := Lib.hid (HB3.out.trans (hb5.mono HB3.out.size))
  have HZ5 := Lib.hid hz5
  clear hq5 hb5 hz5
  go_wp2_with fail
  obtain ⟨hblk2, hgr⟩ := blk4_set hblk5 (.int .i64 2) (.int .u64 0) (.string ByteArray.empty) (.slice (some ⟨g3, 0, none⟩) 7 cap3)
  generalize (((w5.setCell ⟨w.heap.size + 2, 0, none⟩ (.int .i64 2)).setCell ⟨w.heap.size + 2, 1, none⟩ (.int .u64 0)).setCell ⟨w.heap.size + 2, 2, none⟩ (.string ByteArray.empty)).setCell ⟨w.heap.size + 2, 3, none⟩ (.slice (some ⟨g3, 0, none⟩) 7 cap3) = w9 at hblk2 hgr ⊢
  obtain ⟨d0, d1, d2, d3⟩ := blk4 hblk2
  refine bodyPost_ret (v := .agg #[.int .i64 2, .int .u64 0, .string ByteArray.empty, .slice (some ⟨g3, 0, none⟩) 7 cap3]) (by simp [results, Tryz.results32, go_sem, d0, d1, d2, d3]) rfl ?_
  have hs9 := hgr.size
  have e1 := HSW.out
  have e2 := HB5.out.size
  have hrow9 : Cod.Row w9 (fun b => (S b ∨ w.heap.size ≤ b) ∧ b < w9.heap.size) (some ⟨g3, 0, none⟩) 7 cap3 (fronts ⟨(aR, aN), aS, (aB, aC), (aT, aU), ⟨aK, aL, aQ, aY, aV, aZ⟩, ⟨al, aE, aG⟩⟩ ++ [Cmd.cmIt ⟨aK, aL, aQ, aY, aV, aZ⟩, y]) := (HQ5.out.grown hgr (fun b hb e => by injection e with e; rcases hb.1 with h | h; have := HSS.out b h; omega; omega)).more fun b hb _ => ⟨by rcases hb.1 with h | h; exact .inl h; exact .inr (by omega), by omega⟩
  rw [HIT.out]
  refine ⟨(some ⟨g3, 0, none⟩), cap3, rfl, hrow9.lies (by omega) (by omega) (by decide), ?_⟩
  exact (HB0.out.trans (HB5.out.mono (by omega))).trans (gr_below hgr (by omega) fun b hb => by injection hb with hb; omega)
end Go.Proofs.YtbjooblaamjppaaGreat.Rk
