/-
  Texts of earlier layers, as one.
-/
import Derived.Test.YtbjooblaamjppaaGreatRecForm
import Derived.Test.YtbjooblaamjppaaGreatRecSame
/- rec.Item: the item of a right record, in memory of the call's own. -/
namespace Go.Proofs.YtbjooblaamjppaaGreat.Rk
open Go.RowKit Mem Ids Att Cod

theorem held16 {w w' : World} {g : Nat} {t : TypeId} {v0 v1 v2 v3 v4 v5 v6 v7 v8 v9 v10 v11 v12 v13 v14 v15 : Value} (h1 : Blk w g t #[v0, v1, v2, v3, v4, v5, v6, v7, v8, v9, v10, v11, v12, v13, v14, v15]) (hb : Below w.heap.size w w') : w'.cell? ⟨g, 0, none⟩ = some v0 ∧ w'.cell? ⟨g, 1, none⟩ = some v1 ∧ w'.cell? ⟨g, 2, none⟩ = some v2 ∧ w'.cell? ⟨g, 3, none⟩ = some v3 ∧ w'.cell? ⟨g, 4, none⟩ = some v4 ∧ w'.cell? ⟨g, 5, none⟩ = some v5 ∧ w'.cell? ⟨g, 6, none⟩ = some v6 ∧ w'.cell? ⟨g, 7, none⟩ = some v7 ∧ w'.cell? ⟨g, 8, none⟩ = some v8 ∧ w'.cell? ⟨g, 9, none⟩ = some v9 ∧ w'.cell? ⟨g, 10, none⟩ = some v10 ∧ w'.cell? ⟨g, 11, none⟩ = some v11 ∧ w'.cell? ⟨g, 12, none⟩ = some v12 ∧ w'.cell? ⟨g, 13, none⟩ = some v13 ∧ w'.cell? ⟨g, 14, none⟩ = some v14 ∧ w'.cell? ⟨g, 15, none⟩ = some v15 := blk16 (h1.bel hb)
theorem held16s {w w' : World} {g : Nat} {t : TypeId} {v0 v1 v2 v3 v4 v5 v6 v7 v8 v9 v10 v11 v12 v13 v14 v15 : Value} {r : Nat} (h1 : Blk w g t #[v0, v1, v2, v3, v4, v5, v6, v7, v8, v9, v10, v11, v12, v13, v14, v15]) (hb : Below w.heap.size w w') (hr : g ≠ r) (x0 x1 x2 x3 : Value) : ((((w'.setCell ⟨r, 0, none⟩ x0).setCell ⟨r, 1, none⟩ x1).setCell ⟨r, 2, none⟩ x2).setCell ⟨r, 3, none⟩ x3).cell? ⟨g, 0, none⟩ = some v0 ∧ ((((w'.setCell ⟨r, 0, none⟩ x0).setCell ⟨r, 1, none⟩ x1).setCell ⟨r, 2, none⟩ x2).setCell ⟨r, 3, none⟩ x3).cell? ⟨g, 1, none⟩ = some v1 ∧ ((((w'.setCell ⟨r, 0, none⟩ x0).setCell ⟨r, 1, none⟩ x1).setCell ⟨r, 2, none⟩ x2).setCell ⟨r, 3, none⟩ x3).cell? ⟨g, 2, none⟩ = some v2 ∧ ((((w'.setCell ⟨r, 0, none⟩ x0).setCell ⟨r, 1, none⟩ x1).setCell ⟨r, 2, none⟩ x2).setCell ⟨r, 3, none⟩ x3).cell? ⟨g, 3, none⟩ = some v3 ∧ ((((w'.setCell ⟨r, 0, none⟩ x0).setCell ⟨r, 1, none⟩ x1).setCell ⟨r, 2, none⟩ x2).setCell ⟨r, 3, none⟩ x3).cell? ⟨g, 4, none⟩ = some v4 ∧ ((((w'.setCell ⟨r, 0, none⟩ x0).setCell ⟨r, 1, none⟩ x1).setCell ⟨r, 2, none⟩ x2).setCell ⟨r, 3, none⟩ x3).cell? ⟨g, 5, none⟩ = some v5 ∧ ((((w'.setCell ⟨r, 0, none⟩ x0).setCell ⟨r, 1, none⟩ x1).setCell ⟨r, 2, none⟩ x2).setCell ⟨r, 3, none⟩ x3).cell? ⟨g, 6, none⟩ = some v6 ∧ ((((w'.setCell ⟨r, 0, none⟩ x0).setCell ⟨r, 1, none⟩ x1).setCell ⟨r, 2, none⟩ x2).setCell ⟨r, 3, none⟩ x3).cell? ⟨g, 7, none⟩ = some v7 ∧ ((((w'.setCell ⟨r, 0, none⟩ x0).setCell ⟨r, 1, none⟩ x1).setCell ⟨r, 2, none⟩ x2).setCell ⟨r, 3, none⟩ x3).cell? ⟨g, 8, none⟩ = some v8 ∧ ((((w'.setCell ⟨r, 0, none⟩ x0).setCell ⟨r, 1, none⟩ x1).setCell ⟨r, 2, none⟩ x2).setCell ⟨r, 3, none⟩ x3).cell? ⟨g, 9, none⟩ = some v9 ∧ ((((w'.setCell ⟨r, 0, none⟩ x0).setCell ⟨r, 1, none⟩ x1).setCell ⟨r, 2, none⟩ x2).setCell ⟨r, 3, none⟩ x3).cell? ⟨g, 10, none⟩ = some v10 ∧ ((((w'.setCell ⟨r, 0, none⟩ x0).setCell ⟨r, 1, none⟩ x1).setCell ⟨r, 2, none⟩ x2).setCell ⟨r, 3, none⟩ x3).cell? ⟨g, 11, none⟩ = some v11 ∧ ((((w'.setCell ⟨r, 0, none⟩ x0).setCell ⟨r, 1, none⟩ x1).setCell ⟨r, 2, none⟩ x2).setCell ⟨r, 3, none⟩ x3).cell? ⟨g, 12, none⟩ = some v12 ∧ ((((w'.setCell ⟨r, 0, none⟩ x0).setCell ⟨r, 1, none⟩ x1).setCell ⟨r, 2, none⟩ x2).setCell ⟨r, 3, none⟩ x3).cell? ⟨g, 13, none⟩ = some v13 ∧ ((((w'.setCell ⟨r, 0, none⟩ x0).setCell ⟨r, 1, none⟩ x1).setCell ⟨r, 2, none⟩ x2).setCell ⟨r, 3, none⟩ x3).cell? ⟨g, 14, none⟩ = some v14 ∧ ((((w'.setCell ⟨r, 0, none⟩ x0).setCell ⟨r, 1, none⟩ x1).setCell ⟨r, 2, none⟩ x2).setCell ⟨r, 3, none⟩ x3).cell? ⟨g, 15, none⟩ = some v15 :=
  blk16 (((((h1.bel hb).far (p := ⟨r, 0, none⟩) hr x0).far (p := ⟨r, 1, none⟩) hr x1).far (p := ⟨r, 2, none⟩) hr x2).far (p := ⟨r, 3, none⟩) hr x3)
theorem wt_attItem (a : At) : wt (attItem a) ≤ 60000 := by
  unfold attItem
  split
  · have := (wt_att (by assumption)).1
    omega
  · decide
theorem wt_attOld (a : At) : wt (attOld a).1 ≤ 60000 := by
  unfold attOld
  split
  · split
    · have := (wt_att (by assumption)).2
      show wt (oldIt a) ≤ _
      omega
    · show wt zeroIt ≤ _
      decide
  · show wt zeroIt ≤ _
    decide

set_option maxRecDepth 100000 in
set_option maxHeartbeats 4000000 in
theorem item_any (aR aN aS aB aC aT aU aK aL aQ : Int) (aY aV : ByteArray) (aZ : Int) (aA : Option Addr) (an ac : Nat) (aE aG : Int) (al : List (Int × Int)) (w : World) (ha : Rs w aA an ac al) :
    Calls Tryz.prog 9 #[.agg #[.int .i64 aR, .int .i64 aN, .int .i64 aS, .int .i64 aB, .int .i64 aC, .int .i64 aT, .int .i64 aU, .int .i64 aK, .int .i64 aL, .int .i64 aQ, .string aY, .string aV, .int .i64 aZ, .slice aA an ac, .int .i64 aE, .int .i64 aG]] w (GivesNew w (recItem ⟨(aR, aN), aS, (aB, aC), (aT, aU), ⟨aK, aL, aQ, aY, aV, aZ⟩, ⟨al, aE, aG⟩⟩)) := by
  obtain ⟨W, hW⟩ : ∃ W, (w.alloc (.cells #[.int .i64 aR, .int .i64 aN, .int .i64 aS, .int .i64 aB, .int .i64 aC, .int .i64 aT, .int .i64 aU, .int .i64 aK, .int .i64 aL, .int .i64 aQ, .string aY, .string aV, .int .i64 aZ, .slice aA an ac, .int .i64 aE, .int .i64 aG] 32)).alloc (.cells #[.int .i64 0, .int .u64 0, .string ⟨#[]⟩, .slice none 0 0] 36) = W := ⟨_, rfl⟩
  obtain ⟨k1, k2, kb, hsW⟩ := two_kinds w _ _ _ _ W hW
  have HK := Lib.hid k1
  have HX := Lib.hid k2
  have HB0 := Lib.hid kb
  have HW := Lib.hid hW
  have HSW := Lib.hid hsW
  have HNE := Lib.hid (show w.heap.size ≠ w.heap.size + 1 by omega)
  have HRS := Lib.hid (ha.below kb)
  obtain ⟨p0, p1, p2, p3, p4, p5, p6, p7, p8, p9, p10, p11, p12, p13, p14, p15⟩ := blk16 k1
  obtain ⟨y0, y1, y2, y3⟩ := blk4 k2
  have hwW : w.heap.size < W.heap.size := by omega
  have hck := rcheck_any aR aN aS aB aC aT aU aK aL aQ aY aV aZ aA an ac aE aG al W (ha.below kb)
  clear k1 k2 kb hW ha hsW
  go_enter Tryz.func9, Tryz.ntmps9
  go_wp2_with fail
  rw [HW.out]
  cases hc : rgt ⟨(aR, aN), aS, (aB, aC), (aT, aU), ⟨aK, aL, aQ, aY, aV, aZ⟩, ⟨al, aE, aG⟩⟩ with
  | false =>
    have hit : recItem ⟨(aR, aN), aS, (aB, aC), (aT, aU), ⟨aK, aL, aQ, aY, aV, aZ⟩, ⟨al, aE, aG⟩⟩ = zeroIt := if_neg (by rw [hc]; decide)
    have hv : rchk ⟨(aR, aN), aS, (aB, aC), (aT, aU), ⟨aK, aL, aQ, aY, aV, aZ⟩, ⟨al, aE, aG⟩⟩ = 4 := if_neg (by rw [hc]; decide)
    rw [hv] at hck
    have HIT := Lib.hid hit
    have HCK := Lib.hid hck
    clear hck hit hv hc p0 p1 p2 p3 p4 p5 p6 p7 p8 p9 p10 p11 p12 p13 p14 p15 y0 y1 y2 y3
    refine HCK.out.mono ?_
    rintro e w2 ⟨rfl, hb2⟩
    have HBK := Lib.hid (HX.out.bel hb2)
    have HD := Lib.hid (bel_trans HB0.out hb2)
    have e1 := HSW.out
    clear hb2
    obtain ⟨c0, c1, c2, c3⟩ := blk4 HBK.out
    have z0 := HBK.out.soft 0
    have z1 := HBK.out.soft 1
    have z2 := HBK.out.soft 2
    have z3 := HBK.out.soft 3
    go_wp2_with fail
    obtain ⟨hblk2, hgr⟩ := blk4_set HBK.out (.int .i64 0) (.int .u64 0) (.string ⟨#[]⟩) (.slice none 0 0)
    generalize (((w2.setCell ⟨w.heap.size + 1, 0, none⟩ (.int .i64 0)).setCell ⟨w.heap.size + 1, 1, none⟩ (.int .u64 0)).setCell ⟨w.heap.size + 1, 2, none⟩ (.string ⟨#[]⟩)).setCell ⟨w.heap.size + 1, 3, none⟩ (.slice none 0 0) = w9 at hblk2 hgr ⊢
    obtain ⟨d0, d1, d2, d3⟩ := blk4 hblk2
    refine bodyPost_ret (v := .agg #[.int .i64 0, .int .u64 0, .string ByteArray.empty, .slice none 0 0]) (by simp [results, Tryz.results9, go_sem, d0, d1, d2, d3]; rfl) rfl ?_
    rw [HIT.out]
    exact ⟨none, 0, rfl, lies_leaf _ _ (by decide) (by decide) (by decide), HD.out.trans (gr_below hgr (by have := HD.out.size; omega) fun b hb => by cases hb; omega)⟩
  | true =>
  have hv : rchk ⟨(aR, aN), aS, (aB, aC), (aT, aU), ⟨aK, aL, aQ, aY, aV, aZ⟩, ⟨al, aE, aG⟩⟩ = 0 := if_pos hc
  rw [hv] at hck
  have hit : recItem ⟨(aR, aN), aS, (aB, aC), (aT, aU), ⟨aK, aL, aQ, aY, aV, aZ⟩, ⟨al, aE, aG⟩⟩ = laidIt ⟨(aR, aN), aS, (aB, aC), (aT, aU), ⟨aK, aL, aQ, aY, aV, aZ⟩, ⟨al, aE, aG⟩⟩ (attItem ⟨al, aE, aG⟩) := by rw [recItem, if_pos hc]; exact (rec_laid hc).symm
  have hai := fun w (h : Rs w aA an ac al) => attitem_any al aE aG aA an ac w h
  have hyw := wt_attItem ⟨al, aE, aG⟩
  generalize attItem ⟨al, aE, aG⟩ = y at hit hai hyw
  have hfm := (fun v (V : Option Addr) (c : Nat) (h : Lies v (fun b => W.heap.size ≤ b ∧ b < v.heap.size) y V c) => form_any aR aN aS aB aC aT aU aK aL aQ aY aV aZ aA an ac aE aG al y V c _ v hc h (fun b hb => hb.2) hyw)
  generalize laidIt ⟨(aR, aN), aS, (aB, aC), (aT, aU), ⟨aK, aL, aQ, aY, aV, aZ⟩, ⟨al, aE, aG⟩⟩ y = x at hit hfm
  have HIT := Lib.hid hit
  have HAI := Lib.hid hai
  have HFM := Lib.hid hfm
  have HCK := Lib.hid hck
  clear hck hit hai hfm hyw hv hc p0 p1 p2 p3 p4 p5 p6 p7 p8 p9 p10 p11 p12 p13 p14 p15 y0 y1 y2 y3
  refine HCK.out.mono ?_
  rintro e w2 ⟨rfl, hb2⟩
  have HCUR := Lib.hid (Below.drew hb2)
  obtain ⟨p0, p1, p2, p3, p4, p5, p6, p7, p8, p9, p10, p11, p12, p13, p14, p15⟩ := blk16 (HK.out.bel hb2)
  obtain ⟨y0, y1, y2, y3⟩ := blk4 (HX.out.bel hb2)
  clear hb2 HCK
  go_wp2_with fail
  go_region_held3 (fun w' => w'.cell? ⟨w.heap.size, 0, none⟩ = some (.int .i64 aR) ∧ w'.cell? ⟨w.heap.size, 1, none⟩ = some (.int .i64 aN) ∧ w'.cell? ⟨w.heap.size, 2, none⟩ = some (.int .i64 aS) ∧ w'.cell? ⟨w.heap.size, 3, none⟩ = some (.int .i64 aB) ∧ w'.cell? ⟨w.heap.size, 4, none⟩ = some (.int .i64 aC) ∧ w'.cell? ⟨w.heap.size, 5, none⟩ = some (.int .i64 aT) ∧ w'.cell? ⟨w.heap.size, 6, none⟩ = some (.int .i64 aU) ∧ w'.cell? ⟨w.heap.size, 7, none⟩ = some (.int .i64 aK) ∧ w'.cell? ⟨w.heap.size, 8, none⟩ = some (.int .i64 aL) ∧ w'.cell? ⟨w.heap.size, 9, none⟩ = some (.int .i64 aQ) ∧ w'.cell? ⟨w.heap.size, 10, none⟩ = some (.string aY) ∧ w'.cell? ⟨w.heap.size, 11, none⟩ = some (.string aV) ∧ w'.cell? ⟨w.heap.size, 12, none⟩ = some (.int .i64 aZ) ∧ w'.cell? ⟨w.heap.size, 13, none⟩ = some (.slice aA an ac) ∧ w'.cell? ⟨w.heap.size, 14, none⟩ = some (.int .i64 aE) ∧ w'.cell? ⟨w.heap.size, 15, none⟩ = some (.int .i64 aG)) (first | (with_reducible exact held16s HK.out HCUR.out HNE.out _ _ _ _) | (with_reducible exact held16 HK.out HCUR.out))
    (first
    | (go_at_call 31
       with_reducible refine (HAI.out _ (HRS.out.below HCUR.out)).mono ?_
       rintro e v1 ⟨V1, c1, rfl, hl1, hb1⟩
       have hnow := HCUR.out.trans (hb1.mono HCUR.out.size)
       have HL1 := Lib.hid (hl1.more (S' := fun b => W.heap.size ≤ b ∧ b < v1.heap.size) fun b hb _ => ⟨Nat.le_trans HCUR.out.size hb.1, hb.2⟩)
       have hsv := hnow.size
       replace HCUR := Lib.hid hnow
       clear HAI hb1 hnow hl1)
    | (go_at_call 30
       with_reducible refine (HFM.out v1 V1 c1 HL1.out).mono ?_
       rintro e w5 ⟨V9, c9, rfl, hl9, hb1⟩
       have hnow := HCUR.out.trans (hb1.mono HCUR.out.size)
       have HLI := Lib.hid (hl9.more (S' := fun b => W.heap.size ≤ b ∧ b < w5.heap.size) fun b hb _ => ⟨by rcases hb.1 with h | h; exact h.1; omega, hb.2⟩)
       have HBK := Lib.hid (HX.out.bel hnow)
       obtain ⟨c0, c1', c2, c3⟩ := blk4 HBK.out
       have z0 := HBK.out.soft 0
       have z1 := HBK.out.soft 1
       have z2 := HBK.out.soft 2
       have z3 := HBK.out.soft 3
       have HD := Lib.hid (HB0.out.trans (hnow.mono (by omega)))
       replace HCUR := Lib.hid hnow
       clear HFM hb1 hnow hl9))
  go_wp2_with fail
  obtain ⟨hblk2, hgr⟩ := blk4_set HBK.out (.int .i64 x.kind) (.int .u64 (x.num : Int)) (.string x.str) (.slice V9 x.kids.length c9)
  generalize (((w5.setCell ⟨w.heap.size + 1, 0, none⟩ (.int .i64 x.kind)).setCell ⟨w.heap.size + 1, 1, none⟩ (.int .u64 (x.num : Int))).setCell ⟨w.heap.size + 1, 2, none⟩ (.string x.str)).setCell ⟨w.heap.size + 1, 3, none⟩ (.slice V9 x.kids.length c9) = w9 at hblk2 hgr ⊢
  obtain ⟨d0, d1, d2, d3⟩ := blk4 hblk2
  refine bodyPost_ret (v := .agg #[.int .i64 x.kind, .int .u64 (x.num : Int), .string x.str, .slice V9 x.kids.length c9]) (by simp [results, Tryz.results9, go_sem, d0, d1, d2, d3]) rfl ?_
  have hs9 := hgr.size
  have e1 := HSW.out
  have hli9 := (HLI.out.grown hgr (fun b hb e => by injection e with e; omega)).more (S' := fun b => w.heap.size ≤ b ∧ b < w9.heap.size) fun b hb _ => by omega
  rw [HIT.out]
  exact ⟨V9, c9, rfl, hli9, HD.out.trans (gr_below hgr (by have := HD.out.size; omega) fun b hb => by injection hb with hb; omega)⟩
end Go.Proofs.YtbjooblaamjppaaGreat.Rk
