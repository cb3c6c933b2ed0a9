/-
  Texts of earlier layers, as one.
-/
import Derived.Test.YtjfpfbagckckkaaGreatDoorRBalI
import Derived.Test.YtjfpfbagckckkaaGreatDoorRAtt
import Derived.Test.YtjfpfbagckckkaaGreatDoorRCodS
import Derived.Deep.RegionHeld3
/- ballot.Take: the ballot that an item says. -/
namespace Go.Proofs.YtjfpfbagckckkaaGreatDoor.Bal
open Go.RowKit Mem Cod Cmd
def BalTakes (w : World) (r : Option (Int × Int)) (e : Ending) (w' : World) : Prop :=
 e = .returned (.tuple #[.agg #[.int .i64 (r.getD (0, 0)).1, .int .i64 (r.getD (0, 0)).2], .bool r.isSome]) ∧ Below w.heap.size w w'
theorem held6 {w w' : World} {g h : Nat} {t u : TypeId} {a b a' b' c' d' : Value} (h1 : Blk w g t #[a, b]) (h2 : Blk w h u #[a', b', c', d']) (hb : Below w.heap.size w w') :
 w'.cell? ⟨g, 0, none⟩ = some a ∧ w'.cell? ⟨g, 1, none⟩ = some b ∧ w'.cell? ⟨h, 0, none⟩ = some a' ∧ w'.cell? ⟨h, 1, none⟩ = some b' ∧ w'.cell? ⟨h, 2, none⟩ = some c' ∧ w'.cell? ⟨h, 3, none⟩ = some d' := by
 obtain ⟨x0, x1⟩ := blk2 (h1.bel hb)
 obtain ⟨y0, y1, y2, y3⟩ := blk4 (h2.bel hb)
 exact ⟨x0, x1, y0, y1, y2, y3⟩
theorem blk2_set {w : World} {g : Nat} {t : TypeId} {a b : Value} (h : Blk w g t #[a, b]) (a' b' : Value) :
 Blk ((w.setCell ⟨g, 0, none⟩ a').setCell ⟨g, 1, none⟩ b') g t #[a', b'] ∧ w.grownBy ((w.setCell ⟨g, 0, none⟩ a').setCell ⟨g, 1, none⟩ b') (some g) :=
 ⟨by simpa using (h.put 0 a').put 1 b', gr_set (p := ⟨g, 1, none⟩) (gr_set (p := ⟨g, 0, none⟩) (gr_refl w (some g)) (.inl rfl) _) (.inl rfl) _⟩
theorem two_kids {x : It} (h : x.kids.length = 2) : ∃ s d, x.kids = [s, d] := by
 match hk : x.kids, h with
 | [s, d], _ => exact ⟨s, d, rfl⟩
theorem wt_balItem (b : Int × Int) : wt (balItem b) ≤ 10 := by
 unfold balItem
 split
 · simp [balIt, wt, wts, numIt]
 · decide
set_option maxRecDepth 100000 in
set_option maxHeartbeats 4000000 in
theorem baltake_any (x : It) (A : Option Addr) (c : Nat) (S : Nat → Prop) (w : World) (hl : Lies w S x A c) (hS : ∀ b, S b → b < w.heap.size) :
 Calls Tryz.prog 73 #[.agg #[.int .i64 x.kind, .int .u64 (x.num : Int), .string x.str, .slice A x.kids.length c]] w (BalTakes w (balTake x)) := by
 have hsm := fun (W : World) (y : It) (V1 : Option Addr) (c1 : Nat) (hy : wt y ≤ 100000) (h1 : Lies W (fun b => b < W.heap.size) y V1 c1) (h2 : Lies W (fun b => b < W.heap.size) x A c) => same_item y x V1 A c1 c _ W h1 h2 (fun b hb => hb) hy
 obtain ⟨n, hn⟩ : ∃ n, x.kids.length = n := ⟨_, rfl⟩
 obtain ⟨b1, b2, b3, b4, b5, b6⟩ := hl.bounds
 rw [hn] at b5 hsm ⊢
 obtain ⟨W, hW⟩ : ∃ W, (w.alloc (.cells #[.int .i64 x.kind, .int .u64 (x.num : Int), .string x.str, .slice A n c] 48)).alloc (.cells #[.int .i64 0, .int .i64 0] 25) = W := ⟨_, rfl⟩
 obtain ⟨k1, k2, kb, hsW⟩ := Go.Proofs.YtjfpfbagckckkaaGreatDoor.two_kinds w _ _ _ _ W hW
 have HL := Lib.hid (hl.below kb hS)
 have HX := Lib.hid k1
 have HBX := Lib.hid k2
 have HB0 := Lib.hid kb
 have HW := Lib.hid hW
 have HSS := Lib.hid hS
 have HN := Lib.hid hn
 clear hl hS k1 k2 kb hW hn b1 b2 b3 b4 b6
 go_enter Tryz.func73, Tryz.ntmps73
 by_cases h6 : n = 2
 case neg =>
  have HNO := Lib.hid (show balTake x = none from if_neg fun h => h6 (HN.out.symm.trans h.1))
  have hne : ((n : Int) != 2) = true := by simp; omega
  clear h6 hsm
  go_wp2_with fail
  refine bodyPost_ret (v := .tuple #[.agg #[.int .i64 0, .int .i64 0], .bool false]) (by simp [results, Tryz.results73, go_sem]) rfl ?_
  rw [HNO.out, HW.out]
  exact ⟨rfl, HB0.out⟩
 subst h6
 have HSM := Lib.hid hsm
 obtain ⟨s, d, hkids⟩ := two_kids HN.out
 have hks : kid x 0 = s ∧ kid x 1 = d := by unfold kid; rw [hkids]; exact ⟨rfl, rfl⟩
 obtain ⟨g, o, A1, c1, A2, c2, rfl, hSg, hg, f1, f2, l1, l2⟩ := kids2 HL.out hkids
 obtain ⟨_, a1, _, _⟩ := f1
 obtain ⟨_, m1, _, _⟩ := f2
 have htk : balTake x = if same (balItem (balOf x)) x = true then some (balOf x) else none := by
  unfold balTake
  simp only [HN.out, true_and]
 obtain ⟨R0, hR0⟩ : ∃ R : Int, w64 s.num = R := ⟨_, rfl⟩
 obtain ⟨R1, hR1⟩ : ∃ R : Int, w64 d.num = R := ⟨_, rfl⟩
 have hbo : balOf x = (R0, R1) := by rw [balOf, hks.1, hks.2, hR0, hR1]
 rw [hbo] at htk
 have hit := fun w => balitem_any R0 R1 w
 have hwt := wt_balItem (R0, R1)
 generalize balItem (R0, R1) = y at htk hit hwt
 generalize hr : same y x = r at htk
 have HRS := Lib.hid hr
 have HIT := Lib.hid hit
 have HWT := Lib.hid hwt
 have HTK := Lib.hid htk
 unfold w64 at hR0 hR1
 obtain ⟨x0, x1, x2, x3⟩ := blk4 HX.out
 clear htk hbo hr hit hwt hsm hks hkids l1 l2
 have HSW := Lib.hid hsW
 have hwW : w.heap.size < W.heap.size := by omega
 clear hsW
 go_upto_region 3 with fail
 rw [HW.out]
 have hn1 := World.new_ne W ⟨w.heap.size, 3, none⟩ x3
 have hn2 := World.new_ne W ⟨g, o + 1, none⟩ a1
 go_region_held3 (fun w' => w'.cell? ⟨w.heap.size, 3, none⟩ = some (.slice (some ⟨g, o, none⟩) 2 c) ∧ w'.cell? ⟨g, o + 1, none⟩ = some (.int .u64 (s.num : Int)) ∧ w'.cell? ⟨g, o + 4 + 1, none⟩ = some (.int .u64 (d.num : Int))) (go_keep) (fail)
 have hsW := HSW.out
 have hc4 := Blk.drew (Blk.new W 25 #[.int .i64 R0, .int .i64 R1])
 have hbe := Below.drew (bel_alloc (Below.refl W.heap.size W) (.cells #[.int .i64 R0, .int .i64 R1] 25))
 have hs2 := size_alloc W (.cells #[.int .i64 R0, .int .i64 R1] 25)
 have hs2' : (W.alloc (.cells #[.int .i64 R0, .int .i64 R1] 25)).drew.heap.size = W.heap.size + 1 := hs2
 generalize (W.alloc (.cells #[.int .i64 R0, .int .i64 R1] 25)).drew = W2 at hc4 hbe hs2' ⊢
 have HC4 := Lib.hid hc4
 have HX2 := Lib.hid (HX.out.bel hbe)
 have HBE := Lib.hid hbe
 have HCUR := Lib.hid (Below.drew (Below.refl W2.heap.size W2))
 have hL2 := HL.out.below hbe (fun b hb => by have := HSS.out b hb; omega)
 have HL2 := Lib.hid hL2
 have hle1 : w.heap.size + 2 ≤ W.heap.size := by omega
 have hle2 : W.heap.size + 1 ≤ W2.heap.size := by omega
 clear hsW hs2' hc4 hbe hs2 hL2 a1 m1 x0 x1 x2 x3 hR0 hR1
 go_wp2_with fail
 go_region_held3 (fun w' => w'.cell? ⟨W.heap.size, 0, none⟩ = some (.int .i64 R0) ∧ w'.cell? ⟨W.heap.size, 1, none⟩ = some (.int .i64 R1) ∧ w'.cell? ⟨w.heap.size, 0, none⟩ = some (.int .i64 x.kind) ∧ w'.cell? ⟨w.heap.size, 1, none⟩ = some (.int .u64 (x.num : Int)) ∧ w'.cell? ⟨w.heap.size, 2, none⟩ = some (.string x.str) ∧ w'.cell? ⟨w.heap.size, 3, none⟩ = some (.slice (some ⟨g, o, none⟩) 2 c)) (with_reducible exact held6 HC4.out HX2.out HCUR.out)
  (first
  | (go_at_call 60
     refine (HIT.out _).mono ?_
     rintro e v1 ⟨V1, k1, rfl, hl1, hb1⟩
     have hnow := HCUR.out.trans (hb1.mono HCUR.out.size)
     have hsn := hnow.size
     have hlx := (HL2.out.below hnow fun b hb => by have := HSS.out b hb; omega).more (S' := fun b => b < v1.heap.size) fun b hb _ => by have := HSS.out b hb; omega
     have hsm := HSM.out v1 y V1 k1 (Nat.le_trans HWT.out (by decide)) (hl1.more fun b hb _ => hb.2) hlx
     rw [HRS.out] at hsm
     replace HCUR := Lib.hid hnow
     replace HSM := Lib.hid hsm
     clear HIT hb1 hnow hl1 hlx hsm hsn)
  | (go_at_call 19
     refine HSM.out.mono ?_
     rintro e v2 ⟨rfl, hb1⟩
     have hnow := HCUR.out.trans (hb1.mono HCUR.out.size)
     replace HCUR := Lib.hid hnow
     clear HSM hb1 hnow))
 replace HBE := Lib.hid (bel_trans HBE.out HCUR.out)
 cases r
 case false =>
  have hs9 := HBE.out.size
  have hblk := HBX.out.bel HBE.out
  have hw0 := HB0.out.size
  obtain ⟨j0, j1⟩ := blk2 hblk
  have z0 := hblk.soft 0
  have z1 := hblk.soft 1
  obtain ⟨i0, i1⟩ := blk2 (HC4.out.bel HCUR.out)
  go_wp2_with fail
  obtain ⟨hblk2, hgr⟩ := blk2_set hblk (.int .i64 0) (.int .i64 0)
  generalize (v2.setCell ⟨w.heap.size + 1, 0, none⟩ (.int .i64 0)).setCell ⟨w.heap.size + 1, 1, none⟩ (.int .i64 0) = w9 at hblk2 hgr ⊢
  obtain ⟨d0, d1⟩ := blk2 hblk2
  refine bodyPost_ret (v := .tuple #[.agg #[.int .i64 0, .int .i64 0], .bool false]) (by simp [results, Tryz.results73, go_sem, d0, d1]) rfl ?_
  rw [HTK.out]
  exact ⟨rfl, (HB0.out.trans (HBE.out.mono (by omega))).trans (gr_below hgr (by omega) fun b hb => by injection hb with hb; omega)⟩
 case true =>
  have hs9 := HBE.out.size
  have hblk := HBX.out.bel HBE.out
  have hw0 := HB0.out.size
  obtain ⟨j0, j1⟩ := blk2 hblk
  have z0 := hblk.soft 0
  have z1 := hblk.soft 1
  obtain ⟨i0, i1⟩ := blk2 (HC4.out.bel HCUR.out)
  go_wp2_with fail
  obtain ⟨hblk2, hgr⟩ := blk2_set hblk (.int .i64 R0) (.int .i64 R1)
  generalize (v2.setCell ⟨w.heap.size + 1, 0, none⟩ (.int .i64 R0)).setCell ⟨w.heap.size + 1, 1, none⟩ (.int .i64 R1) = w9 at hblk2 hgr ⊢
  obtain ⟨d0, d1⟩ := blk2 hblk2
  refine bodyPost_ret (v := .tuple #[.agg #[.int .i64 R0, .int .i64 R1], .bool true]) (by simp [results, Tryz.results73, go_sem, d0, d1]) rfl ?_
  rw [HTK.out]
  exact ⟨rfl, (HB0.out.trans (HBE.out.mono (by omega))).trans (gr_below hgr (by omega) fun b hb => by injection hb with hb; omega)⟩
end Go.Proofs.YtjfpfbagckckkaaGreatDoor.Bal
