/-
  attr.Take and TakeOld of any item.
-/
import Derived.Test.YtccbkpdkmdnmfaaAttTaken
namespace Go.Proofs.Ytccbkpdkmdnmfaa
open Go.RowKit Mem Ids Att Cod

/-- The four cells of an item at a place. -/
def Four (w : World) (g o : Nat) (y : It) (A : Option Addr) (c : Nat) : Prop :=
  w.cell? ⟨g, o, none⟩ = some (.int .i64 y.kind) ∧ w.cell? ⟨g, o + 1, none⟩ = some (.int .u64 (y.num : Int)) ∧ w.cell? ⟨g, o + 2, none⟩ = some (.string y.str) ∧ w.cell? ⟨g, o + 3, none⟩ = some (.slice A y.kids.length c)
theorem Four.bel {w w' : World} {g o : Nat} {y : It} {A : Option Addr} {c : Nat} (h : Four w g o y A c) (hg : g < w.heap.size) (hb : Below w.heap.size w w') : Four w' g o y A c :=
  ⟨(hb.cell (p := ⟨g, o, none⟩) hg).trans h.1, (hb.cell (p := ⟨g, o + 1, none⟩) hg).trans h.2.1, (hb.cell (p := ⟨g, o + 2, none⟩) hg).trans h.2.2.1, (hb.cell (p := ⟨g, o + 3, none⟩) hg).trans h.2.2.2⟩
theorem Four.far {w : World} {g o r : Nat} {y : It} {A : Option Addr} {c : Nat} (h : Four w g o y A c) (hg : g ≠ r) (u v x : Value) : Four (((w.setCell ⟨r, 0, none⟩ u).setCell ⟨r, 1, none⟩ v).setCell ⟨r, 2, none⟩ x) g o y A c := by
  have hk : ∀ p : Addr, p.block = g → (((w.setCell ⟨r, 0, none⟩ u).setCell ⟨r, 1, none⟩ v).setCell ⟨r, 2, none⟩ x).cell? p = w.cell? p := fun p hp => by
    have hne : p.block ≠ r := by rw [hp]; exact hg
    exact World.cell?_of_block (((Below.heap_setCell _ ⟨r, 2, none⟩ x _ hne).trans (Below.heap_setCell _ ⟨r, 1, none⟩ v _ hne)).trans (Below.heap_setCell _ ⟨r, 0, none⟩ u _ hne))
  exact ⟨(hk ⟨g, o, none⟩ rfl).trans h.1, (hk ⟨g, o + 1, none⟩ rfl).trans h.2.1, (hk ⟨g, o + 2, none⟩ rfl).trans h.2.2.1, (hk ⟨g, o + 3, none⟩ rfl).trans h.2.2.2⟩
theorem kid_at {w : World} {S : Nat → Prop} {x y : It} {A : Option Addr} {c i : Nat} (h : Lies w S x A c) (hy : x.kids[i]? = some y) :
    ∃ g o A' c', A = some ⟨g, o, none⟩ ∧ S g ∧ g < w.heap.size ∧ Four w g (o + i * 4) y A' c' ∧ Lies w S y A' c' := by
  obtain ⟨hi, rfl⟩ := List.getElem?_eq_some_iff.1 hy
  obtain ⟨g, o, A', c', e, hS, hg, h0, h1, h2, h3, hl⟩ := lies_kid h hi
  exact ⟨g, o, A', c', e, hS, hg, ⟨h0, h1, h2, h3⟩, hl⟩
theorem kids2 {w : World} {S : Nat → Prop} {x s d : It} {A : Option Addr} {c : Nat} (h : Lies w S x A c) (hk : x.kids = [s, d]) :
    ∃ g o A1 c1 A2 c2, A = some ⟨g, o, none⟩ ∧ S g ∧ g < w.heap.size ∧ Four w g o s A1 c1 ∧ Four w g (o + 4) d A2 c2 ∧ Lies w S s A1 c1 ∧ Lies w S d A2 c2 := by
  obtain ⟨g, o, A1, c1, e, hS, hg, f1, l1⟩ := kid_at h (show x.kids[0]? = some s by rw [hk]; rfl)
  obtain ⟨g', o', A2, c2, e', _, _, f2, l2⟩ := kid_at h (show x.kids[1]? = some d by rw [hk]; rfl)
  rw [e] at e'
  injection e' with e'
  injection e' with e1 e2
  subst e1; subst e2
  exact ⟨g, o, A1, c1, A2, c2, e, hS, hg, f1, f2, l1, l2⟩
theorem kids3 {w : World} {S : Nat → Prop} {x t s d : It} {A : Option Addr} {c : Nat} (h : Lies w S x A c) (hk : x.kids = [t, s, d]) :
    ∃ g o A0 c0 A1 c1 A2 c2, A = some ⟨g, o, none⟩ ∧ S g ∧ g < w.heap.size ∧ Four w g o t A0 c0 ∧ Four w g (o + 4) s A1 c1 ∧ Four w g (o + 8) d A2 c2 ∧ Lies w S t A0 c0 ∧ Lies w S s A1 c1 ∧ Lies w S d A2 c2 := by
  obtain ⟨g, o, A0, c0, e, hS, hg, f0, l0⟩ := kid_at h (show x.kids[0]? = some t by rw [hk]; rfl)
  obtain ⟨g', o', A1, c1, e', _, _, f1, l1⟩ := kid_at h (show x.kids[1]? = some s by rw [hk]; rfl)
  obtain ⟨g2, o2, A2, c2, e2, _, _, f2, l2⟩ := kid_at h (show x.kids[2]? = some d by rw [hk]; rfl)
  rw [e] at e' e2
  injection e' with e'
  injection e' with a1 a2
  injection e2 with e2
  injection e2 with b1 b2
  subst a1; subst a2; subst b1; subst b2
  exact ⟨g, o, A0, c0, A1, c1, A2, c2, e, hS, hg, f0, f1, f2, l0, l1, l2⟩
theorem parts_any (x : It) (A : Option Addr) (c k : Nat) (w : World) :
    (isList x = true → Calls Try.prog 36 #[.agg #[.int .i64 x.kind, .int .u64 (x.num : Int), .string x.str, .slice A x.kids.length c], .int .i64 (k : Int)] w (Parts (.slice A x.kids.length c) (decide (x.kids.length = k)) w)) ∧
    (isList x = false → Calls Try.prog 36 #[.agg #[.int .i64 x.kind, .int .u64 (x.num : Int), .string x.str, .slice A x.kids.length c], .int .i64 (k : Int)] w (Parts (.slice none 0 0) false w)) := by
  constructor
  · intro h
    obtain ⟨h1, h2, h3⟩ := of_decide_eq_true h
    rw [h1, h2, h3]
    exact parts_list A x.kids.length c k w
  · intro h
    exact parts_no x.kind x.num x.str A x.kids.length c k w fun h' => of_decide_eq_false h ⟨h'.1, by omega, h'.2.2⟩
theorem held8 {W w' : World} {g o o' : Nat} {y z : It} {A A' : Option Addr} {c c' : Nat} (h : Four W g o y A c) (h' : Four W g o' z A' c') (hg : g < W.heap.size) (hb : Below W.heap.size W w') : w'.cell? ⟨g, o, none⟩ = some (.int .i64 y.kind) ∧ w'.cell? ⟨g, o + 1, none⟩ = some (.int .u64 (y.num : Int)) ∧ w'.cell? ⟨g, o + 2, none⟩ = some (.string y.str) ∧ w'.cell? ⟨g, o + 3, none⟩ = some (.slice A y.kids.length c) ∧ w'.cell? ⟨g, o', none⟩ = some (.int .i64 z.kind) ∧ w'.cell? ⟨g, o' + 1, none⟩ = some (.int .u64 (z.num : Int)) ∧ w'.cell? ⟨g, o' + 2, none⟩ = some (.string z.str) ∧ w'.cell? ⟨g, o' + 3, none⟩ = some (.slice A' z.kids.length c') :=
  have k := h.bel hg hb
  have k' := h'.bel hg hb
  ⟨k.1, k.2.1, k.2.2.1, k.2.2.2, k'.1, k'.2.1, k'.2.2.1, k'.2.2.2⟩
theorem held8s {W w' : World} {g o o' r : Nat} {y z : It} {A A' : Option Addr} {c c' : Nat} (h : Four W g o y A c) (h' : Four W g o' z A' c') (hg : g < W.heap.size) (hb : Below W.heap.size W w') (hr : g ≠ r) (u v x : Value) :
    (((w'.setCell ⟨r, 0, none⟩ u).setCell ⟨r, 1, none⟩ v).setCell ⟨r, 2, none⟩ x).cell? ⟨g, o, none⟩ = some (.int .i64 y.kind) ∧ (((w'.setCell ⟨r, 0, none⟩ u).setCell ⟨r, 1, none⟩ v).setCell ⟨r, 2, none⟩ x).cell? ⟨g, o + 1, none⟩ = some (.int .u64 (y.num : Int)) ∧ (((w'.setCell ⟨r, 0, none⟩ u).setCell ⟨r, 1, none⟩ v).setCell ⟨r, 2, none⟩ x).cell? ⟨g, o + 2, none⟩ = some (.string y.str) ∧ (((w'.setCell ⟨r, 0, none⟩ u).setCell ⟨r, 1, none⟩ v).setCell ⟨r, 2, none⟩ x).cell? ⟨g, o + 3, none⟩ = some (.slice A y.kids.length c) ∧ (((w'.setCell ⟨r, 0, none⟩ u).setCell ⟨r, 1, none⟩ v).setCell ⟨r, 2, none⟩ x).cell? ⟨g, o', none⟩ = some (.int .i64 z.kind) ∧ (((w'.setCell ⟨r, 0, none⟩ u).setCell ⟨r, 1, none⟩ v).setCell ⟨r, 2, none⟩ x).cell? ⟨g, o' + 1, none⟩ = some (.int .u64 (z.num : Int)) ∧ (((w'.setCell ⟨r, 0, none⟩ u).setCell ⟨r, 1, none⟩ v).setCell ⟨r, 2, none⟩ x).cell? ⟨g, o' + 2, none⟩ = some (.string z.str) ∧ (((w'.setCell ⟨r, 0, none⟩ u).setCell ⟨r, 1, none⟩ v).setCell ⟨r, 2, none⟩ x).cell? ⟨g, o' + 3, none⟩ = some (.slice A' z.kids.length c') :=
  have k := (h.bel hg hb).far hr u v x
  have k' := (h'.bel hg hb).far hr u v x
  ⟨k.1, k.2.1, k.2.2.1, k.2.2.2, k'.1, k'.2.1, k'.2.2.1, k'.2.2.2⟩

set_option maxRecDepth 100000 in
set_option maxHeartbeats 4000000 in
theorem atttake_any (x : It) (A : Option Addr) (c : Nat) (S : Nat → Prop) (w : World) (hx : Lies w S x A c) (hS : ∀ b, S b → b < w.heap.size) :
    Calls Try.prog 16 #[.agg #[.int .i64 x.kind, .int .u64 (x.num : Int), .string x.str, .slice A x.kids.length c]] w (TakesAt w (attTake x)) := by
  obtain ⟨W, hW⟩ : ∃ W, (w.alloc (.cells #[.int .i64 x.kind, .int .u64 (x.num : Int), .string x.str, .slice A x.kids.length c] 37)).alloc (.cells #[.slice none 0 0, .int .i64 0, .int .i64 0] 24) = W := ⟨_, rfl⟩
  obtain ⟨k1, k2, kb, hsW⟩ := two_kinds w _ _ _ _ W hW
  have HK3 := Lib.hid k2
  have HBW := Lib.hid kb
  have HLX := Lib.hid (hx.below kb hS)
  have HSS := Lib.hid hS
  have HW := Lib.hid hW
  obtain ⟨p0, p1, p2, p3⟩ := blk4 k1
  have hp := fun w => parts_any x A c 3 w
  clear k1 k2 kb hx hS hW
  cases hl : isList x with
  | false =>
    have hR : attTake x = none := (att_notlist hl).1
    have HR := Lib.hid hR
    have H1 := Lib.hid (fun w => (hp w).2 hl)
    clear hR hp hl
    go_enter Try.func16, Try.ntmps16
    go_upto_region 1 with fail
    rw [HW.out]
    clear HW
    go_wp2_with fail
    refine (H1.out _).mono ?_
    rintro e w1 ⟨rfl, hb1⟩
    replace HK3 := Lib.hid (HK3.out.bel hb1)
    replace HBW := Lib.hid (bel_trans HBW.out hb1)
    clear hb1 H1 p0 p1 p2 p3
    obtain ⟨z0, z1, z2⟩ := blk3 HK3.out
    have f0 := HK3.out.soft 0
    have f1 := HK3.out.soft 1
    have f2 := HK3.out.soft 2
    go_wp2_with fail
    obtain ⟨hk9, hb9⟩ := blk3_set HK3.out HBW.out (by omega) (.slice none 0 0) (.int .i64 0) (.int .i64 0)
    generalize (((w1.setCell ⟨w.heap.size + 1, 0, none⟩ (.slice none 0 0)).setCell ⟨w.heap.size + 1, 1, none⟩ (.int .i64 0)).setCell ⟨w.heap.size + 1, 2, none⟩ (.int .i64 0)) = w9 at hk9 hb9 ⊢
    obtain ⟨d0, d1, d2⟩ := blk3 hk9
    refine bodyPost_ret (v := .tuple #[.agg #[.slice none 0 0, .int .i64 0, .int .i64 0], .bool false]) (by simp [results, Try.results16, go_sem, d0, d1, d2]) rfl ?_
    rw [HR.out]
    exact ⟨none, 0, 0, rfl, Rs.nil_ _, hb9, fun _ _ h => by cases h⟩
  | true =>
    by_cases hn : x.kids.length = 3
    case neg =>
      have hR : attTake x = none := att_short hn
      have HR := Lib.hid hR
      have h1 := fun w => (hp w).1 hl
      rw [decide_eq_false hn] at h1
      have H1 := Lib.hid h1
      clear hR hp hl h1 hn
      go_enter Try.func16, Try.ntmps16
      go_upto_region 1 with fail
      rw [HW.out]
      clear HW
      go_wp2_with fail
      refine (H1.out _).mono ?_
      rintro e w1 ⟨rfl, hb1⟩
      replace HK3 := Lib.hid (HK3.out.bel hb1)
      replace HBW := Lib.hid (bel_trans HBW.out hb1)
      clear hb1 H1 p0 p1 p2 p3
      obtain ⟨z0, z1, z2⟩ := blk3 HK3.out
      have f0 := HK3.out.soft 0
      have f1 := HK3.out.soft 1
      have f2 := HK3.out.soft 2
      go_wp2_with fail
      obtain ⟨hk9, hb9⟩ := blk3_set HK3.out HBW.out (by omega) (.slice none 0 0) (.int .i64 0) (.int .i64 0)
      generalize (((w1.setCell ⟨w.heap.size + 1, 0, none⟩ (.slice none 0 0)).setCell ⟨w.heap.size + 1, 1, none⟩ (.int .i64 0)).setCell ⟨w.heap.size + 1, 2, none⟩ (.int .i64 0)) = w9 at hk9 hb9 ⊢
      obtain ⟨d0, d1, d2⟩ := blk3 hk9
      refine bodyPost_ret (v := .tuple #[.agg #[.slice none 0 0, .int .i64 0, .int .i64 0], .bool false]) (by simp [results, Try.results16, go_sem, d0, d1, d2]) rfl ?_
      rw [HR.out]
      exact ⟨none, 0, 0, rfl, Rs.nil_ _, hb9, fun _ _ h => by cases h⟩
    obtain ⟨t, s, d, hk⟩ : ∃ t s d, x.kids = [t, s, d] := by
      match x.kids, hn with
      | [t, s, d], _ => exact ⟨t, s, d, rfl⟩
    have hR := att_three hl hk
    have h1 := fun w => (hp w).1 hl
    rw [decide_eq_true hn, hn] at h1
    rw [hn] at p3 HW ⊢
    obtain ⟨g, o, A0, c0, A1, c1, A2, c2, rfl, hSg, hg, f0, f1, f2, l0, l1, l2⟩ := kids3 HLX.out hk
    have hgw := HSS.out g hSg
    have H1 := Lib.hid h1
    have HF1 := Lib.hid f1
    have HF2 := Lib.hid f2
    have HL2 := Lib.hid l2
    have HT := Lib.hid (fun w (h : Lies w S d A2 c2) (hS : ∀ b, S b → b < w.heap.size) => taken_any (numOf t) s d A1 A2 c1 c2 S w h hS)
    have HF0 := Lib.hid f0
    have h2 := fun w => number_any t A0 c0 w
    have hr2 : isNum t = true → attTake x = takenOf (numOf t) s d := fun h => by rw [hR, if_pos h, numOf, if_pos h]
    have hr3 : isNum t = false → attTake x = none := fun h => by rw [hR, if_neg (by simp [h])]
    clear hR l0 f0
    generalize numOf t = v at h2 hr2 HT
    generalize takenOf v s d = Q at hr2 HT
    generalize isNum t = r at h2 hr2 hr3
    have H2 := Lib.hid h2
    have HR2 := Lib.hid hr2
    have HR3 := Lib.hid hr3
    clear h2 hr2 hr3
    clear hp h1 l1 l2 f1 f2 hk hn HLX hl
    generalize attTake x = R at HR2 HR3 ⊢
    go_enter Try.func16, Try.ntmps16
    go_upto_region 1 with fail
    rw [HW.out]
    clear HW
    go_wp2_with fail
    refine (H1.out _).mono ?_
    rintro e w1 ⟨rfl, hb1⟩
    have hs1 := hb1.size
    replace HF0 := Lib.hid (HF0.out.bel (by omega) hb1)
    replace HF1 := Lib.hid (HF1.out.bel (by omega) hb1)
    replace HF2 := Lib.hid (HF2.out.bel (by omega) hb1)
    replace HL2 := Lib.hid (HL2.out.below hb1 fun b hb => by have := HSS.out b hb; omega)
    replace HK3 := Lib.hid (HK3.out.bel hb1)
    replace HBW := Lib.hid (bel_trans HBW.out hb1)
    clear hb1 H1 p0 p1 p2 p3
    obtain ⟨t0, t1, t2, t3⟩ := HF0.out
    go_wp2_with fail
    refine (H2.out _).mono ?_
    rintro e w2 ⟨rfl, hb1⟩
    have hs2 := hb1.size
    replace HF1 := Lib.hid (HF1.out.bel (by omega) hb1)
    replace HF2 := Lib.hid (HF2.out.bel (by omega) hb1)
    replace HL2 := Lib.hid (HL2.out.below hb1 fun b hb => by have := HSS.out b hb; omega)
    replace HK3 := Lib.hid (HK3.out.bel hb1)
    replace HBW := Lib.hid (bel_trans HBW.out hb1)
    clear hb1 H2 t0 t1 t2 t3 HF0
    cases r with
    | false =>
      have hR := HR3.out rfl
      have HR := Lib.hid hR
      clear hR HR2 HR3
      obtain ⟨z0, z1, z2⟩ := blk3 HK3.out
      have f0 := HK3.out.soft 0
      have f1 := HK3.out.soft 1
      have f2 := HK3.out.soft 2
      go_wp2_with fail
      obtain ⟨hk9, hb9⟩ := blk3_set HK3.out HBW.out (by omega) (.slice none 0 0) (.int .i64 0) (.int .i64 0)
      generalize (((w2.setCell ⟨w.heap.size + 1, 0, none⟩ (.slice none 0 0)).setCell ⟨w.heap.size + 1, 1, none⟩ (.int .i64 0)).setCell ⟨w.heap.size + 1, 2, none⟩ (.int .i64 0)) = w9 at hk9 hb9 ⊢
      obtain ⟨d0, d1, d2⟩ := blk3 hk9
      refine bodyPost_ret (v := .tuple #[.agg #[.slice none 0 0, .int .i64 0, .int .i64 0], .bool false]) (by simp [results, Try.results16, go_sem, d0, d1, d2]) rfl ?_
      rw [HR.out]
      exact ⟨none, 0, 0, rfl, Rs.nil_ _, hb9, fun _ _ h => by cases h⟩
    | true =>
    have HR := Lib.hid (HR2.out rfl)
    clear HR2 HR3
    have hgc : g < w2.heap.size := by omega
    have hle : w.heap.size + 2 ≤ w2.heap.size := by omega
    have HCUR := Lib.hid (Below.drew (Below.refl w2.heap.size w2))
    have HG := Lib.hid (show g ≠ w.heap.size + 1 by omega)
    obtain ⟨m0, m1, m2, m3⟩ := HF1.out
    obtain ⟨n0, n1, n2, n3⟩ := HF2.out
    go_wp2_with fail
    go_region_held3 (fun w' => w'.cell? ⟨g, o + 4, none⟩ = some (.int .i64 s.kind) ∧ w'.cell? ⟨g, o + 4 + 1, none⟩ = some (.int .u64 (s.num : Int)) ∧ w'.cell? ⟨g, o + 4 + 2, none⟩ = some (.string s.str) ∧ w'.cell? ⟨g, o + 4 + 3, none⟩ = some (.slice A1 s.kids.length c1) ∧ w'.cell? ⟨g, o + 8, none⟩ = some (.int .i64 d.kind) ∧ w'.cell? ⟨g, o + 8 + 1, none⟩ = some (.int .u64 (d.num : Int)) ∧ w'.cell? ⟨g, o + 8 + 2, none⟩ = some (.string d.str) ∧ w'.cell? ⟨g, o + 8 + 3, none⟩ = some (.slice A2 d.kids.length c2)) (first | with_reducible exact held8 HF1.out HF2.out hgc HCUR.out | exact held8s HF1.out HF2.out hgc HCUR.out HG.out _ _ _)
      (first
      | (go_at_call 38
         refine (HT.out _ (HL2.out.below HCUR.out fun b hb => by have := HSS.out b hb; omega) fun b hb => by have := HSS.out b hb; have := HCUR.out.size; omega).mono ?_
         rintro e w5 ⟨V, n, cc, rfl, hrs, hb5, hnew⟩
         have hnow := HCUR.out.trans (hb5.mono HCUR.out.size)
         have HNEW := Lib.hid (show ∀ g o, V = some ⟨g, o, none⟩ → w2.heap.size ≤ g from fun g o e => Nat.le_trans HCUR.out.size (hnew g o e))
         replace HCUR := Lib.hid hnow
         have hk3 := HK3.out.bel hnow
         obtain ⟨z0, z1, z2⟩ := blk3 hk3
         have y0 := hk3.soft 0
         have y1 := hk3.soft 1
         have y2 := hk3.soft 2
         have HRS := Lib.hid hrs
         clear hb5 hnow hnew hrs HT hk3))
    all_goals
      have hrs9 := Rs.set3n (r := w.heap.size + 1) HRS.out HNEW.out (by omega) (.slice V n cc) (.int .i64 (Q.getD zeroAt).sq) (.int .i64 (Q.getD zeroAt).tg)
      obtain ⟨hk9, hb9⟩ := blk3_set (g := w.heap.size + 1) (HK3.out.bel HCUR.out) (bel_trans HBW.out HCUR.out) (by omega) (.slice V n cc) (.int .i64 (Q.getD zeroAt).sq) (.int .i64 (Q.getD zeroAt).tg)
      generalize (((w5.setCell ⟨w.heap.size + 1, 0, none⟩ (.slice V n cc)).setCell ⟨w.heap.size + 1, 1, none⟩ (.int .i64 (Q.getD zeroAt).sq)).setCell ⟨w.heap.size + 1, 2, none⟩ (.int .i64 (Q.getD zeroAt).tg)) = w9 at hk9 hb9 hrs9 ⊢
      obtain ⟨d0, d1, d2⟩ := blk3 hk9
      go_wp2_with fail
      refine bodyPost_ret (v := .tuple #[.agg #[.slice V n cc, .int .i64 (Q.getD zeroAt).sq, .int .i64 (Q.getD zeroAt).tg], .bool Q.isSome]) (by simp [results, Try.results16, go_sem, d0, d1, d2]) rfl ?_
      rw [HR.out]
      exact ⟨V, n, cc, rfl, hrs9, hb9, fun g o e => by have := HNEW.out g o e; omega⟩

set_option maxRecDepth 100000 in
set_option maxHeartbeats 4000000 in
theorem oldtake_any (x : It) (A : Option Addr) (c : Nat) (S : Nat → Prop) (w : World) (hx : Lies w S x A c) (hS : ∀ b, S b → b < w.heap.size) :
    Calls Try.prog 20 #[.agg #[.int .i64 x.kind, .int .u64 (x.num : Int), .string x.str, .slice A x.kids.length c]] w (TakesAt w (oldTake x)) := by
  obtain ⟨W, hW⟩ : ∃ W, (w.alloc (.cells #[.int .i64 x.kind, .int .u64 (x.num : Int), .string x.str, .slice A x.kids.length c] 37)).alloc (.cells #[.slice none 0 0, .int .i64 0, .int .i64 0] 24) = W := ⟨_, rfl⟩
  obtain ⟨k1, k2, kb, hsW⟩ := two_kinds w _ _ _ _ W hW
  have HK3 := Lib.hid k2
  have HBW := Lib.hid kb
  have HLX := Lib.hid (hx.below kb hS)
  have HSS := Lib.hid hS
  have HW := Lib.hid hW
  obtain ⟨p0, p1, p2, p3⟩ := blk4 k1
  have hp := fun w => parts_any x A c 2 w
  clear k1 k2 kb hx hS hW
  cases hl : isList x with
  | false =>
    have hR : oldTake x = none := (att_notlist hl).2
    have HR := Lib.hid hR
    have H1 := Lib.hid (fun w => (hp w).2 hl)
    clear hR hp hl
    go_enter Try.func20, Try.ntmps20
    go_upto_region 1 with fail
    rw [HW.out]
    clear HW
    go_wp2_with fail
    refine (H1.out _).mono ?_
    rintro e w1 ⟨rfl, hb1⟩
    replace HK3 := Lib.hid (HK3.out.bel hb1)
    replace HBW := Lib.hid (bel_trans HBW.out hb1)
    clear hb1 H1 p0 p1 p2 p3
    obtain ⟨z0, z1, z2⟩ := blk3 HK3.out
    have f0 := HK3.out.soft 0
    have f1 := HK3.out.soft 1
    have f2 := HK3.out.soft 2
    go_wp2_with fail
    obtain ⟨hk9, hb9⟩ := blk3_set HK3.out HBW.out (by omega) (.slice none 0 0) (.int .i64 0) (.int .i64 0)
    generalize (((w1.setCell ⟨w.heap.size + 1, 0, none⟩ (.slice none 0 0)).setCell ⟨w.heap.size + 1, 1, none⟩ (.int .i64 0)).setCell ⟨w.heap.size + 1, 2, none⟩ (.int .i64 0)) = w9 at hk9 hb9 ⊢
    obtain ⟨d0, d1, d2⟩ := blk3 hk9
    refine bodyPost_ret (v := .tuple #[.agg #[.slice none 0 0, .int .i64 0, .int .i64 0], .bool false]) (by simp [results, Try.results20, go_sem, d0, d1, d2]) rfl ?_
    rw [HR.out]
    exact ⟨none, 0, 0, rfl, Rs.nil_ _, hb9, fun _ _ h => by cases h⟩
  | true =>
    by_cases hn : x.kids.length = 2
    case neg =>
      have hR : oldTake x = none := old_short hn
      have HR := Lib.hid hR
      have h1 := fun w => (hp w).1 hl
      rw [decide_eq_false hn] at h1
      have H1 := Lib.hid h1
      clear hR hp hl h1 hn
      go_enter Try.func20, Try.ntmps20
      go_upto_region 1 with fail
      rw [HW.out]
      clear HW
      go_wp2_with fail
      refine (H1.out _).mono ?_
      rintro e w1 ⟨rfl, hb1⟩
      replace HK3 := Lib.hid (HK3.out.bel hb1)
      replace HBW := Lib.hid (bel_trans HBW.out hb1)
      clear hb1 H1 p0 p1 p2 p3
      obtain ⟨z0, z1, z2⟩ := blk3 HK3.out
      have f0 := HK3.out.soft 0
      have f1 := HK3.out.soft 1
      have f2 := HK3.out.soft 2
      go_wp2_with fail
      obtain ⟨hk9, hb9⟩ := blk3_set HK3.out HBW.out (by omega) (.slice none 0 0) (.int .i64 0) (.int .i64 0)
      generalize (((w1.setCell ⟨w.heap.size + 1, 0, none⟩ (.slice none 0 0)).setCell ⟨w.heap.size + 1, 1, none⟩ (.int .i64 0)).setCell ⟨w.heap.size + 1, 2, none⟩ (.int .i64 0)) = w9 at hk9 hb9 ⊢
      obtain ⟨d0, d1, d2⟩ := blk3 hk9
      refine bodyPost_ret (v := .tuple #[.agg #[.slice none 0 0, .int .i64 0, .int .i64 0], .bool false]) (by simp [results, Try.results20, go_sem, d0, d1, d2]) rfl ?_
      rw [HR.out]
      exact ⟨none, 0, 0, rfl, Rs.nil_ _, hb9, fun _ _ h => by cases h⟩
    obtain ⟨s, d, hk⟩ : ∃ s d, x.kids = [s, d] := by
      match x.kids, hn with
      | [s, d], _ => exact ⟨s, d, rfl⟩
    have hR := old_two hl hk
    have h1 := fun w => (hp w).1 hl
    rw [decide_eq_true hn, hn] at h1
    rw [hn] at p3 HW ⊢
    obtain ⟨g, o, A1, c1, A2, c2, rfl, hSg, hg, f1, f2, l1, l2⟩ := kids2 HLX.out hk
    have hgw := HSS.out g hSg
    have H1 := Lib.hid h1
    have HF1 := Lib.hid f1
    have HF2 := Lib.hid f2
    have HL2 := Lib.hid l2
    have HT := Lib.hid (fun w (h : Lies w S d A2 c2) (hS : ∀ b, S b → b < w.heap.size) => taken_any 1 s d A1 A2 c1 c2 S w h hS)
    generalize takenOf 1 s d = Q at hR HT
    have HR := Lib.hid hR
    clear hR
    clear hp h1 l1 l2 f1 f2 hk hn HLX hl
    generalize oldTake x = R at HR ⊢
    go_enter Try.func20, Try.ntmps20
    go_upto_region 1 with fail
    rw [HW.out]
    clear HW
    go_wp2_with fail
    refine (H1.out _).mono ?_
    rintro e w1 ⟨rfl, hb1⟩
    have hs1 := hb1.size
    replace HF1 := Lib.hid (HF1.out.bel (by omega) hb1)
    replace HF2 := Lib.hid (HF2.out.bel (by omega) hb1)
    replace HL2 := Lib.hid (HL2.out.below hb1 fun b hb => by have := HSS.out b hb; omega)
    replace HK3 := Lib.hid (HK3.out.bel hb1)
    replace HBW := Lib.hid (bel_trans HBW.out hb1)
    clear hb1 H1 p0 p1 p2 p3
    have hgc : g < w1.heap.size := by omega
    have hle : w.heap.size + 2 ≤ w1.heap.size := by omega
    have HCUR := Lib.hid (Below.drew (Below.refl w1.heap.size w1))
    have HG := Lib.hid (show g ≠ w.heap.size + 1 by omega)
    obtain ⟨m0, m1, m2, m3⟩ := HF1.out
    obtain ⟨n0, n1, n2, n3⟩ := HF2.out
    go_wp2_with fail
    go_region_held3 (fun w' => w'.cell? ⟨g, o, none⟩ = some (.int .i64 s.kind) ∧ w'.cell? ⟨g, o + 1, none⟩ = some (.int .u64 (s.num : Int)) ∧ w'.cell? ⟨g, o + 2, none⟩ = some (.string s.str) ∧ w'.cell? ⟨g, o + 3, none⟩ = some (.slice A1 s.kids.length c1) ∧ w'.cell? ⟨g, o + 4, none⟩ = some (.int .i64 d.kind) ∧ w'.cell? ⟨g, o + 4 + 1, none⟩ = some (.int .u64 (d.num : Int)) ∧ w'.cell? ⟨g, o + 4 + 2, none⟩ = some (.string d.str) ∧ w'.cell? ⟨g, o + 4 + 3, none⟩ = some (.slice A2 d.kids.length c2)) (first | with_reducible exact held8 HF1.out HF2.out hgc HCUR.out | exact held8s HF1.out HF2.out hgc HCUR.out HG.out _ _ _)
      (first
      | (go_at_call 38
         refine (HT.out _ (HL2.out.below HCUR.out fun b hb => by have := HSS.out b hb; omega) fun b hb => by have := HSS.out b hb; have := HCUR.out.size; omega).mono ?_
         rintro e w5 ⟨V, n, cc, rfl, hrs, hb5, hnew⟩
         have hnow := HCUR.out.trans (hb5.mono HCUR.out.size)
         have HNEW := Lib.hid (show ∀ g o, V = some ⟨g, o, none⟩ → w1.heap.size ≤ g from fun g o e => Nat.le_trans HCUR.out.size (hnew g o e))
         replace HCUR := Lib.hid hnow
         have hk3 := HK3.out.bel hnow
         obtain ⟨z0, z1, z2⟩ := blk3 hk3
         have y0 := hk3.soft 0
         have y1 := hk3.soft 1
         have y2 := hk3.soft 2
         have HRS := Lib.hid hrs
         clear hb5 hnow hnew hrs HT hk3))
    all_goals
      have hrs9 := Rs.set3n (r := w.heap.size + 1) HRS.out HNEW.out (by omega) (.slice V n cc) (.int .i64 (Q.getD zeroAt).sq) (.int .i64 (Q.getD zeroAt).tg)
      obtain ⟨hk9, hb9⟩ := blk3_set (g := w.heap.size + 1) (HK3.out.bel HCUR.out) (bel_trans HBW.out HCUR.out) (by omega) (.slice V n cc) (.int .i64 (Q.getD zeroAt).sq) (.int .i64 (Q.getD zeroAt).tg)
      generalize (((w5.setCell ⟨w.heap.size + 1, 0, none⟩ (.slice V n cc)).setCell ⟨w.heap.size + 1, 1, none⟩ (.int .i64 (Q.getD zeroAt).sq)).setCell ⟨w.heap.size + 1, 2, none⟩ (.int .i64 (Q.getD zeroAt).tg)) = w9 at hk9 hb9 hrs9 ⊢
      obtain ⟨d0, d1, d2⟩ := blk3 hk9
      go_wp2_with fail
      refine bodyPost_ret (v := .tuple #[.agg #[.slice V n cc, .int .i64 (Q.getD zeroAt).sq, .int .i64 (Q.getD zeroAt).tg], .bool Q.isSome]) (by simp [results, Try.results20, go_sem, d0, d1, d2]) rfl ?_
      rw [HR.out]
      exact ⟨V, n, cc, rfl, hrs9, hb9, fun g o e => by have := HNEW.out g o e; omega⟩
end Go.Proofs.Ytccbkpdkmdnmfaa
