/-
  attr.Item and attr.Old: the item, and the old form, in memory of the call's own.
-/
import Derived.Test.YtccbkpdkmdnmfaaAttItemPlain
import Derived.Test.YtccbkpdkmdnmfaaAttSmall
import Derived.Test.YtccbkpdkmdnmfaaIdsItem
import Derived.Test.YtccbkpdkmdnmfaaCodRefMake
import Derived.Test.YtccbkpdkmdnmfaaCodList
import Derived.Deep.RegionHeld3
namespace Go.Proofs.Ytccbkpdkmdnmfaa
open Go.RowKit Mem Ids Att Cod

/-- The ending: an item in memory of the call's own, and an error's number; what was there stays. -/
def GivesOld (w : World) (r : It × Int) (e : Ending) (w' : World) : Prop :=
  ∃ V c, e = .returned (.tuple #[.agg #[.int .i64 r.1.kind, .int .u64 (r.1.num : Int), .string r.1.str, .slice V r.1.kids.length c], .int .i64 r.2]) ∧ Lies w' (fun b => w.heap.size ≤ b ∧ b < w'.heap.size) r.1 V c ∧ Below w.heap.size w w'

/-- A right set's item, its parts written out. -/
def GivesSet (w : World) (l : List (Int × Int)) (e : Ending) (w' : World) : Prop :=
  ∃ V c, e = .returned (.agg #[.int .i64 2, .int .u64 0, .string ByteArray.empty, .slice V (l.length * 2) c]) ∧ Lies w' (fun b => w.heap.size ≤ b ∧ b < w'.heap.size) (setIt l) V c ∧ Below w.heap.size w w'
theorem GivesNew.set {w : World} {l : List (Int × Int)} {e : Ending} {w' : World} (h : GivesNew w (setIt l) e w') : GivesSet w l e w' := by
  obtain ⟨V, c, he, hl, hb⟩ := h
  refine ⟨V, c, ?_, hl, hb⟩
  rw [he]
  show Ending.returned (.agg #[.int .i64 2, .int .u64 ((0 : Nat) : Int), .string ByteArray.empty, .slice V (its l).length c]) = _
  rw [length_its]
  rfl
theorem setitem_any (l : List (Int × Int)) (A : Option Addr) (n c : Nat) (w : World) (ha : Rs w A n c l) (hc : Ids.chk l = true) :
    Calls Try.prog 35 #[.slice A n c] w (GivesSet w l) := by
  have h := item_new l A n c w ha
  rw [itemOf, if_pos hc] at h
  exact h.mono fun _ _ h => h.set

theorem held3 {w w' : World} {g : Nat} {t : TypeId} {a b c : Value} (h1 : Blk w g t #[a, b, c]) (hb : Below w.heap.size w w') :
    w'.cell? ⟨g, 0, none⟩ = some a ∧ w'.cell? ⟨g, 1, none⟩ = some b ∧ w'.cell? ⟨g, 2, none⟩ = some c := blk3 (h1.bel hb)
theorem held3a {w w' : World} {g : Nat} {t : TypeId} {a b c : Value} (h1 : Blk w g t #[a, b, c]) (hb : Below w.heap.size w w') (o : Obj) :
    (w'.alloc o).cell? ⟨g, 0, none⟩ = some a ∧ (w'.alloc o).cell? ⟨g, 1, none⟩ = some b ∧ (w'.alloc o).cell? ⟨g, 2, none⟩ = some c := blk3 ((h1.bel hb).alloc o)
theorem two_kinds (w : World) (t u : TypeId) (a b : Array Value) (W : World) (hW : (w.alloc (.cells a t)).alloc (.cells b u) = W) : Blk W w.heap.size t a ∧ Blk W (w.heap.size + 1) u b ∧ Below w.heap.size w W ∧ W.heap.size = w.heap.size + 2 := by
  subst hW
  have h := Blk.new (w.alloc (.cells a t)) u b
  rw [size_alloc] at h
  exact ⟨(Blk.new w t a).alloc _, h, ((Below.refl w.heap.size w).alloc (Nat.le_refl _) _).alloc (by rw [size_alloc]; omega) _, by rw [size_alloc, size_alloc]⟩

theorem wts_three {a : At} (h : achk a = 0) : wts [numIt a.tg, numIt a.sq, setIt a.dp] ≤ 100000 ∧ wts [numIt a.sq, setIt a.dp] ≤ 100000 := by
  have hl := achk_len h
  have h1 : wts [numIt a.tg, numIt a.sq, setIt a.dp] = wts [numIt a.tg] + (wts [numIt a.sq] + wts [setIt a.dp]) := by
    rw [show [numIt a.tg, numIt a.sq, setIt a.dp] = [numIt a.tg] ++ ([numIt a.sq] ++ [setIt a.dp]) from rfl, wts_append, wts_append]
  have h2 : wts [numIt a.sq, setIt a.dp] = wts [numIt a.sq] + wts [setIt a.dp] := by
    rw [show [numIt a.sq, setIt a.dp] = [numIt a.sq] ++ [setIt a.dp] from rfl, wts_append]
  have e1 : ∀ v, wts [numIt v] = 1 := fun v => by rw [wts_one]; simp [numIt, wt, wts]
  have e2 : wts [setIt a.dp] = 1 + a.dp.length * 2 := by
    rw [wts_one]
    show 1 + ByteArray.empty.size + wts (its a.dp) = _
    rw [wts_its]
    rfl
  rw [h1, h2, e1, e1, e2]
  omega

/-- The row of 3 items that is made of it. -/
theorem row_of3 {l : List (Int × Int)} {s t : Int} (h : achk ⟨l, s, t⟩ = 0) (w : World) (u : TypeId) (VI : Option Addr) (cI B : Nat) (hB : B ≤ w.heap.size) (hl : Lies w (fun b => B ≤ b ∧ b < w.heap.size) (setIt l) VI cI) :
    Cod.Row (w.alloc (.cells #[.int .i64 0, .int .u64 t, .string ByteArray.empty, .slice none 0 0, .int .i64 0, .int .u64 s, .string ByteArray.empty, .slice none 0 0, .int .i64 2, .int .u64 0, .string ByteArray.empty, .slice VI (l.length * 2) cI] u)) (fun b => B ≤ b ∧ b ≤ w.heap.size) (some ⟨w.heap.size, 0, none⟩) 3 3 [numIt t, numIt s, setIt l] := by
  obtain ⟨h0, h1, h2, h3⟩ := achk_sq h
  simp only at h0 h1 h2 h3
  refine row_new w (fun b => B ≤ b ∧ b ≤ w.heap.size) ⟨hB, Nat.le_refl _⟩ [⟨numIt t, none, 0⟩, ⟨numIt s, none, 0⟩, ⟨setIt l, VI, cI⟩] 3 rfl (by decide) _ u ?_ ?_
  · have e0 : ((t.toNat : Nat) : Int) = t := Int.toNat_of_nonneg (by omega)
    have e1 : ((s.toNat : Nat) : Int) = s := Int.toNat_of_nonneg h0
    show _ = [Value.int .i64 0, .int .u64 ((t.toNat : Nat) : Int), .string ByteArray.empty, .slice none 0 0, .int .i64 0, .int .u64 ((s.toNat : Nat) : Int), .string ByteArray.empty, .slice none 0 0, .int .i64 2, .int .u64 ((0 : Nat) : Int), .string ByteArray.empty, .slice VI (its l).length cI]
    rw [e0, e1, length_its]
    rfl
  · intro x hx
    simp only [List.mem_cons, List.not_mem_nil, or_false] at hx
    rcases hx with rfl | rfl | rfl
    · exact lies_leaf _ _ (by decide) (by show t.toNat ≤ _; omega) (by decide)
    · exact lies_leaf _ _ (by decide) (by show s.toNat ≤ _; omega) (by decide)
    · exact (hl.alloc _).more fun b hb _ => ⟨hb.1, by omega⟩

/-- The row of 2 items that is made of it. -/
theorem row_of2 {l : List (Int × Int)} {s t : Int} (h : achk ⟨l, s, t⟩ = 0) (w : World) (u : TypeId) (VI : Option Addr) (cI B : Nat) (hB : B ≤ w.heap.size) (hl : Lies w (fun b => B ≤ b ∧ b < w.heap.size) (setIt l) VI cI) :
    Cod.Row (w.alloc (.cells #[.int .i64 0, .int .u64 s, .string ByteArray.empty, .slice none 0 0, .int .i64 2, .int .u64 0, .string ByteArray.empty, .slice VI (l.length * 2) cI] u)) (fun b => B ≤ b ∧ b ≤ w.heap.size) (some ⟨w.heap.size, 0, none⟩) 2 2 [numIt s, setIt l] := by
  obtain ⟨h0, h1, h2, h3⟩ := achk_sq h
  simp only at h0 h1 h2 h3
  refine row_new w (fun b => B ≤ b ∧ b ≤ w.heap.size) ⟨hB, Nat.le_refl _⟩ [⟨numIt s, none, 0⟩, ⟨setIt l, VI, cI⟩] 2 rfl (by decide) _ u ?_ ?_
  · have e0 : ((t.toNat : Nat) : Int) = t := Int.toNat_of_nonneg (by omega)
    have e1 : ((s.toNat : Nat) : Int) = s := Int.toNat_of_nonneg h0
    show _ = [Value.int .i64 0, .int .u64 ((s.toNat : Nat) : Int), .string ByteArray.empty, .slice none 0 0, .int .i64 2, .int .u64 ((0 : Nat) : Int), .string ByteArray.empty, .slice VI (its l).length cI]
    rw [e1, length_its]
    rfl
  · intro x hx
    simp only [List.mem_cons, List.not_mem_nil, or_false] at hx
    rcases hx with rfl | rfl
    · exact lies_leaf _ _ (by decide) (by show s.toNat ≤ _; omega) (by decide)
    · exact (hl.alloc _).more fun b hb _ => ⟨hb.1, by omega⟩

set_option maxRecDepth 100000 in
set_option maxHeartbeats 4000000 in
theorem attitem_any (l : List (Int × Int)) (s t : Int) (A : Option Addr) (n c : Nat) (w : World) (hr : Rs w A n c l) :
    Calls Try.prog 17 #[.agg #[.slice A n c, .int .i64 s, .int .i64 t]] w (GivesNew w (attItem ⟨l, s, t⟩)) := by
  obtain ⟨W, hW⟩ : ∃ W, (w.alloc (.cells #[.slice A n c, .int .i64 s, .int .i64 t] 24)).alloc (.cells #[.int .i64 0, .int .u64 0, .string ⟨#[]⟩, .slice none 0 0] 37) = W := ⟨_, rfl⟩
  obtain ⟨k1, k2, kb, hsW⟩ := two_kinds w _ _ _ _ W hW
  have HK1 := Lib.hid k1
  have HBX := Lib.hid k2
  have HB0 := Lib.hid kb
  have HW := Lib.hid hW
  have HRS := Lib.hid (hr.below kb)
  obtain ⟨p0, p1, p2⟩ := blk3 k1
  obtain ⟨y0, y1, y2, y3⟩ := blk4 k2
  have hck := acheck_any l s t A n c W (hr.below kb)
  clear k1 k2 kb hW hr
  go_enter Try.func17, Try.ntmps17
  go_wp2_with fail
  rw [HW.out]
  by_cases hc : achk ⟨l, s, t⟩ = 0
  case neg =>
    have hit : attItem ⟨l, s, t⟩ = zeroIt := by rw [attItem, if_neg hc]
    have HIT := Lib.hid hit
    generalize achk ⟨l, s, t⟩ = v at hck hc
    have hne : (v != 0) = true := by simpa using hc
    have HCK := Lib.hid hck
    clear hck hit hc p0 p1 p2 y0 y1 y2 y3
    refine HCK.out.mono ?_
    rintro e w2 ⟨rfl, hb2⟩
    have hblk := HBX.out.bel hb2
    have HB2 := Lib.hid (bel_trans HB0.out hb2)
    obtain ⟨c0, c1, c2, c3⟩ := blk4 hblk
    have z0 := hblk.soft 0
    have z1 := hblk.soft 1
    have z2 := hblk.soft 2
    have z3 := hblk.soft 3
    have hs2 := hb2.size
    clear hb2
    go_wp2_with fail
    obtain ⟨hblk2, hgr⟩ := blk4_set hblk (.int .i64 0) (.int .u64 0) (.string ⟨#[]⟩) (.slice none 0 0)
    generalize (((w2.setCell ⟨w.heap.size + 1, 0, none⟩ (.int .i64 0)).setCell ⟨w.heap.size + 1, 1, none⟩ (.int .u64 0)).setCell ⟨w.heap.size + 1, 2, none⟩ (.string ⟨#[]⟩)).setCell ⟨w.heap.size + 1, 3, none⟩ (.slice none 0 0) = w9 at hblk2 hgr ⊢
    obtain ⟨d0, d1, d2, d3⟩ := blk4 hblk2
    refine bodyPost_ret (v := .agg #[.int .i64 0, .int .u64 0, .string ByteArray.empty, .slice none 0 0]) (by simp [results, Try.results17, go_sem, d0, d1, d2, d3]; rfl) rfl ?_
    rw [HIT.out]
    exact ⟨none, 0, rfl, lies_leaf _ _ (by omega) (by omega) (by decide), HB2.out.trans (gr_below hgr (by omega) fun b hb => by cases hb; omega)⟩
  have hit : attItem ⟨l, s, t⟩ = attIt ⟨l, s, t⟩ := by rw [attItem, if_pos hc]
  rw [hc] at hck
  have HIT := Lib.hid hit
  have HCK := Lib.hid hck
  clear hit hck
  have HCH := Lib.hid hc
  obtain ⟨b0, b1, b2, b3⟩ := achk_sq hc
  simp only at b0 b1 b2 b3
  have HSZ := Lib.hid ((wts_three hc).1)
  have HI := Lib.hid (fun w (h : Rs w A n c l) => setitem_any l A n c w h (achk_zero.1 hc).2.2)
  have H0 := Lib.hid (num_any t)
  have u0 : IntKind.u64.wrap t = t := u64_in (by omega) (by omega)
  have H1 := Lib.hid (num_any s)
  have u1 : IntKind.u64.wrap s = s := u64_in (by omega) (by omega)
  clear hc b0 b1 b2 b3
  refine HCK.out.mono ?_
  rintro e w2 ⟨rfl, hb2⟩
  have HCUR := Lib.hid (Below.drew hb2)
  obtain ⟨p0, p1, p2⟩ := blk3 (HK1.out.bel hb2)
  obtain ⟨y0, y1, y2, y3⟩ := blk4 (HBX.out.bel hb2)
  clear hb2 HCK
  go_wp2_with fail
  go_region_held3 (fun w' => w'.cell? ⟨w.heap.size, 0, none⟩ = some (.slice A n c) ∧ w'.cell? ⟨w.heap.size, 1, none⟩ = some (.int .i64 s) ∧ w'.cell? ⟨w.heap.size, 2, none⟩ = some (.int .i64 t)) (first | (with_reducible exact held3a HK1.out HCUR.out _) | (with_reducible exact held3 HK1.out HCUR.out) | (with_reducible exact HLAST.out _ _ _ _))
    (first
    | (go_at_call 34
       refine (H0.out _).mono ?_
       rintro e v1 ⟨rfl, hb1⟩
       have hnow := HCUR.out.trans (hb1.mono HCUR.out.size)
       replace HCUR := Lib.hid hnow
       clear H0 hb1 hnow)
    | (go_at_call 34
       refine (H1.out _).mono ?_
       rintro e v1 ⟨rfl, hb1⟩
       have hnow := HCUR.out.trans (hb1.mono HCUR.out.size)
       replace HCUR := Lib.hid hnow
       clear H1 hb1 hnow)
    | (go_at_call 35
       refine (HI.out _ (HRS.out.below HCUR.out)).mono ?_
       rintro e v1 ⟨VI, cI, rfl, hli, hb1⟩
       have hnow := HCUR.out.trans (hb1.mono HCUR.out.size)
       have HLI := Lib.hid (hli.more (S' := fun b => W.heap.size ≤ b ∧ b < v1.heap.size) fun b hb _ => ⟨Nat.le_trans HCUR.out.size hb.1, hb.2⟩)
       replace HCUR := Lib.hid hnow
       clear HI hb1 hnow hli)
    | (go_at_call 33
       refine (list_more _ 3 3 _ [numIt t, numIt s, setIt l] _ (row_of3 HCH.out v1 37 VI cI _ HCUR.out.size HLI.out) (fun b hb => by have := size_alloc v1 (.cells #[.int .i64 0, .int .u64 t, .string ByteArray.empty, .slice none 0 0, .int .i64 0, .int .u64 s, .string ByteArray.empty, .slice none 0 0, .int .i64 2, .int .u64 0, .string ByteArray.empty, .slice VI (l.length * 2) cI] 37); omega) HSZ.out).mono ?_
       rintro e w5 ⟨V5, c5, rfl, hr5, hb5⟩
       have hs6 := size_alloc v1 (.cells #[.int .i64 0, .int .u64 t, .string ByteArray.empty, .slice none 0 0, .int .i64 0, .int .u64 s, .string ByteArray.empty, .slice none 0 0, .int .i64 2, .int .u64 0, .string ByteArray.empty, .slice VI (l.length * 2) cI] 37)
       have hs5 := hb5.size
       have hsv := HCUR.out.size
       have hnow := (HCUR.out.alloc HCUR.out.size (.cells #[.int .i64 0, .int .u64 t, .string ByteArray.empty, .slice none 0 0, .int .i64 0, .int .u64 s, .string ByteArray.empty, .slice none 0 0, .int .i64 2, .int .u64 0, .string ByteArray.empty, .slice VI (l.length * 2) cI] 37)).trans (hb5.mono (by omega))
       have hblk := HBX.out.bel hnow
       obtain ⟨c0, c1, c2, c3⟩ := blk4 hblk
       have z0 := hblk.soft 0
       have z1 := hblk.soft 1
       have z2 := hblk.soft 2
       have z3 := hblk.soft 3
       have HR5 := Lib.hid hr5
       have HB5 := Lib.hid hnow
       replace HCUR := Lib.hid hnow
       have HKB := Lib.hid hblk
       have hs7 : W.heap.size ≤ v1.heap.size := hsv
       have HVV := Lib.hid (And.intro hs6 (And.intro hs5 hs7))
       have HLAST := Lib.hid (show ∀ (x0 x1 x2 x3 : Value), _ from fun x0 x1 x2 x3 => blk3 (((((HK1.out.bel hnow).far (p := ⟨w.heap.size + 1, 0, none⟩) (by simp) x0).far (p := ⟨w.heap.size + 1, 1, none⟩) (by simp) x1).far (p := ⟨w.heap.size + 1, 2, none⟩) (by simp) x2).far (p := ⟨w.heap.size + 1, 3, none⟩) (by simp) x3))
       clear hr5 hb5 hnow hblk hs6 hs5 hsv hs7))
  go_wp2_with fail
  obtain ⟨hblk2, hgr⟩ := blk4_set HKB.out (.int .i64 2) (.int .u64 0) (.string ByteArray.empty) (.slice V5 3 c5)
  generalize (((w5.setCell ⟨w.heap.size + 1, 0, none⟩ (.int .i64 2)).setCell ⟨w.heap.size + 1, 1, none⟩ (.int .u64 0)).setCell ⟨w.heap.size + 1, 2, none⟩ (.string ByteArray.empty)).setCell ⟨w.heap.size + 1, 3, none⟩ (.slice V5 3 c5) = w9 at hblk2 hgr ⊢
  obtain ⟨d0, d1, d2, d3⟩ := blk4 hblk2
  refine bodyPost_ret (v := .agg #[.int .i64 2, .int .u64 0, .string ByteArray.empty, .slice V5 3 c5]) (by simp [results, Try.results17, go_sem, d0, d1, d2, d3]) rfl ?_
  obtain ⟨e1, e2, e3⟩ := HVV.out
  have hs9 := hgr.size
  have hrow9 : Cod.Row w9 (fun b => w.heap.size ≤ b ∧ b < w9.heap.size) V5 3 c5 [numIt t, numIt s, setIt l] := (HR5.out.grown hgr (fun b hb e => by injection e with e; omega)).more fun b hb _ => by omega
  rw [HIT.out]
  refine ⟨V5, c5, rfl, hrow9.lies (by omega) (by omega) (by decide), ?_⟩
  exact (HB0.out.trans (HB5.out.mono (by omega))).trans (gr_below hgr (by have := HB5.out.size; omega) fun b hb => by injection hb with hb; omega)
end Go.Proofs.Ytccbkpdkmdnmfaa
