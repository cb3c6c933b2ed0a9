/-
  Texts of earlier layers, as one.
-/
import Derived.Test.YtbjooblaamjppaaGreatRAtt
/- The document's Item and Old of what instances hang on, of what is nothing as well. -/
namespace Go.Proofs.YtbjooblaamjppaaGreat
open Go.RowKit Mem Ids Att Cod

/-- Right, or nothing. -/
def aok (a : At) : Prop := 0 ≤ a.sq ∧ a.sq ≤ 1099511627776 ∧ 0 ≤ a.tg ∧ a.tg ≤ 2 ∧ Ids.chk a.dp = true
theorem aok_sq {a : At} (h : aok a) : 0 ≤ a.sq ∧ a.sq ≤ 1099511627776 ∧ 0 ≤ a.tg ∧ a.tg ≤ 2 := ⟨h.1, h.2.1, h.2.2.1, h.2.2.2.1⟩
theorem aok_len {a : At} (h : aok a) : a.dp.length ≤ 4096 := (of_decide_eq_true h.2.2.2.2).1
theorem aok_of {a : At} (h : achk a = 0) : aok a := by
  obtain ⟨h0, h1, h2, h3⟩ := achk_sq h
  exact ⟨h0, h1, by omega, h3, (achk_zero.1 h).2.2⟩
theorem aok_zero : aok zeroAt := ⟨by decide, by decide, by decide, by decide, by decide⟩
theorem wts_ok {a : At} (h : aok a) : wts [numIt a.tg, numIt a.sq, setIt a.dp] ≤ 100000 ∧ wts [numIt a.sq, setIt a.dp] ≤ 100000 := by
  have hl := aok_len h
  have h1 : wts [numIt a.tg, numIt a.sq, setIt a.dp] = wts [numIt a.tg] + (wts [numIt a.sq] + wts [setIt a.dp]) := by
    rw [show [numIt a.tg, numIt a.sq, setIt a.dp] = [numIt a.tg] ++ ([numIt a.sq] ++ [setIt a.dp]) from rfl, wts_append, wts_append]
  have h2 : wts [numIt a.sq, setIt a.dp] = wts [numIt a.sq] + wts [setIt a.dp] := by
    rw [show [numIt a.sq, setIt a.dp] = [numIt a.sq] ++ [setIt a.dp] from rfl, wts_append]
  have e1 : ∀ v, wts [numIt v] = 1 := fun v => by rw [wts_one]; simp [numIt, wt, wts]
  have e2 : wts [setIt a.dp] = 1 + a.dp.length * 2 := by
    rw [wts_one]
    show 1 + ByteArray.empty.size + wts (its a.dp) = _
    rw [wts_its]
    rfl
  rw [h1, h2, e1, e1, e2]
  omega

/-- The row of 3 items that is made of it. -/
theorem row_ok3 {l : List (Int × Int)} {s t : Int} (h : aok ⟨l, s, t⟩) (w : World) (u : TypeId) (VI : Option Addr) (cI B : Nat) (hB : B ≤ w.heap.size) (hl : Lies w (fun b => B ≤ b ∧ b < w.heap.size) (setIt l) VI cI) :
    Cod.Row (w.alloc (.cells #[.int .i64 0, .int .u64 t, .string ByteArray.empty, .slice none 0 0, .int .i64 0, .int .u64 s, .string ByteArray.empty, .slice none 0 0, .int .i64 2, .int .u64 0, .string ByteArray.empty, .slice VI (l.length * 2) cI] u)) (fun b => B ≤ b ∧ b ≤ w.heap.size) (some ⟨w.heap.size, 0, none⟩) 3 3 [numIt t, numIt s, setIt l] := by
  obtain ⟨h0, h1, h2, h3⟩ := aok_sq h
  simp only at h0 h1 h2 h3
  refine row_new w (fun b => B ≤ b ∧ b ≤ w.heap.size) ⟨hB, Nat.le_refl _⟩ [⟨numIt t, none, 0⟩, ⟨numIt s, none, 0⟩, ⟨setIt l, VI, cI⟩] 3 rfl (by decide) _ u ?_ ?_
  · have e0 : ((t.toNat : Nat) : Int) = t := Int.toNat_of_nonneg (by omega)
    have e1 : ((s.toNat : Nat) : Int) = s := Int.toNat_of_nonneg h0
    show _ = [Value.int .i64 0, .int .u64 ((t.toNat : Nat) : Int), .string ByteArray.empty, .slice none 0 0, .int .i64 0, .int .u64 ((s.toNat : Nat) : Int), .string ByteArray.empty, .slice none 0 0, .int .i64 2, .int .u64 ((0 : Nat) : Int), .string ByteArray.empty, .slice VI (its l).length cI]
    rw [e0, e1, length_its]
    rfl
  · intro x hx
    simp only [List.mem_cons, List.not_mem_nil, or_false] at hx
    rcases hx with rfl | rfl | rfl
    · exact lies_leaf _ _ (by decide) (by show t.toNat ≤ _; omega) (by decide)
    · exact lies_leaf _ _ (by decide) (by show s.toNat ≤ _; omega) (by decide)
    · exact (hl.alloc _).more fun b hb _ => ⟨hb.1, by omega⟩

/-- The row of 2 items that is made of it. -/
theorem row_ok2 {l : List (Int × Int)} {s t : Int} (h : aok ⟨l, s, t⟩) (w : World) (u : TypeId) (VI : Option Addr) (cI B : Nat) (hB : B ≤ w.heap.size) (hl : Lies w (fun b => B ≤ b ∧ b < w.heap.size) (setIt l) VI cI) :
    Cod.Row (w.alloc (.cells #[.int .i64 0, .int .u64 s, .string ByteArray.empty, .slice none 0 0, .int .i64 2, .int .u64 0, .string ByteArray.empty, .slice VI (l.length * 2) cI] u)) (fun b => B ≤ b ∧ b ≤ w.heap.size) (some ⟨w.heap.size, 0, none⟩) 2 2 [numIt s, setIt l] := by
  obtain ⟨h0, h1, h2, h3⟩ := aok_sq h
  simp only at h0 h1 h2 h3
  refine row_new w (fun b => B ≤ b ∧ b ≤ w.heap.size) ⟨hB, Nat.le_refl _⟩ [⟨numIt s, none, 0⟩, ⟨setIt l, VI, cI⟩] 2 rfl (by decide) _ u ?_ ?_
  · have e0 : ((t.toNat : Nat) : Int) = t := Int.toNat_of_nonneg (by omega)
    have e1 : ((s.toNat : Nat) : Int) = s := Int.toNat_of_nonneg h0
    show _ = [Value.int .i64 0, .int .u64 ((s.toNat : Nat) : Int), .string ByteArray.empty, .slice none 0 0, .int .i64 2, .int .u64 ((0 : Nat) : Int), .string ByteArray.empty, .slice VI (its l).length cI]
    rw [e1, length_its]
    rfl
  · intro x hx
    simp only [List.mem_cons, List.not_mem_nil, or_false] at hx
    rcases hx with rfl | rfl
    · exact lies_leaf _ _ (by decide) (by show s.toNat ≤ _; omega) (by decide)
    · exact (hl.alloc _).more fun b hb _ => ⟨hb.1, by omega⟩

set_option maxRecDepth 100000 in
set_option maxHeartbeats 4000000 in
theorem refattitem_ok (l : List (Int × Int)) (s t : Int) (A : Option Addr) (n c : Nat) (w : World) (hr : Rs w A n c l) (hc : aok ⟨l, s, t⟩) :
    Calls Tryz.prog 33 #[.agg #[.slice A n c, .int .i64 s, .int .i64 t]] w (GivesNew w (attIt ⟨l, s, t⟩)) := by
  obtain ⟨W, hW⟩ : ∃ W, (w.alloc (.cells #[.slice A n c, .int .i64 s, .int .i64 t] 30)).alloc (.cells #[.int .i64 0, .int .u64 0, .string ⟨#[]⟩, .slice none 0 0] 36) = W := ⟨_, rfl⟩
  obtain ⟨k1, k2, kb, hsW⟩ := two_kinds w _ _ _ _ W hW
  have HK1 := Lib.hid k1
  have HBX := Lib.hid k2
  have HB0 := Lib.hid kb
  have HW := Lib.hid hW
  have HRS := Lib.hid (hr.below kb)
  obtain ⟨p0, p1, p2⟩ := blk3 k1
  obtain ⟨y0, y1, y2, y3⟩ := blk4 k2
  have HCH := Lib.hid hc
  obtain ⟨b0, b1, b2, b3⟩ := aok_sq hc
  simp only at b0 b1 b2 b3
  have HSZ := Lib.hid ((wts_ok hc).1)
  have HI := Lib.hid (fun w (h : Rs w A n c l) => (refitem_new l A n c w h hc.2.2.2.2).mono fun _ _ h => h.set)
  have H0 := Lib.hid (refnum_any t (by omega) (by omega))
  have H1 := Lib.hid (refnum_any s (by omega) (by omega))
  clear hc b0 b1 b2 b3
  have HCUR := Lib.hid (Below.drew (Below.refl W.heap.size W))
  clear k1 k2 kb hW hr
  go_enter Tryz.func33, Tryz.ntmps33
  go_wp2_with fail
  rw [HW.out]
  go_region_held3 (fun w' => w'.cell? ⟨w.heap.size, 0, none⟩ = some (.slice A n c) ∧ w'.cell? ⟨w.heap.size, 1, none⟩ = some (.int .i64 s) ∧ w'.cell? ⟨w.heap.size, 2, none⟩ = some (.int .i64 t)) (first | (with_reducible exact held3a HK1.out HCUR.out _) | (with_reducible exact held3 HK1.out HCUR.out) | (with_reducible exact HLAST.out _ _ _ _))
    (first
    | (go_at_call 67
       refine (H0.out _).mono ?_
       rintro e v1 ⟨rfl, hb1⟩
       have hnow := HCUR.out.trans (hb1.mono HCUR.out.size)
       replace HCUR := Lib.hid hnow
       clear H0 hb1 hnow)
    | (go_at_call 67
       refine (H1.out _).mono ?_
       rintro e v1 ⟨rfl, hb1⟩
       have hnow := HCUR.out.trans (hb1.mono HCUR.out.size)
       replace HCUR := Lib.hid hnow
       clear H1 hb1 hnow)
    | (go_at_call 71
       refine (HI.out _ (HRS.out.below HCUR.out)).mono ?_
       rintro e v1 ⟨VI, cI, rfl, hli, hb1⟩
       have hnow := HCUR.out.trans (hb1.mono HCUR.out.size)
       have HLI := Lib.hid (hli.more (S' := fun b => W.heap.size ≤ b ∧ b < v1.heap.size) fun b hb _ => ⟨Nat.le_trans HCUR.out.size hb.1, hb.2⟩)
       replace HCUR := Lib.hid hnow
       clear HI hb1 hnow hli)
    | (go_at_call 70
       refine (reflist_any _ 3 3 _).mono ?_
       rintro e w5 ⟨rfl, hb5⟩
       have hs6 := size_alloc v1 (.cells #[.int .i64 0, .int .u64 t, .string ByteArray.empty, .slice none 0 0, .int .i64 0, .int .u64 s, .string ByteArray.empty, .slice none 0 0, .int .i64 2, .int .u64 0, .string ByteArray.empty, .slice VI (l.length * 2) cI] 36)
       have hs5 := hb5.size
       have hr5 := (row_ok3 HCH.out v1 36 VI cI _ HCUR.out.size HLI.out).below hb5 (fun b hb => by have := size_alloc v1 (.cells #[.int .i64 0, .int .u64 t, .string ByteArray.empty, .slice none 0 0, .int .i64 0, .int .u64 s, .string ByteArray.empty, .slice none 0 0, .int .i64 2, .int .u64 0, .string ByteArray.empty, .slice VI (l.length * 2) cI] 36); omega)
       have hsv := HCUR.out.size
       have hnow := (HCUR.out.alloc HCUR.out.size (.cells #[.int .i64 0, .int .u64 t, .string ByteArray.empty, .slice none 0 0, .int .i64 0, .int .u64 s, .string ByteArray.empty, .slice none 0 0, .int .i64 2, .int .u64 0, .string ByteArray.empty, .slice VI (l.length * 2) cI] 36)).trans (hb5.mono (by omega))
       have hblk := HBX.out.bel hnow
       obtain ⟨c0, c1, c2, c3⟩ := blk4 hblk
       have z0 := hblk.soft 0
       have z1 := hblk.soft 1
       have z2 := hblk.soft 2
       have z3 := hblk.soft 3
       have HR5 := Lib.hid hr5
       have HB5 := Lib.hid hnow
       replace HCUR := Lib.hid hnow
       have HKB := Lib.hid hblk
       have hs7 : W.heap.size ≤ v1.heap.size := hsv
       have HVV := Lib.hid (And.intro hs6 (And.intro hs5 hs7))
       have HLAST := Lib.hid (show ∀ (x0 x1 x2 x3 : Value), _ from fun x0 x1 x2 x3 => blk3 (((((HK1.out.bel hnow).far (p := ⟨w.heap.size + 1, 0, none⟩) (by simp) x0).far (p := ⟨w.heap.size + 1, 1, none⟩) (by simp) x1).far (p := ⟨w.heap.size + 1, 2, none⟩) (by simp) x2).far (p := ⟨w.heap.size + 1, 3, none⟩) (by simp) x3))
       clear hr5 hb5 hnow hblk hs6 hs5 hsv hs7))
  go_wp2_with fail
  obtain ⟨hblk2, hgr⟩ := blk4_set HKB.out (.int .i64 2) (.int .u64 0) (.string ByteArray.empty) (.slice (some ⟨v1.heap.size, 0, none⟩) 3 3)
  generalize (((w5.setCell ⟨w.heap.size + 1, 0, none⟩ (.int .i64 2)).setCell ⟨w.heap.size + 1, 1, none⟩ (.int .u64 0)).setCell ⟨w.heap.size + 1, 2, none⟩ (.string ByteArray.empty)).setCell ⟨w.heap.size + 1, 3, none⟩ (.slice (some ⟨v1.heap.size, 0, none⟩) 3 3) = w9 at hblk2 hgr ⊢
  obtain ⟨d0, d1, d2, d3⟩ := blk4 hblk2
  refine bodyPost_ret (v := .agg #[.int .i64 2, .int .u64 0, .string ByteArray.empty, .slice (some ⟨v1.heap.size, 0, none⟩) 3 3]) (by simp [results, Tryz.results33, go_sem, d0, d1, d2, d3]) rfl ?_
  obtain ⟨e1, e2, e3⟩ := HVV.out
  have hs9 := hgr.size
  have hrow9 : Cod.Row w9 (fun b => w.heap.size ≤ b ∧ b < w9.heap.size) (some ⟨v1.heap.size, 0, none⟩) 3 3 [numIt t, numIt s, setIt l] := (HR5.out.grown hgr (fun b hb e => by injection e with e; omega)).more fun b hb _ => by omega
  refine ⟨(some ⟨v1.heap.size, 0, none⟩), 3, rfl, hrow9.lies (by omega) (by omega) (by decide), ?_⟩
  exact (HB0.out.trans (HB5.out.mono (by omega))).trans (gr_below hgr (by have := HB5.out.size; omega) fun b hb => by injection hb with hb; omega)

set_option maxRecDepth 100000 in
set_option maxHeartbeats 4000000 in
theorem refattold_ok (l : List (Int × Int)) (s t : Int) (A : Option Addr) (n c : Nat) (w : World) (hr : Rs w A n c l) (hc : aok ⟨l, s, t⟩) :
    Calls Tryz.prog 36 #[.agg #[.slice A n c, .int .i64 s, .int .i64 t]] w (GivesNew w (oldIt ⟨l, s, t⟩)) := by
  obtain ⟨W, hW⟩ : ∃ W, (w.alloc (.cells #[.slice A n c, .int .i64 s, .int .i64 t] 30)).alloc (.cells #[.int .i64 0, .int .u64 0, .string ⟨#[]⟩, .slice none 0 0] 36) = W := ⟨_, rfl⟩
  obtain ⟨k1, k2, kb, hsW⟩ := two_kinds w _ _ _ _ W hW
  have HK1 := Lib.hid k1
  have HBX := Lib.hid k2
  have HB0 := Lib.hid kb
  have HW := Lib.hid hW
  have HRS := Lib.hid (hr.below kb)
  obtain ⟨p0, p1, p2⟩ := blk3 k1
  obtain ⟨y0, y1, y2, y3⟩ := blk4 k2
  have HCH := Lib.hid hc
  obtain ⟨b0, b1, b2, b3⟩ := aok_sq hc
  simp only at b0 b1 b2 b3
  have HSZ := Lib.hid ((wts_ok hc).2)
  have HI := Lib.hid (fun w (h : Rs w A n c l) => (refitem_new l A n c w h hc.2.2.2.2).mono fun _ _ h => h.set)
  have H1 := Lib.hid (refnum_any s (by omega) (by omega))
  clear hc b0 b1 b2 b3
  have HCUR := Lib.hid (Below.drew (Below.refl W.heap.size W))
  clear k1 k2 kb hW hr
  go_enter Tryz.func36, Tryz.ntmps36
  go_wp2_with fail
  rw [HW.out]
  go_region_held3 (fun w' => w'.cell? ⟨w.heap.size, 0, none⟩ = some (.slice A n c) ∧ w'.cell? ⟨w.heap.size, 1, none⟩ = some (.int .i64 s) ∧ w'.cell? ⟨w.heap.size, 2, none⟩ = some (.int .i64 t)) (first | (with_reducible exact held3a HK1.out HCUR.out _) | (with_reducible exact held3 HK1.out HCUR.out) | (with_reducible exact HLAST.out _ _ _ _))
    (first
    | (go_at_call 67
       refine (H1.out _).mono ?_
       rintro e v1 ⟨rfl, hb1⟩
       have hnow := HCUR.out.trans (hb1.mono HCUR.out.size)
       replace HCUR := Lib.hid hnow
       clear H1 hb1 hnow)
    | (go_at_call 71
       refine (HI.out _ (HRS.out.below HCUR.out)).mono ?_
       rintro e v1 ⟨VI, cI, rfl, hli, hb1⟩
       have hnow := HCUR.out.trans (hb1.mono HCUR.out.size)
       have HLI := Lib.hid (hli.more (S' := fun b => W.heap.size ≤ b ∧ b < v1.heap.size) fun b hb _ => ⟨Nat.le_trans HCUR.out.size hb.1, hb.2⟩)
       replace HCUR := Lib.hid hnow
       clear HI hb1 hnow hli)
    | (go_at_call 70
       refine (reflist_any _ 2 2 _).mono ?_
       rintro e w5 ⟨rfl, hb5⟩
       have hs6 := size_alloc v1 (.cells #[.int .i64 0, .int .u64 s, .string ByteArray.empty, .slice none 0 0, .int .i64 2, .int .u64 0, .string ByteArray.empty, .slice VI (l.length * 2) cI] 36)
       have hs5 := hb5.size
       have hr5 := (row_ok2 HCH.out v1 36 VI cI _ HCUR.out.size HLI.out).below hb5 (fun b hb => by have := size_alloc v1 (.cells #[.int .i64 0, .int .u64 s, .string ByteArray.empty, .slice none 0 0, .int .i64 2, .int .u64 0, .string ByteArray.empty, .slice VI (l.length * 2) cI] 36); omega)
       have hsv := HCUR.out.size
       have hnow := (HCUR.out.alloc HCUR.out.size (.cells #[.int .i64 0, .int .u64 s, .string ByteArray.empty, .slice none 0 0, .int .i64 2, .int .u64 0, .string ByteArray.empty, .slice VI (l.length * 2) cI] 36)).trans (hb5.mono (by omega))
       have hblk := HBX.out.bel hnow
       obtain ⟨c0, c1, c2, c3⟩ := blk4 hblk
       have z0 := hblk.soft 0
       have z1 := hblk.soft 1
       have z2 := hblk.soft 2
       have z3 := hblk.soft 3
       have HR5 := Lib.hid hr5
       have HB5 := Lib.hid hnow
       replace HCUR := Lib.hid hnow
       have HKB := Lib.hid hblk
       have hs7 : W.heap.size ≤ v1.heap.size := hsv
       have HVV := Lib.hid (And.intro hs6 (And.intro hs5 hs7))
       have HLAST := Lib.hid (show ∀ (x0 x1 x2 x3 : Value), _ from fun x0 x1 x2 x3 => blk3 (((((HK1.out.bel hnow).far (p := ⟨w.heap.size + 1, 0, none⟩) (by simp) x0).far (p := ⟨w.heap.size + 1, 1, none⟩) (by simp) x1).far (p := ⟨w.heap.size + 1, 2, none⟩) (by simp) x2).far (p := ⟨w.heap.size + 1, 3, none⟩) (by simp) x3))
       clear hr5 hb5 hnow hblk hs6 hs5 hsv hs7))
  go_wp2_with fail
  obtain ⟨hblk2, hgr⟩ := blk4_set HKB.out (.int .i64 2) (.int .u64 0) (.string ByteArray.empty) (.slice (some ⟨v1.heap.size, 0, none⟩) 2 2)
  generalize (((w5.setCell ⟨w.heap.size + 1, 0, none⟩ (.int .i64 2)).setCell ⟨w.heap.size + 1, 1, none⟩ (.int .u64 0)).setCell ⟨w.heap.size + 1, 2, none⟩ (.string ByteArray.empty)).setCell ⟨w.heap.size + 1, 3, none⟩ (.slice (some ⟨v1.heap.size, 0, none⟩) 2 2) = w9 at hblk2 hgr ⊢
  obtain ⟨d0, d1, d2, d3⟩ := blk4 hblk2
  refine bodyPost_ret (v := .agg #[.int .i64 2, .int .u64 0, .string ByteArray.empty, .slice (some ⟨v1.heap.size, 0, none⟩) 2 2]) (by simp [results, Tryz.results36, go_sem, d0, d1, d2, d3]) rfl ?_
  obtain ⟨e1, e2, e3⟩ := HVV.out
  have hs9 := hgr.size
  have hrow9 : Cod.Row w9 (fun b => w.heap.size ≤ b ∧ b < w9.heap.size) (some ⟨v1.heap.size, 0, none⟩) 2 2 [numIt s, setIt l] := (HR5.out.grown hgr (fun b hb e => by injection e with e; omega)).more fun b hb _ => by omega
  refine ⟨(some ⟨v1.heap.size, 0, none⟩), 2, rfl, hrow9.lies (by omega) (by omega) (by decide), ?_⟩
  exact (HB0.out.trans (HB5.out.mono (by omega))).trans (gr_below hgr (by have := HB5.out.size; omega) fun b hb => by injection hb with hb; omega)
end Go.Proofs.YtbjooblaamjppaaGreat
