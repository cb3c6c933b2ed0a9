/-
  cmd.Item of any command, and the document's of a right one: in memory of the call's own.
-/
import Derived.Test.YtiiaealbkimlfaaCmdItemPlain
import Derived.Test.YtiiaealbkimlfaaCmdCheck
import Derived.Test.YtiiaealbkimlfaaCodRefMake
import Derived.Test.YtiiaealbkimlfaaCodList
import Derived.Deep.RegionHeld3
namespace Go.Proofs.Ytiiaealbkimlfaa
open Go.RowKit Mem Cmd Cod


theorem text_any (s : ByteArray) (w : World) : Calls Try.prog 32 #[.string s] w (Hands (.agg #[.int .i64 1, .int .u64 0, .string s, .slice none 0 0]) w) := by
  go_enter Try.func32, Try.ntmps32
  go_wp2_with fail
  exact bodyPost_ret (v := .agg #[.int .i64 1, .int .u64 0, .string s, .slice none 0 0]) (by simp [results, Try.results32, go_sem]) rfl ⟨rfl, bel_alloc (Below.refl _ _) _⟩
theorem reftext_any (s : ByteArray) (w : World) : Calls Try.prog 35 #[.string s] w (Hands (.agg #[.int .i64 1, .int .u64 0, .string s, .slice none 0 0]) w) := by
  go_enter Try.func35, Try.ntmps35
  go_wp2_with fail
  exact bodyPost_ret (v := .agg #[.int .i64 1, .int .u64 0, .string s, .slice none 0 0]) (by simp [results, Try.results35, go_sem]) rfl ⟨rfl, bel_alloc (Below.refl _ _) _⟩
theorem number_any (v : Int) (h0 : 0 ≤ v) (h1 : v ≤ 9223372036854775807) (w : World) : Calls Try.prog 31 #[.int .i64 v] w (Hands (.agg #[.int .i64 0, .int .u64 v, .string ByteArray.empty, .slice none 0 0]) w) := by
  have hu : IntKind.u64.wrap v = v := u64_in h0 (by omega)
  have HBX := Lib.hid (Blk.new w 33 #[.int .i64 0, .int .u64 0, .string ⟨#[]⟩, .slice none 0 0])
  have HB0 := Lib.hid (bel_alloc (Below.refl w.heap.size w) (.cells #[.int .i64 0, .int .u64 0, .string ⟨#[]⟩, .slice none 0 0] 33))
  have HN := Lib.hid (fun w => num_any v w)
  go_enter Try.func31, Try.ntmps31
  go_wp2_with (go_at_call 42; refine (HN.out _).mono ?_; rintro e w2 ⟨rfl, hb2⟩; have hblk := HBX.out.bel hb2; obtain ⟨c0, c1, c2, c3⟩ := blk4 hblk; have z0 := hblk.soft 0; have z1 := hblk.soft 1; have z2 := hblk.soft 2; have z3 := hblk.soft 3; have HB2 := Lib.hid (bel_trans HB0.out hb2); clear hb2)
  have hs2 := HB2.out.size
  obtain ⟨hblk2, hgr⟩ := blk4_set hblk (.int .i64 0) (.int .u64 v) (.string ByteArray.empty) (.slice none 0 0)
  generalize (((w2.setCell ⟨w.heap.size, 0, none⟩ (.int .i64 0)).setCell ⟨w.heap.size, 1, none⟩ (.int .u64 v)).setCell ⟨w.heap.size, 2, none⟩ (.string ByteArray.empty)).setCell ⟨w.heap.size, 3, none⟩ (.slice none 0 0) = w9 at hblk2 hgr ⊢
  obtain ⟨d0, d1, d2, d3⟩ := blk4 hblk2
  exact bodyPost_ret (v := .agg #[.int .i64 0, .int .u64 v, .string ByteArray.empty, .slice none 0 0]) (by simp [results, Try.results31, go_sem, d0, d1, d2, d3]) rfl ⟨rfl, HB2.out.trans (gr_below hgr (by omega) fun b hb => by cases hb; omega)⟩

theorem held6 {w w' : World} {g : Nat} {t : TypeId} {a b c d e f : Value} (h1 : Blk w g t #[a, b, c, d, e, f]) (hb : Below w.heap.size w w') :
    w'.cell? ⟨g, 0, none⟩ = some a ∧ w'.cell? ⟨g, 1, none⟩ = some b ∧ w'.cell? ⟨g, 2, none⟩ = some c ∧ w'.cell? ⟨g, 3, none⟩ = some d ∧ w'.cell? ⟨g, 4, none⟩ = some e ∧ w'.cell? ⟨g, 5, none⟩ = some f := blk6 (h1.bel hb)
theorem held6a {w w' : World} {g : Nat} {t : TypeId} {a b c d e f : Value} (h1 : Blk w g t #[a, b, c, d, e, f]) (hb : Below w.heap.size w w') (o : Obj) :
    (w'.alloc o).cell? ⟨g, 0, none⟩ = some a ∧ (w'.alloc o).cell? ⟨g, 1, none⟩ = some b ∧ (w'.alloc o).cell? ⟨g, 2, none⟩ = some c ∧ (w'.alloc o).cell? ⟨g, 3, none⟩ = some d ∧ (w'.alloc o).cell? ⟨g, 4, none⟩ = some e ∧ (w'.alloc o).cell? ⟨g, 5, none⟩ = some f := blk6 ((h1.bel hb).alloc o)

/-- A command's parts, as they lie. -/
def hung6 (kd cl sq : Int) (ky vl : ByteArray) (rv : Int) : List Hung := [⟨numIt kd, none, 0⟩, ⟨numIt cl, none, 0⟩, ⟨numIt sq, none, 0⟩, ⟨textIt ky, none, 0⟩, ⟨textIt vl, none, 0⟩, ⟨numIt rv, none, 0⟩]
theorem hung6_row {kd cl sq : Int} {ky vl : ByteArray} {rv : Int} (h : Cmd.chk ⟨kd, cl, sq, ky, vl, rv⟩ = 0) (w : World) (t : TypeId) :
    Cod.Row (w.alloc (.cells #[.int .i64 0, .int .u64 kd, .string ByteArray.empty, .slice none 0 0, .int .i64 0, .int .u64 cl, .string ByteArray.empty, .slice none 0 0, .int .i64 0, .int .u64 sq, .string ByteArray.empty, .slice none 0 0, .int .i64 1, .int .u64 0, .string ky, .slice none 0 0, .int .i64 1, .int .u64 0, .string vl, .slice none 0 0, .int .i64 0, .int .u64 rv, .string ByteArray.empty, .slice none 0 0] t)) (fun b => b = w.heap.size) (some ⟨w.heap.size, 0, none⟩) 6 6 (parts ⟨kd, cl, sq, ky, vl, rv⟩) := by
  obtain ⟨h1, h2, h3, h4, h5, h6⟩ := chk_right h
  simp only at h1 h2 h3 h4 h5 h6
  refine row_new w (fun b => b = w.heap.size) rfl (hung6 kd cl sq ky vl rv) 6 rfl (by decide) _ t ?_ ?_
  · have e0 : ((kd.toNat : Nat) : Int) = kd := Int.toNat_of_nonneg h1.1
    have e1 : ((cl.toNat : Nat) : Int) = cl := Int.toNat_of_nonneg h2.1
    have e2 : ((sq.toNat : Nat) : Int) = sq := Int.toNat_of_nonneg h3.1
    have e5 : ((rv.toNat : Nat) : Int) = rv := Int.toNat_of_nonneg h4.1
    show _ = [Value.int .i64 0, .int .u64 ((kd.toNat : Nat) : Int), .string ByteArray.empty, .slice none 0 0, .int .i64 0, .int .u64 ((cl.toNat : Nat) : Int), .string ByteArray.empty, .slice none 0 0, .int .i64 0, .int .u64 ((sq.toNat : Nat) : Int), .string ByteArray.empty, .slice none 0 0, .int .i64 1, .int .u64 ((0 : Nat) : Int), .string ky, .slice none 0 0, .int .i64 1, .int .u64 ((0 : Nat) : Int), .string vl, .slice none 0 0, .int .i64 0, .int .u64 ((rv.toNat : Nat) : Int), .string ByteArray.empty, .slice none 0 0]
    rw [e0, e1, e2, e5]
    rfl
  · intro x hx
    simp only [hung6, List.mem_cons, List.not_mem_nil, or_false] at hx
    rcases hx with rfl | rfl | rfl | rfl | rfl | rfl
    all_goals exact lies_leaf _ _ (by decide) (by first | omega | decide) (by first | decide | omega)

theorem two_kinds (w : World) (t u : TypeId) (a b : Array Value) (W : World) (hW : (w.alloc (.cells a t)).alloc (.cells b u) = W) : Blk W w.heap.size t a ∧ Blk W (w.heap.size + 1) u b ∧ Below w.heap.size w W ∧ W.heap.size = w.heap.size + 2 := by
  subst hW
  have h := Blk.new (w.alloc (.cells a t)) u b
  rw [size_alloc] at h
  exact ⟨(Blk.new w t a).alloc _, h, ((Below.refl w.heap.size w).alloc (Nat.le_refl _) _).alloc (by rw [size_alloc]; omega) _, by rw [size_alloc, size_alloc]⟩

set_option maxRecDepth 100000 in
set_option maxHeartbeats 4000000 in
theorem cmitem_any (kd cl sq : Int) (ky vl : ByteArray) (rv : Int) (w : World) :
    Calls Try.prog 16 #[.agg #[.int .i64 kd, .int .i64 cl, .int .i64 sq, .string ky, .string vl, .int .i64 rv]] w (GivesIt w (itemOf ⟨kd, cl, sq, ky, vl, rv⟩)) := by
  obtain ⟨W, hW⟩ : ∃ W, (w.alloc (.cells #[.int .i64 kd, .int .i64 cl, .int .i64 sq, .string ky, .string vl, .int .i64 rv] 23)).alloc (.cells #[.int .i64 0, .int .u64 0, .string ⟨#[]⟩, .slice none 0 0] 33) = W := ⟨_, rfl⟩
  obtain ⟨k1, k2, kb, hsW⟩ := two_kinds w _ _ _ _ W hW
  have HK1 := Lib.hid k1
  have HBX := Lib.hid k2
  have HB0 := Lib.hid kb
  have HW := Lib.hid hW
  obtain ⟨p0, p1, p2, p3, p4, p5⟩ := blk6 k1
  obtain ⟨y0, y1, y2, y3⟩ := blk4 k2
  have hck := check_any kd cl sq ky vl rv W
  clear k1 k2 kb hW
  go_enter Try.func16, Try.ntmps16
  go_wp2_with fail
  rw [HW.out]
  by_cases hc : Cmd.chk ⟨kd, cl, sq, ky, vl, rv⟩ = 0
  case neg =>
    have hit : itemOf ⟨kd, cl, sq, ky, vl, rv⟩ = zeroIt := by rw [itemOf, if_neg hc]
    have HIT := Lib.hid hit
    generalize Cmd.chk ⟨kd, cl, sq, ky, vl, rv⟩ = v at hck hc
    have hne : (v != 0) = true := by simpa using hc
    have HCK := Lib.hid hck
    clear hck hit hc p0 p1 p2 p3 p4 p5 y0 y1 y2 y3
    refine HCK.out.mono ?_
    rintro e w2 ⟨rfl, hb2⟩
    have hblk := HBX.out.bel hb2
    have HB2 := Lib.hid (bel_trans HB0.out hb2)
    obtain ⟨c0, c1, c2, c3⟩ := blk4 hblk
    have z0 := hblk.soft 0
    have z1 := hblk.soft 1
    have z2 := hblk.soft 2
    have z3 := hblk.soft 3
    have hs2 := hb2.size
    clear hb2
    go_wp2_with fail
    obtain ⟨hblk2, hgr⟩ := blk4_set hblk (.int .i64 0) (.int .u64 0) (.string ⟨#[]⟩) (.slice none 0 0)
    generalize (((w2.setCell ⟨w.heap.size + 1, 0, none⟩ (.int .i64 0)).setCell ⟨w.heap.size + 1, 1, none⟩ (.int .u64 0)).setCell ⟨w.heap.size + 1, 2, none⟩ (.string ⟨#[]⟩)).setCell ⟨w.heap.size + 1, 3, none⟩ (.slice none 0 0) = w9 at hblk2 hgr ⊢
    obtain ⟨d0, d1, d2, d3⟩ := blk4 hblk2
    refine bodyPost_ret (v := .agg #[.int .i64 0, .int .u64 0, .string ByteArray.empty, .slice none 0 0]) (by simp [results, Try.results16, go_sem, d0, d1, d2, d3]; rfl) rfl ?_
    rw [HIT.out]
    exact ⟨none, 0, rfl, lies_leaf _ _ (by omega) (by omega) (by decide), HB2.out.trans (gr_below hgr (by omega) fun b hb => by cases hb; omega)⟩
  have hit : itemOf ⟨kd, cl, sq, ky, vl, rv⟩ = cmIt ⟨kd, cl, sq, ky, vl, rv⟩ := by rw [itemOf, if_pos hc]
  rw [hc] at hck
  have HIT := Lib.hid hit
  have HCK := Lib.hid hck
  clear hit hck
  have HCH := Lib.hid hc
  obtain ⟨b1, b2, b3, b4, b5, b6⟩ := chk_right hc
  simp only at b1 b2 b3 b4 b5 b6
  have HSZ := Lib.hid (show wts (parts ⟨kd, cl, sq, ky, vl, rv⟩) ≤ 100000 by rw [wts_parts]; simp only; omega)
  have H0 := Lib.hid (number_any kd b1.1 (by omega))
  have H1 := Lib.hid (number_any cl b2.1 (by omega))
  have H2 := Lib.hid (number_any sq b3.1 (by omega))
  have H3 := Lib.hid (fun w => text_any ky w)
  have H4 := Lib.hid (fun w => text_any vl w)
  have H5 := Lib.hid (number_any rv b4.1 (by omega))
  clear hc b1 b2 b3 b4 b5 b6
  refine HCK.out.mono ?_
  rintro e w2 ⟨rfl, hb2⟩
  have HCUR := Lib.hid (Below.drew hb2)
  obtain ⟨p0, p1, p2, p3, p4, p5⟩ := blk6 (HK1.out.bel hb2)
  obtain ⟨y0, y1, y2, y3⟩ := blk4 (HBX.out.bel hb2)
  clear hb2 HCK
  go_wp2_with fail
  go_region_held3 (fun w' => w'.cell? ⟨w.heap.size, 0, none⟩ = some (.int .i64 kd) ∧ w'.cell? ⟨w.heap.size, 1, none⟩ = some (.int .i64 cl) ∧ w'.cell? ⟨w.heap.size, 2, none⟩ = some (.int .i64 sq) ∧ w'.cell? ⟨w.heap.size, 3, none⟩ = some (.string ky) ∧ w'.cell? ⟨w.heap.size, 4, none⟩ = some (.string vl) ∧ w'.cell? ⟨w.heap.size, 5, none⟩ = some (.int .i64 rv)) (first | (with_reducible exact held6a HK1.out HCUR.out _) | (with_reducible exact held6 HK1.out HCUR.out) | (with_reducible exact HLAST.out _ _ _ _))
    (first
    | (go_at_call 31
       refine (H0.out _).mono ?_
       rintro e v1 ⟨rfl, hb1⟩
       have hnow := HCUR.out.trans (hb1.mono HCUR.out.size)
       replace HCUR := Lib.hid hnow
       clear H0 hb1 hnow)
    | (go_at_call 31
       refine (H1.out _).mono ?_
       rintro e v1 ⟨rfl, hb1⟩
       have hnow := HCUR.out.trans (hb1.mono HCUR.out.size)
       replace HCUR := Lib.hid hnow
       clear H1 hb1 hnow)
    | (go_at_call 31
       refine (H2.out _).mono ?_
       rintro e v1 ⟨rfl, hb1⟩
       have hnow := HCUR.out.trans (hb1.mono HCUR.out.size)
       replace HCUR := Lib.hid hnow
       clear H2 hb1 hnow)
    | (go_at_call 32
       refine (H3.out _).mono ?_
       rintro e v1 ⟨rfl, hb1⟩
       have hnow := HCUR.out.trans (hb1.mono HCUR.out.size)
       replace HCUR := Lib.hid hnow
       clear H3 hb1 hnow)
    | (go_at_call 32
       refine (H4.out _).mono ?_
       rintro e v1 ⟨rfl, hb1⟩
       have hnow := HCUR.out.trans (hb1.mono HCUR.out.size)
       replace HCUR := Lib.hid hnow
       clear H4 hb1 hnow)
    | (go_at_call 31
       refine (H5.out _).mono ?_
       rintro e v1 ⟨rfl, hb1⟩
       have hnow := HCUR.out.trans (hb1.mono HCUR.out.size)
       replace HCUR := Lib.hid hnow
       clear H5 hb1 hnow)
    | (go_at_call 30
       refine (list_more _ 6 6 _ (parts ⟨kd, cl, sq, ky, vl, rv⟩) _ (hung6_row HCH.out v1 33) (fun b hb => by have := size_alloc v1 (.cells #[.int .i64 0, .int .u64 kd, .string ByteArray.empty, .slice none 0 0, .int .i64 0, .int .u64 cl, .string ByteArray.empty, .slice none 0 0, .int .i64 0, .int .u64 sq, .string ByteArray.empty, .slice none 0 0, .int .i64 1, .int .u64 0, .string ky, .slice none 0 0, .int .i64 1, .int .u64 0, .string vl, .slice none 0 0, .int .i64 0, .int .u64 rv, .string ByteArray.empty, .slice none 0 0] 33); omega) HSZ.out).mono ?_
       rintro e w5 ⟨V5, c5, rfl, hr5, hb5⟩
       have hs6 := size_alloc v1 (.cells #[.int .i64 0, .int .u64 kd, .string ByteArray.empty, .slice none 0 0, .int .i64 0, .int .u64 cl, .string ByteArray.empty, .slice none 0 0, .int .i64 0, .int .u64 sq, .string ByteArray.empty, .slice none 0 0, .int .i64 1, .int .u64 0, .string ky, .slice none 0 0, .int .i64 1, .int .u64 0, .string vl, .slice none 0 0, .int .i64 0, .int .u64 rv, .string ByteArray.empty, .slice none 0 0] 33)
       have hs5 := hb5.size
       have hsv := HCUR.out.size
       have hnow := (HCUR.out.alloc HCUR.out.size (.cells #[.int .i64 0, .int .u64 kd, .string ByteArray.empty, .slice none 0 0, .int .i64 0, .int .u64 cl, .string ByteArray.empty, .slice none 0 0, .int .i64 0, .int .u64 sq, .string ByteArray.empty, .slice none 0 0, .int .i64 1, .int .u64 0, .string ky, .slice none 0 0, .int .i64 1, .int .u64 0, .string vl, .slice none 0 0, .int .i64 0, .int .u64 rv, .string ByteArray.empty, .slice none 0 0] 33)).trans (hb5.mono (by omega))
       have hblk := HBX.out.bel hnow
       obtain ⟨c0, c1, c2, c3⟩ := blk4 hblk
       have z0 := hblk.soft 0
       have z1 := hblk.soft 1
       have z2 := hblk.soft 2
       have z3 := hblk.soft 3
       have HR5 := Lib.hid hr5
       have HB5 := Lib.hid hnow
       replace HCUR := Lib.hid hnow
       have HKB := Lib.hid hblk
       have hs7 : W.heap.size ≤ v1.heap.size := hsv
       have HVV := Lib.hid (And.intro hs6 (And.intro hs5 hs7))
       obtain ⟨p0, p1, p2, p3, p4, p5⟩ := blk6 (HK1.out.bel hnow)
       have HLAST := Lib.hid (show ∀ (x0 x1 x2 x3 : Value), _ from fun x0 x1 x2 x3 => blk6 (((((HK1.out.bel hnow).far (p := ⟨w.heap.size + 1, 0, none⟩) (by simp) x0).far (p := ⟨w.heap.size + 1, 1, none⟩) (by simp) x1).far (p := ⟨w.heap.size + 1, 2, none⟩) (by simp) x2).far (p := ⟨w.heap.size + 1, 3, none⟩) (by simp) x3))
       clear hr5 hb5 hnow hblk hs6 hs5 hsv hs7))
  go_wp2_with fail
  obtain ⟨hblk2, hgr⟩ := blk4_set HKB.out (.int .i64 2) (.int .u64 0) (.string ByteArray.empty) (.slice V5 6 c5)
  generalize (((w5.setCell ⟨w.heap.size + 1, 0, none⟩ (.int .i64 2)).setCell ⟨w.heap.size + 1, 1, none⟩ (.int .u64 0)).setCell ⟨w.heap.size + 1, 2, none⟩ (.string ByteArray.empty)).setCell ⟨w.heap.size + 1, 3, none⟩ (.slice V5 6 c5) = w9 at hblk2 hgr ⊢
  obtain ⟨d0, d1, d2, d3⟩ := blk4 hblk2
  refine bodyPost_ret (v := .agg #[.int .i64 2, .int .u64 0, .string ByteArray.empty, .slice V5 6 c5]) (by simp [results, Try.results16, go_sem, d0, d1, d2, d3]) rfl ?_
  obtain ⟨e1, e2, e3⟩ := HVV.out
  have hs9 := hgr.size
  have hrow9 : Cod.Row w9 (fun b => b < w9.heap.size) V5 6 c5 (parts ⟨kd, cl, sq, ky, vl, rv⟩) := (HR5.out.grown hgr (fun b hb e => by injection e with e; omega)).more fun b hb _ => by omega
  rw [HIT.out]
  refine ⟨V5, c5, rfl, hrow9.lies (by omega) (by omega) (by decide), ?_⟩
  exact (HB0.out.trans (HB5.out.mono (by omega))).trans (gr_below hgr (by have := HB5.out.size; omega) fun b hb => by injection hb with hb; omega)
end Go.Proofs.Ytiiaealbkimlfaa
