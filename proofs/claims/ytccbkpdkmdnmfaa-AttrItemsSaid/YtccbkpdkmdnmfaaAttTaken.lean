/-
  attr.taken of any tag and any two items.
-/
import Derived.Test.YtccbkpdkmdnmfaaAttHeld
import Derived.Test.YtccbkpdkmdnmfaaAttJoin2
import Derived.Test.YtccbkpdkmdnmfaaIdsTake
namespace Go.Proofs.Ytccbkpdkmdnmfaa
open Go.RowKit Mem Ids Att Cod

/-- The ending: what is taken, in memory of the call's own, and true; or nothing, and false; what was there stays. -/
def TakesAt (w : World) (r : Option At) (e : Ending) (w' : World) : Prop :=
  ∃ V n c, e = .returned (.tuple #[.agg #[.slice V n c, .int .i64 (r.getD zeroAt).sq, .int .i64 (r.getD zeroAt).tg], .bool r.isSome]) ∧ Rs w' V n c (r.getD zeroAt).dp ∧ Below w.heap.size w w' ∧ ∀ g o, V = some ⟨g, o, none⟩ → w.heap.size ≤ g
/-- Ids in newer blocks stay when a box is written over. -/
theorem Rs.set3n {w : World} {base r n c : Nat} {V : Option Addr} {l : List (Int × Int)} (h : Rs w V n c l) (hn : ∀ g o, V = some ⟨g, o, none⟩ → base ≤ g) (hr : r < base) (u v x : Value) :
    Rs (((w.setCell ⟨r, 0, none⟩ u).setCell ⟨r, 1, none⟩ v).setCell ⟨r, 2, none⟩ x) V n c l := by
  refine ⟨h.len, h.le, h.cap, h.nil, fun h0 => ?_⟩
  obtain ⟨g, o, e, hb, hc⟩ := h.spot h0
  have hg := hn g o e
  have hk : ∀ p : Addr, p.block = g → (((w.setCell ⟨r, 0, none⟩ u).setCell ⟨r, 1, none⟩ v).setCell ⟨r, 2, none⟩ x).cell? p = w.cell? p := fun p hp => by
    have hne : p.block ≠ r := by omega
    exact World.cell?_of_block (((Below.heap_setCell _ ⟨r, 2, none⟩ x _ hne).trans (Below.heap_setCell _ ⟨r, 1, none⟩ v _ hne)).trans (Below.heap_setCell _ ⟨r, 0, none⟩ u _ hne))
  exact ⟨g, o, e, by simpa [World.setCell] using hb, fun j y hy => ⟨(hk ⟨g, o + j * 2, none⟩ rfl).trans (hc j y hy).1, (hk ⟨g, o + j * 2 + 1, none⟩ rfl).trans (hc j y hy).2⟩⟩
theorem three_kinds (w : World) (t u v : TypeId) (a b c : Array Value) (W : World) (hW : ((w.alloc (.cells a t)).alloc (.cells b u)).alloc (.cells c v) = W) : Blk W w.heap.size t a ∧ Blk W (w.heap.size + 1) u b ∧ Blk W (w.heap.size + 2) v c ∧ Below w.heap.size w W ∧ W.heap.size = w.heap.size + 3 := by
  obtain ⟨h1, h2, h3, h4⟩ := two_kinds w t u a b _ rfl
  subst hW
  have h := Blk.new ((w.alloc (.cells a t)).alloc (.cells b u)) v c
  rw [h4] at h
  exact ⟨h1.alloc _, h2.alloc _, h, bel_alloc h3 _, by rw [size_alloc, h4]⟩

set_option maxRecDepth 100000 in
set_option maxHeartbeats 4000000 in
theorem taken_any (tag : Int) (x y : It) (A1 A2 : Option Addr) (c1 c2 : Nat) (S : Nat → Prop) (w : World) (hy : Lies w S y A2 c2) (hS : ∀ b, S b → b < w.heap.size) :
    Calls Try.prog 38 #[.int .i64 tag, .agg #[.int .i64 x.kind, .int .u64 (x.num : Int), .string x.str, .slice A1 x.kids.length c1], .agg #[.int .i64 y.kind, .int .u64 (y.num : Int), .string y.str, .slice A2 y.kids.length c2]] w (TakesAt w (takenOf tag x y)) := by
  obtain ⟨W, hW⟩ : ∃ W, ((w.alloc (.cells #[.int .i64 x.kind, .int .u64 (x.num : Int), .string x.str, .slice A1 x.kids.length c1] 37)).alloc (.cells #[.int .i64 y.kind, .int .u64 (y.num : Int), .string y.str, .slice A2 y.kids.length c2] 37)).alloc (.cells #[.slice none 0 0, .int .i64 0, .int .i64 0] 24) = W := ⟨_, rfl⟩
  obtain ⟨k1, k2, k3, kb, hsW⟩ := three_kinds w _ _ _ _ _ _ W hW
  have h1 := fun w => number_any x A1 c1 w
  have h2 := fun w (hy : Lies w S y A2 c2) (hS : ∀ b, S b → b < w.heap.size) => take_new y A2 c2 S w hy hS
  have hno : ∀ r b, isNum x = r → (takeOf y).isSome = b → (r && b) = false → takenOf tag x y = none := by
    rintro r b rfl rfl h
    unfold takenOf
    rw [if_neg]
    rintro ⟨h1, h2, _⟩
    rw [h1, h2] at h
    cases h
  have hyes : isNum x = true → (takeOf y).isSome = true → takenOf tag x y = if achk ⟨(takeOf y).getD [], numOf x, tag⟩ = 0 then some ⟨(takeOf y).getD [], numOf x, tag⟩ else none := by
    intro h1 h2
    unfold takenOf numOf
    rw [if_pos h1]
    by_cases h3 : achk ⟨(takeOf y).getD [], w64 x.num, tag⟩ = 0
    · rw [if_pos h3, if_pos ⟨h1, h2, h3⟩]
    · rw [if_neg h3, if_neg fun h => h3 h.2.2]
  generalize takeOf y = T at h2 hno hyes
  generalize takenOf tag x y = R at hno hyes ⊢
  generalize numOf x = v at h1 hyes
  generalize isNum x = r at h1 hno hyes
  have H1 := Lib.hid h1
  have H2 := Lib.hid h2
  have HNO := Lib.hid hno
  have HYE := Lib.hid hyes
  have HK1 := Lib.hid k1
  have HK2 := Lib.hid k2
  have HK3 := Lib.hid k3
  have HBW := Lib.hid kb
  have HLY := Lib.hid (hy.below kb hS)
  have HSS := Lib.hid hS
  obtain ⟨p0, p1, p2, p3⟩ := blk4 k1
  have HW := Lib.hid hW
  clear h1 h2 hno hyes k1 k2 k3 kb hy hS hW
  go_enter Try.func38, Try.ntmps38
  go_upto_region 1 with fail
  rw [HW.out]
  clear HW
  go_wp2_with fail
  refine (H1.out _).mono ?_
  rintro e w1 ⟨rfl, hb1⟩
  have hs1 := hb1.size
  replace HK2 := Lib.hid (HK2.out.bel hb1)
  replace HK3 := Lib.hid (HK3.out.bel hb1)
  replace HBW := Lib.hid (bel_trans HBW.out hb1)
  replace HLY := Lib.hid (HLY.out.below hb1 fun b hb => by have := HSS.out b hb; omega)
  obtain ⟨q0, q1, q2, q3⟩ := blk4 HK2.out
  clear hb1 H1 HK1 p0 p1 p2 p3
  go_wp2_with fail
  refine (H2.out _ HLY.out fun b hb => by have := HSS.out b hb; omega).mono ?_
  rintro e w2 ⟨V, n, c, l, b, rfl, hrs, hl, hb, hb2, hnew⟩
  have hs2 := hb2.size
  have hs3 : W.heap.size ≤ w2.heap.size := by omega
  replace HK3 := Lib.hid ((HK3.out.bel hb2).alloc (.cells #[.slice V n c, .int .i64 v, .int .i64 tag] 24))
  replace HBW := Lib.hid (bel_alloc (bel_trans HBW.out hb2) (.cells #[.slice V n c, .int .i64 v, .int .i64 tag] 24))
  have HKA := Lib.hid (Blk.new w2 24 #[.slice V n c, .int .i64 v, .int .i64 tag])
  have HRS := Lib.hid (hrs.alloc (.cells #[.slice V n c, .int .i64 v, .int .i64 tag] 24))
  have HNEW := Lib.hid (show ∀ g o, V = some ⟨g, o, none⟩ → W.heap.size ≤ g from fun g o e => by have := hnew g o e; omega)
  have HLB := Lib.hid (And.intro hl hb)
  clear hrs hl hb hb2 hnew H2 HLY HK2 q0 q1 q2 q3
  cases r with
  | false =>
    have hR := HNO.out false T.isSome rfl rfl rfl
    have HR := Lib.hid hR
    clear hR HNO HYE
    obtain ⟨z0, z1, z2⟩ := blk3 HK3.out
    have f0 := HK3.out.soft 0
    have f1 := HK3.out.soft 1
    have f2 := HK3.out.soft 2
    go_wp2_with fail
    obtain ⟨hk9, hb9⟩ := blk3_set HK3.out HBW.out (by omega) (.slice none 0 0) (.int .i64 0) (.int .i64 0)
    generalize ((((w2.alloc (.cells #[.slice V n c, .int .i64 v, .int .i64 tag] 24)).setCell ⟨w.heap.size + 2, 0, none⟩ (.slice none 0 0)).setCell ⟨w.heap.size + 2, 1, none⟩ (.int .i64 0)).setCell ⟨w.heap.size + 2, 2, none⟩ (.int .i64 0)) = w9 at hk9 hb9 ⊢
    obtain ⟨d0, d1, d2⟩ := blk3 hk9
    refine bodyPost_ret (v := .tuple #[.agg #[.slice none 0 0, .int .i64 0, .int .i64 0], .bool false]) (by simp [results, Try.results38, go_sem, d0, d1, d2]) rfl ?_
    rw [HR.out]
    exact ⟨none, 0, 0, rfl, Rs.nil_ _, hb9, fun _ _ h => by cases h⟩
  | true =>
    cases b with
    | false =>
      have hR := HNO.out true T.isSome rfl rfl HLB.out.2.symm
      have HR := Lib.hid hR
      clear hR HNO HYE
      obtain ⟨z0, z1, z2⟩ := blk3 HK3.out
      have f0 := HK3.out.soft 0
      have f1 := HK3.out.soft 1
      have f2 := HK3.out.soft 2
      go_wp2_with fail
      obtain ⟨hk9, hb9⟩ := blk3_set HK3.out HBW.out (by omega) (.slice none 0 0) (.int .i64 0) (.int .i64 0)
      generalize ((((w2.alloc (.cells #[.slice V n c, .int .i64 v, .int .i64 tag] 24)).setCell ⟨w.heap.size + 2, 0, none⟩ (.slice none 0 0)).setCell ⟨w.heap.size + 2, 1, none⟩ (.int .i64 0)).setCell ⟨w.heap.size + 2, 2, none⟩ (.int .i64 0)) = w9 at hk9 hb9 ⊢
      obtain ⟨d0, d1, d2⟩ := blk3 hk9
      refine bodyPost_ret (v := .tuple #[.agg #[.slice none 0 0, .int .i64 0, .int .i64 0], .bool false]) (by simp [results, Try.results38, go_sem, d0, d1, d2]) rfl ?_
      rw [HR.out]
      exact ⟨none, 0, 0, rfl, Rs.nil_ _, hb9, fun _ _ h => by cases h⟩
    | true =>
      have hR := HYE.out rfl HLB.out.2.symm
      rw [← HLB.out.1] at hR
      have hck := acheck_any l v tag V n c _ HRS.out
      obtain ⟨ca, hca⟩ : ∃ z, achk ⟨l, v, tag⟩ = z := ⟨_, rfl⟩
      rw [hca] at hck hR
      have HR := Lib.hid hR
      have HCK := Lib.hid hck
      clear hR hck hca HNO HYE HLB
      obtain ⟨a0, a1, a2⟩ := blk3 HKA.out
      go_wp2_with fail
      refine HCK.out.mono ?_
      rintro e w3 ⟨rfl, hb3⟩
      replace HK3 := Lib.hid (HK3.out.bel hb3)
      replace HKA := Lib.hid (HKA.out.bel hb3)
      replace HBW := Lib.hid (bel_trans HBW.out hb3)
      replace HRS := Lib.hid (HRS.out.below hb3)
      clear hb3 HCK a0 a1 a2
      obtain ⟨a0, a1, a2⟩ := blk3 HKA.out
      by_cases h0 : ca = 0
      · subst h0
        have hR := HR.out
        rw [if_pos rfl] at hR
        replace HR := Lib.hid hR
        clear hR
        obtain ⟨z0, z1, z2⟩ := blk3 HK3.out
        have f0 := HK3.out.soft 0
        have f1 := HK3.out.soft 1
        have f2 := HK3.out.soft 2
        go_wp2_with fail
        have hrs := Rs.set3n (r := w.heap.size + 2) HRS.out HNEW.out (by omega) (.slice V n c) (.int .i64 v) (.int .i64 tag)
        obtain ⟨hk9, hb9⟩ := blk3_set HK3.out HBW.out (by omega) (.slice V n c) (.int .i64 v) (.int .i64 tag)
        generalize (((w3.setCell ⟨w.heap.size + 2, 0, none⟩ (.slice V n c)).setCell ⟨w.heap.size + 2, 1, none⟩ (.int .i64 v)).setCell ⟨w.heap.size + 2, 2, none⟩ (.int .i64 tag)) = w9 at hk9 hb9 hrs ⊢
        obtain ⟨d0, d1, d2⟩ := blk3 hk9
        refine bodyPost_ret (v := .tuple #[.agg #[.slice V n c, .int .i64 v, .int .i64 tag], .bool true]) (by simp [results, Try.results38, go_sem, d0, d1, d2]) rfl ?_
        rw [HR.out]
        exact ⟨V, n, c, rfl, hrs, hb9, fun g o e => by have := HNEW.out g o e; omega⟩
      · have hR := HR.out
        rw [if_neg h0] at hR
        replace HR := Lib.hid hR
        have b1 : (ca != 0) = true := bne_iff_ne.2 h0
        clear hR h0
        obtain ⟨z0, z1, z2⟩ := blk3 HK3.out
        have f0 := HK3.out.soft 0
        have f1 := HK3.out.soft 1
        have f2 := HK3.out.soft 2
        go_wp2_with fail
        obtain ⟨hk9, hb9⟩ := blk3_set HK3.out HBW.out (by omega) (.slice none 0 0) (.int .i64 0) (.int .i64 0)
        generalize (((w3.setCell ⟨w.heap.size + 2, 0, none⟩ (.slice none 0 0)).setCell ⟨w.heap.size + 2, 1, none⟩ (.int .i64 0)).setCell ⟨w.heap.size + 2, 2, none⟩ (.int .i64 0)) = w9 at hk9 hb9 ⊢
        obtain ⟨d0, d1, d2⟩ := blk3 hk9
        refine bodyPost_ret (v := .tuple #[.agg #[.slice none 0 0, .int .i64 0, .int .i64 0], .bool false]) (by simp [results, Try.results38, go_sem, d0, d1, d2]) rfl ?_
        rw [HR.out]
        exact ⟨none, 0, 0, rfl, Rs.nil_ _, hb9, fun _ _ h => by cases h⟩
end Go.Proofs.Ytccbkpdkmdnmfaa
