/-
  Texts of earlier layers, as one.
-/
import Derived.Test.YtldlcddmbgcfdaaProg
import Derived.Test.YtldlcddmbgcfdaaWhlOwn
import Derived.Test.YtldlcddmbgcfdaaRBase
import Derived.Deep.RegionHeld3
import Derived.Deep.Cut
import Derived.BigRegion
/- Which of two ids, of two timers is ahead; how many timers there are. -/
namespace Go.Proofs.Ytldlcddmbgcfdaa.Wh
open Go.RowKit Mem Dsk

theorem wr64 {x : Int} (h : -9223372036854775808 ≤ x) (h' : x ≤ 9223372036854775807) : IntKind.i64.wrap x = x := by
  simp [IntKind.wrap, IntKind.bits, IntKind.signed]
  omega
theorem three {w : World} {g o : Nat} {x : Tm} (h : w.rangeAt g o (encT x)) : w.cell? ⟨g, o, none⟩ = some (.int .i64 x.i.1) ∧ w.cell? ⟨g, o + 1, none⟩ = some (.int .i64 x.i.2) ∧ w.cell? ⟨g, o + 2, none⟩ = some (.int .i64 x.a) := ⟨h 0 _ rfl, h 1 _ rfl, h 2 _ rfl⟩
theorem bel_2 (w : World) (o1 o2 : Obj) : Below w.heap.size w ((w.alloc o1).alloc o2) := bel_alloc (bel_alloc (Below.refl _ _) o1) o2
set_option maxHeartbeats 1000000 in
theorem less_any (a b : Int × Int) (w : World) : Calls Try.prog 48 #[.agg #[.int .i64 a.1, .int .i64 a.2], .agg #[.int .i64 b.1, .int .i64 b.2]] w (Tells (ilt a b) w) := by
  obtain ⟨t, ht⟩ : ∃ t, ilt a b = t := ⟨_, rfl⟩
  rw [ht]
  have HT := Lib.hid ht
  clear ht
  obtain ⟨a1, a2⟩ := a
  obtain ⟨b1, b2⟩ := b
  have HG := Lib.hid (bel_2 w)
  go_enter Try.func48, Try.ntmps48
  by_cases h1 : a2 < b2
  · go_wp2
    go_ret
    exact ⟨by rw [← HT.out]; simp [ilt, h1], HG.out _ _⟩
  · by_cases h2 : a2 = b2
    · subst h2
      by_cases h3 : a1 < b1
      · go_wp2
        go_ret
        exact ⟨by rw [← HT.out]; simp [ilt, h3], HG.out _ _⟩
      · go_wp2
        go_ret
        exact ⟨by rw [← HT.out]; simp [ilt, h3], HG.out _ _⟩
    · go_wp2
      go_ret
      exact ⟨by rw [← HT.out]; simp [ilt, h1, h2], HG.out _ _⟩
set_option maxHeartbeats 1000000 in
theorem refless_any (a b : Int × Int) (w : World) : Calls Try.prog 26 #[.agg #[.int .i64 a.1, .int .i64 a.2], .agg #[.int .i64 b.1, .int .i64 b.2]] w (Tells (ilt a b) w) := by
  obtain ⟨t, ht⟩ : ∃ t, ilt a b = t := ⟨_, rfl⟩
  rw [ht]
  have HT := Lib.hid ht
  clear ht
  obtain ⟨a1, a2⟩ := a
  obtain ⟨b1, b2⟩ := b
  have HG := Lib.hid (bel_2 w)
  go_enter Try.func26, Try.ntmps26
  by_cases h1 : a2 < b2
  · go_wp2
    go_ret
    exact ⟨by rw [← HT.out]; simp [ilt, h1], HG.out _ _⟩
  · by_cases h2 : a2 = b2
    · subst h2
      by_cases h3 : a1 < b1
      · go_wp2
        go_ret
        exact ⟨by rw [← HT.out]; simp [ilt, h3], HG.out _ _⟩
      · go_wp2
        go_ret
        exact ⟨by rw [← HT.out]; simp [ilt, h3], HG.out _ _⟩
    · go_wp2
      go_ret
      exact ⟨by rw [← HT.out]; simp [ilt, h1, h2], HG.out _ _⟩
set_option maxRecDepth 20000 in
theorem tlen_any {S : Nat → Prop} {p c b : Nat} {A : Option Addr} {D : DataW Value} {h : List Tm} (w : World) (ho : Own w S p A c b D h) : Calls Try.prog 43 #[ptr p] w (fun e w' => e = .returned (.int .i64 (h.length : Int)) ∧ w' = w) := by
  have c0 := ho.cells.1
  obtain ⟨n, hn⟩ : ∃ n, h.length = n := ⟨_, rfl⟩
  rw [hn] at c0 ⊢
  clear ho hn
  unfold ptr
  go_enter Try.func43, Try.ntmps43
  go_wp2_with fail
  go_ret
  exact ⟨rfl, rfl⟩
set_option maxRecDepth 20000 in
theorem len_any {S : Nat → Prop} {p : Nat} {x : List Tm} (w : World) (hw : WI w S p x) : Calls Try.prog 17 #[ptr p] w (fun e w' => e = .returned (.int .i64 (x.length : Int)) ∧ w' = w) := by
  obtain ⟨A, c, b, D, h, ho, _, hp, _⟩ := hw
  rw [← hp.length_eq]
  have c0 := ho.cells.1
  obtain ⟨n, hn⟩ : ∃ n, h.length = n := ⟨_, rfl⟩
  rw [hn] at c0 ⊢
  clear ho hn hp
  unfold ptr
  go_enter Try.func17, Try.ntmps17
  go_wp2_with fail
  go_ret
  exact ⟨rfl, rfl⟩
set_option maxRecDepth 20000 in
set_option maxHeartbeats 8000000 in
theorem tless_any {S : Nat → Prop} {p c b i j : Nat} {A : Option Addr} {D : DataW Value} {h : List Tm} (w : World) (ho : Own w S p A c b D h) (hi : i < h.length) (hj : j < h.length) (hl : h.length ≤ 1000000) :
    Calls Try.prog 44 #[ptr p, .int .i64 (i : Int), .int .i64 (j : Int)] w (Tells (tlt (G h i) (G h j)) w) := by
  obtain ⟨g, rfl, _, _, _, hlc, hh⟩ := ho.hdr (by omega)
  have hp := ho.lt p ho.sp
  have hg := hh.lt
  have c0 := ho.cells.1
  have r1 := hh.at_ (at_G hi)
  have r2 := hh.at_ (at_G hj)
  obtain ⟨x, hx⟩ : ∃ x, G h i = x := ⟨_, rfl⟩
  obtain ⟨y, hy⟩ : ∃ y, G h j = y := ⟨_, rfl⟩
  rw [hx] at r1 ⊢
  rw [hy] at r2 ⊢
  obtain ⟨n, hn⟩ : ∃ n, h.length = n := ⟨_, rfl⟩
  rw [hn] at c0 hi hj hl hlc
  obtain ⟨⟨x1, x2⟩, xa⟩ := x
  obtain ⟨⟨y1, y2⟩, ya⟩ := y
  obtain ⟨p1, p2, p3⟩ := three r1
  obtain ⟨q1, q2, q3⟩ := three r2
  simp only [LT] at p1 p2 p3 q1 q2 q3
  have hne1 : w.heap.size ≠ p := by omega
  have hne2 : w.heap.size ≠ g := by omega
  have hne3 : w.heap.size + 1 ≠ p := by omega
  have hne4 : w.heap.size + 1 ≠ g := by omega
  have HL := Lib.hid (fun W => less_any (x1, x2) (y1, y2) W)
  obtain ⟨t, ht⟩ : ∃ t, ilt (x1, x2) (y1, y2) = t := ⟨_, rfl⟩
  have hm : tlt ⟨(x1, x2), xa⟩ ⟨(y1, y2), ya⟩ = (decide (xa < ya) || (decide (xa = ya) && t)) := by rw [← ht]; rfl
  rw [hm]
  simp only [ht] at HL
  clear ho hh r1 r2 hx hy hn hm ht hp hg
  unfold ptr
  go_enter Try.func44, Try.ntmps44
  go_upto_region 1 with fail
  go_region_held3 (fun w' => w'.cell? ⟨p, 0, none⟩ = some (.slice (some ⟨g, 0, none⟩) n c) ∧ w'.cell? ⟨g, i * 3, none⟩ = some (.int .i64 x1) ∧ w'.cell? ⟨g, i * 3 + 1, none⟩ = some (.int .i64 x2) ∧ w'.cell? ⟨g, i * 3 + 2, none⟩ = some (.int .i64 xa) ∧ w'.cell? ⟨g, j * 3, none⟩ = some (.int .i64 y1) ∧ w'.cell? ⟨g, j * 3 + 1, none⟩ = some (.int .i64 y2) ∧ w'.cell? ⟨g, j * 3 + 2, none⟩ = some (.int .i64 ya)) (go_keep) (fail)
  all_goals (
    by_cases h1 : xa < ya
    · go_wp2_with fail
      go_ret
      exact ⟨by simp [h1], (by repeat (first | with_reducible exact Below.refl _ _ | refine Below.setCell ?_ (by simp) _ | refine bel_alloc ?_ _ | refine Below.drew ?_))⟩
    · by_cases h2 : xa = ya
      · subst h2
        go_wp2_with (go_at_call 48; (with_reducible refine (HL.out _).mono ?_); rintro e w3 ⟨rfl, hb3⟩)
        go_ret
        exact ⟨by simp, bel_trans (by repeat (first | with_reducible exact Below.refl _ _ | refine Below.setCell ?_ (by simp) _ | refine bel_alloc ?_ _ | refine Below.drew ?_)) hb3⟩
      · go_wp2_with fail
        go_ret
        exact ⟨by simp [h1], (by repeat (first | with_reducible exact Below.refl _ _ | refine Below.setCell ?_ (by simp) _ | refine bel_alloc ?_ _ | refine Below.drew ?_))⟩)
end Go.Proofs.Ytldlcddmbgcfdaa.Wh
