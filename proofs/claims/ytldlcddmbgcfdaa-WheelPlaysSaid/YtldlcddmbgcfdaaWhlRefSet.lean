/-
  Texts of earlier layers, as one.
-/
import Derived.Test.YtldlcddmbgcfdaaWhlRef
/- The document's Set. -/
namespace Go.Proofs.Ytldlcddmbgcfdaa.Wh
open Go.RowKit Mem Dsk Go.Maps

theorem ins_none {t : Tm} : ∀ {l : List Tm}, (∀ y ∈ l, tlt t y = false) → insR t l = l ++ [t]
  | [], _ => rfl
  | r :: l, h => by
    unfold insR
    rw [if_neg (by rw [h r (List.mem_cons_self ..)]; decide), ins_none fun y hy => h y (List.mem_cons_of_mem _ hy)]
    rfl
theorem ins_some {t r : Tm} : ∀ {l : List Tm}, (∃ y ∈ l, tlt t y = true) → insR t (l ++ [r]) = insR t l ++ [r]
  | [], h => by
    obtain ⟨y, hy, _⟩ := h
    cases hy
  | x :: l, h => by
    rw [List.cons_append]
    unfold insR
    by_cases e : tlt t x = true
    · rw [if_pos e, if_pos e]
      rfl
    · rw [if_neg e, if_neg e, ins_some (by
        obtain ⟨y, hy, hy2⟩ := h
        rcases List.mem_cons.1 hy with rfl | hy
        · exact absurd hy2 e
        · exact ⟨y, hy, hy2⟩)]
      rfl
theorem ins_now {t r : Tm} (hr : tlt t r = true) : ∀ {l : List Tm}, (∀ y ∈ l, tlt t y = false) → insR t (l ++ [r]) = l ++ [t, r]
  | [], _ => by
    rw [List.nil_append]
    unfold insR
    rw [if_pos hr]
    rfl
  | x :: l, h => by
    rw [List.cons_append]
    unfold insR
    rw [if_neg (by rw [h x (List.mem_cons_self ..)]; decide), ins_now hr fun y hy => h y (List.mem_cons_of_mem _ hy)]
    rfl
/-- What is out behind so many of the others: with the new one, or without it yet. -/
def InsOut (t : Tm) (l : List Tm) (dn : Bool) (out : List Tm) : Prop := (dn = true ∧ (∃ y ∈ l, tlt t y = true) ∧ out = insR t l) ∨ (dn = false ∧ (∀ y ∈ l, tlt t y = false) ∧ out = l)
theorem InsOut.len {t : Tm} {l : List Tm} {dn : Bool} {out : List Tm} (h : InsOut t l dn out) : out.length ≤ l.length + 1 := by
  rcases h with ⟨_, _, rfl⟩ | ⟨_, _, rfl⟩
  · rw [(ins_perm t l).length_eq]
    simp
  · omega
def StRel (w : World) (B : Nat) (t : Tm) (l : List Tm) (v5 v6 v8 : Value) (wr : World) : Prop := ∃ (k : Nat) (V : Option Addr) (c' m : Nat) (dn : Bool) (out : List Tm), v5 = .slice V m c' ∧ v6 = .bool dn ∧ v8 = .int .i64 (k : Int) ∧ k ≤ l.length ∧ out.length = m ∧ InsOut t (l.take k) dn out ∧
  wr.ownsRow B 35 LT.s (.slice V m c') m (LT.flat out) ∧ Below w.heap.size w wr
/-- One more timer behind a row of the call's own. -/
theorem row_more {w U : World} {B m c' : Nat} {V : Option Addr} {out : List Tm} (x : Tm) (hrow : w.ownsRow B 35 LT.s (.slice V m c') m (LT.flat out)) (hb : Below w.heap.size w U) (hB : B ≤ w.heap.size) (hm : m ≤ 1000000) :
    ∃ V1 c1 u3, (Builtin.append_ #[26, 26] 26 #[.slice V m c', .slice (some ⟨U.heap.size, 0, none⟩) 1 1]).run Try.prog (U.alloc (.cells #[.int .i64 x.i.1, .int .i64 x.i.2, .int .i64 x.a] 35)) = .ok (.slice V1 (m + 1) c1) u3 ∧
      u3.ownsRow B 35 LT.s (.slice V1 (m + 1) c1) (m + 1) (LT.flat (out ++ [x])) ∧ Below B w u3 := by
  obtain ⟨⟨x1, x2⟩, xa⟩ := x
  have hbl : Below w.heap.size w (U.alloc (.cells #[.int .i64 x1, .int .i64 x2, .int .i64 xa] 35)) := bel_alloc hb _
  have hlit : Rw LT (U.alloc (.cells #[.int .i64 x1, .int .i64 x2, .int .i64 xa] 35)) (some ⟨U.heap.size, 0, none⟩) 1 1 [⟨(x1, x2), xa⟩] := Rw.lit (L := LT) U ⟨(x1, x2), xa⟩ 35
  obtain ⟨i0, hi, hz0, hz1, hz2⟩ := info_parts info_rt
  obtain ⟨V1, c1, u3, hrun, hown, hgrw, hloc⟩ := run_append_rw (L := LT) (ty := 26) (bytes := 24) Try.underlying26 hi hz0 hz1 hz2 rfl (ownsRow_below hrow hbl) hlit (by unfold maxLen; omega) (by omega) (by have := hbl.size; omega)
  exact ⟨V1, c1, u3, hrun, hown, (hbl.mono hB).grown hgrw (by have := hbl.size; omega) fun j e => (hrow.lt j e).1⟩
set_option maxRecDepth 20000 in
set_option maxHeartbeats 16000000 in
theorem refset_any {A : Option Addr} {n c : Nat} {l : List Tm} (t : Tm) (w : World) (hr : Rw LT w A n c l) (hl : n ≤ 700000) :
    Calls Try.prog 11 #[.slice A n c, .agg #[.int .i64 t.i.1, .int .i64 t.i.2, .int .i64 t.a]] w (NewRow w (setR l t)) := by
  have hln := hr.len
  obtain ⟨⟨t1, t2⟩, ta⟩ := t
  have hb1 := bel_alloc (Below.refl w.heap.size w) (.cells #[.int .i64 t1, .int .i64 t2, .int .i64 ta] 35)
  have hbx := Blk.new w 35 #[.int .i64 t1, .int .i64 t2, .int .i64 ta]
  obtain ⟨W, hW⟩ : ∃ v, w.alloc (.cells #[.int .i64 t1, .int .i64 t2, .int .i64 ta] 35) = v := ⟨_, rfl⟩
  rw [hW] at hb1 hbx
  have hout := refout_any (t1, t2) W (hr.below hb1) (by omega)
  obtain ⟨e0, e1, e2⟩ := blk3 hbx
  have hol : (outR l (t1, t2)).length ≤ n := by rw [← hln]; exact List.length_filter_le _ _
  have hsr : setR l ⟨(t1, t2), ta⟩ = insR ⟨(t1, t2), ta⟩ (outR l (t1, t2)) := rfl
  rw [hsr]
  obtain ⟨L, hL⟩ : ∃ L, outR l (t1, t2) = L := ⟨_, rfl⟩
  rw [hL] at hout hol ⊢
  have HO := Lib.hid hout
  have HR := Lib.hid (And.intro hbx hb1)
  have HW := Lib.hid hW
  clear hr hW hbx hb1 hout hsr hL hln
  go_enter Try.func11, Try.ntmps11
  go_upto_region 3 with fail
  rw [HW.out]
  go_wp2_with fail
  refine HO.out.mono ?_
  rintro e w1 ⟨V0, c0, rfl, hrow0, hbw1⟩
  have hrw := Rw.own hrow0
  have hbx1 := HR.out.1.bel hbw1
  have hlr : L.length ≤ 700000 := by omega
  obtain ⟨n0, hn0⟩ : ∃ n0, L.length = n0 := ⟨_, rfl⟩
  rw [hn0] at hrw hlr hol
  have HR1 := Lib.hid (And.intro hrw (And.intro hbx1 (And.intro (HR.out.2.trans (hbw1.mono HR.out.2.size)) hn0)))
  clear hrw hbx1 hrow0 hbw1 e0 e1 e2 HO
  go_wp2_with fail
  go_loopw [5, 6, 8] (StRel w1 w1.heap.size ⟨(t1, t2), ta⟩ L) (fun _ _ v _ => n0 - (intOf v).toNat)
  case atStart => exact ⟨0, none, 0, 0, false, [], rfl, rfl, rfl, Nat.zero_le _, rfl, .inr ⟨rfl, (fun y hy => by cases hy), rfl⟩, ⟨rfl, .inl ⟨rfl, rfl⟩⟩, Below.refl _ _⟩
  case round =>
    obtain ⟨k, V, c', m, dn, out, rfl, rfl, rfl, hk, hm, hio, hrow, hbw⟩ := hrel
    by_cases hlt : k < n0
    · obtain ⟨g, o, ⟨⟨x1, x2⟩, xa⟩, rfl, hg, hx, hcx⟩ := (HR1.out.1.below hbw).at_ hlt
      obtain ⟨c3, c4, c5⟩ := three hcx
      rw [show o + k * LT.s = o + k * 3 from rfl] at c3 c4 c5
      simp only at c3 c4 c5
      have hbxr := HR1.out.2.1.bel hbw
      have hst := snoc_take hx
      have hmk : m ≤ k + 1 := by
        have := hio.len
        rw [List.length_take] at this
        omega
      obtain ⟨U, hU⟩ : ∃ v, wr.drew = v := ⟨_, rfl⟩
      have hbU : Below wr.heap.size wr U := by rw [← hU]; exact Below.drew (Below.refl _ _)
      obtain ⟨d0, d1, d2⟩ := blk3 (hbxr.bel hbU)
      have hsb : ∀ u, Below U.heap.size U u → u.cell? ⟨w.heap.size, 0, none⟩ = some (.int .i64 t1) ∧ u.cell? ⟨w.heap.size, 1, none⟩ = some (.int .i64 t2) ∧ u.cell? ⟨w.heap.size, 2, none⟩ = some (.int .i64 ta) ∧ u.cell? ⟨g, o + k * 3, none⟩ = some (.int .i64 x1) ∧ u.cell? ⟨g, o + k * 3 + 1, none⟩ = some (.int .i64 x2) ∧ u.cell? ⟨g, o + k * 3 + 2, none⟩ = some (.int .i64 xa) := fun u hu => by
        have hgU : g < U.heap.size := Nat.lt_of_lt_of_le hg hbU.size
        have hwU : w.heap.size < U.heap.size := (hbxr.bel hbU).lt
        exact ⟨(hu.cell (p := ⟨w.heap.size, 0, none⟩) hwU).trans d0, (hu.cell (p := ⟨w.heap.size, 1, none⟩) hwU).trans d1, (hu.cell (p := ⟨w.heap.size, 2, none⟩) hwU).trans d2,
          (hu.cell (p := ⟨g, o + k * 3, none⟩) hgU).trans ((hbU.cell (p := ⟨g, o + k * 3, none⟩) hg).trans c3), (hu.cell (p := ⟨g, o + k * 3 + 1, none⟩) hgU).trans ((hbU.cell (p := ⟨g, o + k * 3 + 1, none⟩) hg).trans c4), (hu.cell (p := ⟨g, o + k * 3 + 2, none⟩) hgU).trans ((hbU.cell (p := ⟨g, o + k * 3 + 2, none⟩) hg).trans c5)⟩
      have HS0 := Lib.hid (hsb U (Below.refl _ _))
      have HSB := Lib.hid hsb
      have HU := Lib.hid hU
      have HUB := Lib.hid hbU
      have HX := Lib.hid (And.intro hst (And.intro hm (And.intro hio (And.intro hrow (And.intro hbw hmk)))))
      clear hx hcx hst hm hio hrow hbw hmk hU hbU hsb hbxr d0 d1 d2 c3 c4 c5 hg
      cases dn with
      | true =>
        have hio : InsOut ⟨(t1, t2), ta⟩ (L.take (k + 1)) true (out ++ [⟨(x1, x2), xa⟩]) := by
          rw [HX.out.1]
          rcases HX.out.2.2.1 with ⟨_, h2, rfl⟩ | ⟨h1, _⟩
          · exact .inl ⟨rfl, (by obtain ⟨y, hy, hy2⟩ := h2; exact ⟨y, List.mem_append_left _ hy, hy2⟩), (ins_some h2).symm⟩
          · cases h1
        obtain ⟨V1, c1, u3, hrun, hown, hb3⟩ := row_more ⟨(x1, x2), xa⟩ HX.out.2.2.2.1 HUB.out HX.out.2.2.2.2.1.size (by have := HX.out.2.2.2.2.2; omega)
        have hrel : StRel w1 w1.heap.size ⟨(t1, t2), ta⟩ L (.slice V1 (m + 1) c1) (.bool true) (.int .i64 ((k + 1 : Nat) : Int)) u3 := ⟨k + 1, V1, c1, m + 1, true, _, rfl, rfl, rfl, by have := HR1.out.2.2.2; omega, by rw [List.length_append, HX.out.2.1]; rfl, hio, hown, HX.out.2.2.2.2.1.trans hb3⟩
        have HREL := Lib.hid hrel
        have HRUN := Lib.hid hrun
        obtain ⟨q0, q1, q2, q3, q4, q5⟩ := HS0.out
        clear hio hown hb3 hrel hrun q0 q1 q2
        go_upto_region 7 with fail
        refine wp_region_held_drew (S := (fun w' => w'.cell? ⟨w.heap.size, 0, none⟩ = some (.int .i64 t1) ∧ w'.cell? ⟨w.heap.size, 1, none⟩ = some (.int .i64 t2) ∧ w'.cell? ⟨w.heap.size, 2, none⟩ = some (.int .i64 ta) ∧ w'.cell? ⟨g, o + k * 3, none⟩ = some (.int .i64 x1) ∧ w'.cell? ⟨g, o + k * 3 + 1, none⟩ = some (.int .i64 x2) ∧ w'.cell? ⟨g, o + k * 3 + 2, none⟩ = some (.int .i64 xa))) (by kernel_rfl) (by rw [HU.out]; exact HS0.out) (fun hHeld => ?_)
        rw [HU.out] at hHeld ⊢
        refine held_take (i := 0) (d := 19) (v := (.bool true)) rfl rfl (by kernel_rfl) (by kernel_rfl) (by kernel_rfl) (fun _ _ _ h => h) (by kernel_rfl) (fun w hSw => by (obtain ⟨hS0, hS1, hS2, hS3, hS4, hS5⟩ := hSw); go_simp) hHeld ?_
        try simp only [List.setIfInBounds_toArray, List.set_cons_zero, List.set_cons_succ]
        refine held_take (i := 1) (d := 20) (v := (.bool false)) rfl rfl (by kernel_rfl) (by kernel_rfl) (by kernel_rfl) (fun _ _ _ h => h) (by kernel_rfl) (fun w hSw => by (obtain ⟨hS0, hS1, hS2, hS3, hS4, hS5⟩ := hSw); go_simp) hHeld ?_
        try simp only [List.setIfInBounds_toArray, List.set_cons_zero, List.set_cons_succ]
        refine held_take (i := 2) (d := 21) (v := (.bool false)) rfl rfl (by kernel_rfl) (by kernel_rfl) (by kernel_rfl) (fun _ _ _ h => h) (by kernel_rfl) (fun w hSw => by (obtain ⟨hS0, hS1, hS2, hS3, hS4, hS5⟩ := hSw); go_simp) hHeld ?_
        try simp only [List.setIfInBounds_toArray, List.set_cons_zero, List.set_cons_succ]
        refine held_skip (i := 3) (d := 22) rfl rfl (by kernel_rfl) (by kernel_rfl) (by kernel_rfl) (fun _ _ _ h => h) (by kernel_rfl) hHeld ?_
        try simp only [List.setIfInBounds_toArray, List.set_cons_zero, List.set_cons_succ]
        refine held_skip (i := 4) (d := 23) rfl rfl (by kernel_rfl) (by kernel_rfl) (by kernel_rfl) (fun _ _ _ h => h) (by kernel_rfl) hHeld ?_
        try simp only [List.setIfInBounds_toArray, List.set_cons_zero, List.set_cons_succ]
        refine held_skip (i := 5) (d := 24) rfl rfl (by kernel_rfl) (by kernel_rfl) (by kernel_rfl) (fun _ _ _ h => h) (by kernel_rfl) hHeld ?_
        try simp only [List.setIfInBounds_toArray, List.set_cons_zero, List.set_cons_succ]
        refine held_skip (i := 6) (d := 25) rfl rfl (by kernel_rfl) (by kernel_rfl) (by kernel_rfl) (fun _ _ _ h => h) (by kernel_rfl) hHeld ?_
        try simp only [List.setIfInBounds_toArray, List.set_cons_zero, List.set_cons_succ]
        refine held_skip (i := 7) (d := 26) rfl rfl (by kernel_rfl) (by kernel_rfl) (by kernel_rfl) (fun _ _ _ h => h) (by kernel_rfl) hHeld ?_
        try simp only [List.setIfInBounds_toArray, List.set_cons_zero, List.set_cons_succ]
        refine held_skip (i := 8) (d := 27) rfl rfl (by kernel_rfl) (by kernel_rfl) (by kernel_rfl) (fun _ _ _ h => h) (by kernel_rfl) hHeld ?_
        try simp only [List.setIfInBounds_toArray, List.set_cons_zero, List.set_cons_succ]
        refine held_take (i := 9) (d := 28) (v := (.bool false)) rfl rfl (by kernel_rfl) (by kernel_rfl) (by kernel_rfl) (fun _ _ _ h => h) (by kernel_rfl) (fun w hSw => by (obtain ⟨hS0, hS1, hS2, hS3, hS4, hS5⟩ := hSw); go_simp) hHeld ?_
        try simp only [List.setIfInBounds_toArray, List.set_cons_zero, List.set_cons_succ]
        refine wpAnyH_done (by kernel_rfl) ?_ _
        go_wp2_with (at_builtin; refine wpList_append_row rfl (.tmp 33) (.tmp 38) rfl HRUN.out ?_)
        go_roundw
        case rel => simpa using HREL.out
        case measure =>
          simp [intOf]
          omega
      | false =>
        obtain ⟨tt, htt⟩ : ∃ tt, tlt ⟨(t1, t2), ta⟩ ⟨(x1, x2), xa⟩ = tt := ⟨_, rfl⟩
        have hah := refahead_any ⟨(t1, t2), ta⟩ ⟨(x1, x2), xa⟩ U
        rw [htt] at hah
        have HAH := Lib.hid hah
        have HTT := Lib.hid htt
        clear hah htt
        go_upto_region 7 with fail
        refine wp_region_held_drew (S := (fun w' => w'.cell? ⟨w.heap.size, 0, none⟩ = some (.int .i64 t1) ∧ w'.cell? ⟨w.heap.size, 1, none⟩ = some (.int .i64 t2) ∧ w'.cell? ⟨w.heap.size, 2, none⟩ = some (.int .i64 ta) ∧ w'.cell? ⟨g, o + k * 3, none⟩ = some (.int .i64 x1) ∧ w'.cell? ⟨g, o + k * 3 + 1, none⟩ = some (.int .i64 x2) ∧ w'.cell? ⟨g, o + k * 3 + 2, none⟩ = some (.int .i64 xa))) (by kernel_rfl) (by rw [HU.out]; exact HS0.out) (fun hHeld => ?_)
        rw [HU.out] at hHeld ⊢
        refine held_take (i := 0) (d := 19) (v := (.bool false)) rfl rfl (by kernel_rfl) (by kernel_rfl) (by kernel_rfl) (fun _ _ _ h => h) (by kernel_rfl) (fun w hSw => by (obtain ⟨hS0, hS1, hS2, hS3, hS4, hS5⟩ := hSw); go_simp) hHeld ?_
        try simp only [List.setIfInBounds_toArray, List.set_cons_zero, List.set_cons_succ]
        refine held_take (i := 1) (d := 20) (v := (.bool true)) rfl rfl (by kernel_rfl) (by kernel_rfl) (by kernel_rfl) (fun _ _ _ h => h) (by kernel_rfl) (fun w hSw => by (obtain ⟨hS0, hS1, hS2, hS3, hS4, hS5⟩ := hSw); go_simp) hHeld ?_
        try simp only [List.setIfInBounds_toArray, List.set_cons_zero, List.set_cons_succ]
        refine held_take (i := 2) (d := 21) (v := (.bool true)) rfl rfl (by kernel_rfl) (by kernel_rfl) (by kernel_rfl) (fun _ _ _ h => h) (by kernel_rfl) (fun w hSw => by (obtain ⟨hS0, hS1, hS2, hS3, hS4, hS5⟩ := hSw); go_simp) hHeld ?_
        try simp only [List.setIfInBounds_toArray, List.set_cons_zero, List.set_cons_succ]
        refine held_take (i := 3) (d := 22) (v := (.agg #[.int .i64 t1, .int .i64 t2, .int .i64 ta])) rfl rfl (by kernel_rfl) (by kernel_rfl) (by kernel_rfl) (fun _ _ _ h => h) (by kernel_rfl) (fun w hSw => by (obtain ⟨hS0, hS1, hS2, hS3, hS4, hS5⟩ := hSw); go_simp) hHeld ?_
        try simp only [List.setIfInBounds_toArray, List.set_cons_zero, List.set_cons_succ]
        refine held_take (i := 4) (d := 23) (v := (.slice (some ⟨g, o, none⟩) n0 c0)) rfl rfl (by kernel_rfl) (by kernel_rfl) (by kernel_rfl) (fun _ _ _ h => h) (by kernel_rfl) (fun w hSw => by (obtain ⟨hS0, hS1, hS2, hS3, hS4, hS5⟩ := hSw); go_simp) hHeld ?_
        try simp only [List.setIfInBounds_toArray, List.set_cons_zero, List.set_cons_succ]
        refine held_take (i := 5) (d := 24) (v := (.int .i64 (k : Int))) rfl rfl (by kernel_rfl) (by kernel_rfl) (by kernel_rfl) (fun _ _ _ h => h) (by kernel_rfl) (fun w hSw => by (obtain ⟨hS0, hS1, hS2, hS3, hS4, hS5⟩ := hSw); go_simp) hHeld ?_
        try simp only [List.setIfInBounds_toArray, List.set_cons_zero, List.set_cons_succ]
        refine held_take (i := 6) (d := 25) (v := (.pointer (some ⟨g, o + k * 3, none⟩))) rfl rfl (by kernel_rfl) (by kernel_rfl) (by kernel_rfl) (fun _ _ _ h => h) (by kernel_rfl) (fun w hSw => by (obtain ⟨hS0, hS1, hS2, hS3, hS4, hS5⟩ := hSw); go_simp) hHeld ?_
        try simp only [List.setIfInBounds_toArray, List.set_cons_zero, List.set_cons_succ]
        refine held_take (i := 7) (d := 26) (v := (.agg #[.int .i64 x1, .int .i64 x2, .int .i64 xa])) rfl rfl (by kernel_rfl) (by kernel_rfl) (by kernel_rfl) (fun _ _ _ h => h) (by kernel_rfl) (fun w hSw => by (obtain ⟨hS0, hS1, hS2, hS3, hS4, hS5⟩ := hSw); go_simp) hHeld ?_
        try simp only [List.setIfInBounds_toArray, List.set_cons_zero, List.set_cons_succ]
        refine wpAnyH_ready (rs := [8]) (by kernel_rfl) (by simp) ?_
        refine AllReadyH.cons rfl (fun K hK => ?_) AllReadyH.nil
        go_simp
        go_at_call 20
        (with_reducible refine HAH.out.mono ?_)
        rintro e u ⟨rfl, hbu⟩
        have HS1 := Lib.hid (HSB.out u hbu)
        have HBU := Lib.hid hbu
        clear hbu
        refine hK.out _ _ (by first | (with_reducible exact HS0.out) | (with_reducible exact HS1.out)) (fun hHeld => ?_)
        clear hK K
        refine held_take (i := 9) (d := 28) (v := (.bool tt)) rfl rfl (by kernel_rfl) (by kernel_rfl) (by kernel_rfl) (fun _ _ _ h => h) (by kernel_rfl) (fun w hSw => by (obtain ⟨hS0, hS1, hS2, hS3, hS4, hS5⟩ := hSw); go_simp) hHeld ?_
        try simp only [List.setIfInBounds_toArray, List.set_cons_zero, List.set_cons_succ]
        refine wpAnyH_done (by kernel_rfl) ?_ _
        cases tt with
        | true =>
          obtain ⟨V1, c1, u3, hrun, hown, hb3⟩ := row_more ⟨(t1, t2), ta⟩ HX.out.2.2.2.1 (HUB.out.trans (HBU.out.mono HUB.out.size)) HX.out.2.2.2.2.1.size (by have := HX.out.2.2.2.2.2; omega)
          obtain ⟨q0, q1, q2, q3, q4, q5⟩ := HS1.out
          have hg3 : u3.cell? ⟨g, o + k * 3, none⟩ = some (.int .i64 x1) ∧ u3.cell? ⟨g, o + k * 3 + 1, none⟩ = some (.int .i64 x2) ∧ u3.cell? ⟨g, o + k * 3 + 2, none⟩ = some (.int .i64 xa) := by
            have hx3 := (HR1.out.1.below (HX.out.2.2.2.2.1.trans hb3)).at_ hlt
            obtain ⟨g', o', x', e', _, hx', hc'⟩ := hx3
            injection e' with e'
            injection e' with e1' e2' e3'
            subst e1'
            subst e2'
            have hl' := HX.out.1
            have hxx : x' = ⟨(x1, x2), xa⟩ := by
              have h1 : L[k]? = some x' := hx'
              have h2 : (L.take (k + 1))[k]? = some x' := by rw [List.getElem?_take, if_pos (by omega)]; exact h1
              rw [hl', List.getElem?_append_right (by rw [List.length_take]; omega), List.length_take] at h2
              have hlk : k - min k L.length = 0 := by have := HR1.out.2.2.2; omega
              rw [hlk] at h2
              simpa using h2.symm
            subst hxx
            exact three hc'
          obtain ⟨V2, c2, u4, hrun2, hown2, hb4⟩ := row_more ⟨(x1, x2), xa⟩ hown (Below.refl _ _) (by have := hb3.size; have := HX.out.2.2.2.2.1.size; omega) (by have := HX.out.2.2.2.2.2; omega)
          have hio : InsOut ⟨(t1, t2), ta⟩ (L.take (k + 1)) true (out ++ [⟨(t1, t2), ta⟩] ++ [⟨(x1, x2), xa⟩]) := by
            rw [HX.out.1]
            rcases HX.out.2.2.1 with ⟨h1, _⟩ | ⟨_, h2, rfl⟩
            · cases h1
            · exact .inl ⟨rfl, ⟨_, List.mem_append_right _ (List.mem_singleton_self _), HTT.out⟩, by rw [ins_now HTT.out h2, List.append_assoc]; rfl⟩
          have hrel : StRel w1 w1.heap.size ⟨(t1, t2), ta⟩ L (.slice V2 (m + 1 + 1) c2) (.bool true) (.int .i64 ((k + 1 : Nat) : Int)) u4 := ⟨k + 1, V2, c2, m + 1 + 1, true, _, rfl, rfl, rfl, by have := HR1.out.2.2.2; omega, by rw [List.length_append, List.length_append, HX.out.2.1]; rfl, hio, hown2, HX.out.2.2.2.2.1.trans (hb3.trans hb4)⟩
          have HREL := Lib.hid hrel
          have HRUN := Lib.hid hrun
          have HRUN2 := Lib.hid hrun2
          obtain ⟨g3, g4, g5⟩ := hg3
          clear hio hown hown2 hb3 hb4 hrel hrun hrun2 q3 q4 q5
          go_upto_region 10 with (at_builtin; refine wpList_append_row rfl (.tmp 29) (.tmp 31) rfl HRUN.out ?_)
          go_wp2_with (at_builtin; refine wpList_append_row rfl (.tmp 33) (.tmp 38) rfl HRUN2.out ?_)
          go_roundw
          case rel => simpa using HREL.out
          case measure =>
            simp [intOf]
            omega
        | false =>
          obtain ⟨V1, c1, u3, hrun, hown, hb3⟩ := row_more ⟨(x1, x2), xa⟩ HX.out.2.2.2.1 (HUB.out.trans (HBU.out.mono HUB.out.size)) HX.out.2.2.2.2.1.size (by have := HX.out.2.2.2.2.2; omega)
          obtain ⟨q0, q1, q2, q3, q4, q5⟩ := HS1.out
          have hio : InsOut ⟨(t1, t2), ta⟩ (L.take (k + 1)) false (out ++ [⟨(x1, x2), xa⟩]) := by
            rw [HX.out.1]
            rcases HX.out.2.2.1 with ⟨h1, _⟩ | ⟨_, h2, rfl⟩
            · cases h1
            · refine .inr ⟨rfl, fun y hy => ?_, rfl⟩
              rcases List.mem_append.1 hy with hy | hy
              · exact h2 y hy
              · rw [List.mem_singleton.1 hy]
                exact HTT.out
          have hrel : StRel w1 w1.heap.size ⟨(t1, t2), ta⟩ L (.slice V1 (m + 1) c1) (.bool false) (.int .i64 ((k + 1 : Nat) : Int)) u3 := ⟨k + 1, V1, c1, m + 1, false, _, rfl, rfl, rfl, by have := HR1.out.2.2.2; omega, by rw [List.length_append, HX.out.2.1]; rfl, hio, hown, HX.out.2.2.2.2.1.trans hb3⟩
          have HREL := Lib.hid hrel
          have HRUN := Lib.hid hrun
          clear hio hown hb3 hrel hrun q0 q1 q2
          go_wp2_with (at_builtin; refine wpList_append_row rfl (.tmp 33) (.tmp 38) rfl HRUN.out ?_)
          go_roundw
          case rel => simpa using HREL.out
          case measure =>
            simp [intOf]
            omega
    · have HX := Lib.hid (And.intro hm (And.intro hio (And.intro hrow hbw)))
      have hkl : L.take k = L := List.take_of_length_le (by have := HR1.out.2.2.2; omega)
      have hmk : m ≤ n0 + 1 := by
        have := hio.len
        rw [hkl] at this
        have := HR1.out.2.2.2
        omega
      have HKL := Lib.hid hkl
      obtain ⟨d0, d1, d2⟩ := blk3 (HR1.out.2.1.bel hbw)
      have HWB := Lib.hid (HR1.out.2.2.1)
      clear hm hio hrow hbw hkl
      cases dn with
      | true =>
        clear d0 d1 d2
        go_wp2_with fail
        go_ret
        obtain ⟨h1, h2, h3, h4⟩ := HX.out
        rcases h2 with ⟨_, _, rfl⟩ | ⟨h2, _⟩
        · rw [HKL.out] at h1 h3
          subst h1
          exact ⟨V, c', rfl, own_low h3 HWB.out.size, HWB.out.trans (h4.mono HWB.out.size)⟩
        · cases h2
      | false =>
        obtain ⟨V1, c1, u3, hrun, hown, hb3⟩ := row_more ⟨(t1, t2), ta⟩ HX.out.2.2.1 (Below.refl _ _) HX.out.2.2.2.size (by omega)
        have hfin : NewRow w (insR ⟨(t1, t2), ta⟩ L) (.returned (.slice V1 (m + 1) c1)) u3 := by
          obtain ⟨h1, h2, h3, h4⟩ := HX.out
          rcases h2 with ⟨h2, _⟩ | ⟨_, h2, rfl⟩
          · cases h2
          · rw [HKL.out] at h1 h2 hown
            have hi := ins_none h2
            unfold NewRow
            rw [hi, List.length_append, h1]
            exact ⟨V1, c1, rfl, own_low hown HWB.out.size, HWB.out.trans ((h4.trans hb3).mono HWB.out.size)⟩
        have HFIN := Lib.hid hfin
        have HRUN := Lib.hid hrun
        clear hown hb3 hfin hrun
        go_wp2_with (at_builtin; refine wpList_append_row rfl (.tmp 42) (.tmp 44) rfl HRUN.out ?_)
        go_ret
        exact HFIN.out
end Go.Proofs.Ytldlcddmbgcfdaa.Wh
