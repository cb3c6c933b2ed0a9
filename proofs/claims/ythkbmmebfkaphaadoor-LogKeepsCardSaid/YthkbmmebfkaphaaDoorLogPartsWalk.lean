/-
  Texts of earlier layers, as one.
-/
import Derived.Test.YthkbmmebfkaphaaDoorLogAwake
import Derived.Test.YthkbmmebfkaphaaDoorLogAppend
import Derived.Deep.Cut
/- The law of whole records, and what follows. -/
namespace Go.Proofs.YthkbmmebfkaphaaDoor.Lg
open Go.RowKit Mem

theorem empty_row (w : World) (t : TypeId) : (w.alloc (.cells #[] t)).ownsRow w.heap.size t 1 (.slice (some ⟨w.heap.size, 0, none⟩) 0 0) 0 [] := ⟨rfl, .inr ⟨w.heap.size, 0, #[], rfl, Nat.le_refl _, heap_alloc_new w _, Nat.le_refl _, by unfold maxLen; omega, rfl, rfl⟩⟩
theorem pv_one (ps : List Cr.Part) : ∀ u ∈ ps.map Cr.pv, u.oneCell' = true := by
  intro u hu
  obtain ⟨p, _, rfl⟩ := List.mem_map.1 hu
  rfl
theorem pv_map_append (ps qs : List Cr.Part) : ps.map Cr.pv ++ qs.map Cr.pv = (ps ++ qs).map Cr.pv := List.map_append.symm
theorem mat_of_row {w : World} {B : Nat} {V : Option Addr} {n c : Nat} {ps : List Cr.Part} (h : w.ownsRow B 32 1 (.slice V n c) n (ps.map Cr.pv)) (hp : ∀ p ∈ ps, Rd w p.A p.n p.c (cs p.bs) ∧ ∀ b ∈ p.bs, b < 256) : Cr.Mat w V n c ps := ⟨Rd.own h, hp⟩
set_option maxRecDepth 20000 in
set_option maxHeartbeats 8000000 in
theorem log_parts (A B : Option Addr) (n c m d : Nat) (a b : List Nat) (w : World) (ht : Cr.Tab w) (hx : Rd w A n c (cs a)) (hy : Rd w B m d (cs b)) (la : ∀ x ∈ a, x < 256) (lb : ∀ x ∈ b, x < 256) :
    Calls Tryd.prog 5 #[.slice A n c, .slice B m d] w (Tells true w) := by
  obtain ⟨i0, hi, hz0, hz1, hz2⟩ := info_parts info5
  obtain ⟨j0, hj, hy0, hy1, hy2⟩ := info_parts info32
  have hal := hx.len
  have hbl := hy.len
  rw [length_cs] at hal hbl
  have HT := Lib.hid ht
  have HX := Lib.hid (And.intro hx la)
  have HY := Lib.hid (And.intro hy lb)
  have HW := Lib.hid (fun (u : World) (h : Cr.Tab u) => lawake_any u h)
  obtain ⟨xs, xr, hxs⟩ := reads_of a la
  obtain ⟨ys, yr, hys⟩ := reads_of b lb
  clear ht hx hy
  go_enter Tryd.func5, Tryd.ntmps5
  by_cases h1 : 500 < n
  · have b1 : decide ((500 : Int) < (n : Int)) = true := decide_eq_true (by omega)
    clear hxs hys
    go_wp2_with fail
    refine (HW.out w HT.out).mono ?_
    rintro e w1 ⟨rfl, hb⟩
    have HB := Lib.hid hb
    clear hb
    go_wp2_with fail
    go_ret
    exact ⟨rfl, HB.out⟩
  have b1 : decide ((500 : Int) < (n : Int)) = false := decide_eq_false (by omega)
  by_cases h2 : 500 < m
  · have b2 : decide ((500 : Int) < (m : Int)) = true := decide_eq_true (by omega)
    clear hxs hys
    go_wp2_with fail
    refine (HW.out w HT.out).mono ?_
    rintro e w1 ⟨rfl, hb⟩
    have HB := Lib.hid hb
    clear hb
    go_wp2_with fail
    go_ret
    exact ⟨rfl, HB.out⟩
  have b2 : decide ((500 : Int) < (m : Int)) = false := decide_eq_false (by omega)
  have HS1 := Lib.hid (scan_any A n c a xs xr w HT.out HX.out.1 HX.out.2 (by omega) hxs)
  have hxl := congrArg List.length hxs.eq
  rw [List.length_append, hal] at hxl
  obtain ⟨fx, hfx⟩ : ∃ fx, (forms xs).length = fx := ⟨_, rfl⟩
  rw [hfx] at hxl
  have HXS := Lib.hid hxs
  have HYS := Lib.hid hys
  have HFX := Lib.hid (And.intro hfx hxl)
  have HAL := Lib.hid (And.intro hal hbl)
  clear hxs hys hfx hxl hal hbl
  go_wp2_with fail
  refine HS1.out.mono ?_
  rintro e w1 ⟨V1, k1, ps, rfl, hm1, hb1⟩
  rw [HFX.out.1]
  have HM1 := Lib.hid hm1
  have HB1 := Lib.hid hb1
  clear hm1 hb1
  by_cases h3 : fx < n
  · have b3 : decide ((fx : Int) < (n : Int)) = true := decide_eq_true (by omega)
    go_wp2_with fail
    refine (HW.out w1 (HT.out.below HB1.out)).mono ?_
    rintro e w2 ⟨rfl, hb⟩
    have HB := Lib.hid (HB1.out.trans (hb.mono HB1.out.size))
    clear hb
    go_wp2_with fail
    go_ret
    exact ⟨rfl, HB.out⟩
  have b3 : decide ((fx : Int) < (n : Int)) = false := decide_eq_false (by omega)
  have hxr : xr = [] := List.eq_nil_of_length_eq_zero (by have := HFX.out.2; omega)
  subst hxr
  have HS2 := Lib.hid (scan_any B m d b ys yr w1 (HT.out.below HB1.out) (HY.out.1.below HB1.out) HY.out.2 (by omega) HYS.out)
  obtain ⟨fy, hfy⟩ : ∃ fy, (forms ys).length = fy := ⟨_, rfl⟩
  have hyl := congrArg List.length HYS.out.eq
  rw [List.length_append, HAL.out.2, hfy] at hyl
  have HFY := Lib.hid (And.intro hfy hyl)
  clear hfy hyl
  go_wp2_with fail
  refine HS2.out.mono ?_
  rintro e w2 ⟨V2, k2, qs, rfl, hm2, hb2⟩
  rw [HFY.out.1]
  have HM2 := Lib.hid hm2
  have HB2 := Lib.hid hb2
  have HB02 := Lib.hid (HB1.out.trans (hb2.mono HB1.out.size))
  clear hm2 hb2
  have HRA := Lib.hid ((HX.out.1.below HB02.out).alloc (.cells #[] 5))
  have HRB := Lib.hid (HY.out.1.below HB02.out)
  have HE := Lib.hid (empty_row w2 5)
  go_wp2_with (first
    | (at_builtin; refine wpList_append_rd rfl (.tmp 36) (.tmp 37) 32 rfl w2.heap.size 5 i0 _ 1 Tryd.underlying32 hi hz0 hz1 hz2 rfl (some ⟨w2.heap.size, 0, none⟩) 0 0 [] rfl HE.out A n c (cs a) rfl HRA.out (cs_one _) (by unfold maxLen; omega) (by omega) (by rw [size_alloc]; omega) ?_; intro V4 c4 w4 hown4 hb4; simp only [Nat.zero_add, List.nil_append] at hown4; have hb24 : Below w2.heap.size w2 w4 := (bel_alloc (Below.refl _ _) _).trans hb4)
    | (at_builtin; refine wpList_append_rd rfl (.tmp 38) (.tmp 39) 32 rfl w2.heap.size 5 i0 _ 1 Tryd.underlying32 hi hz0 hz1 hz2 rfl V4 n c4 (cs a) rfl hown4 B m d (cs b) rfl (HRB.out.below hb24) (cs_one _) (by unfold maxLen; omega) (by omega) hb24.size ?_; intro V5 c5 w5 hown5 hb5))
  rw [← cs_append] at hown5
  have hb25 := hb24.trans hb5
  have hab : Reads (a ++ b) (xs ++ ys) yr := by
    have h := HYS.out.behind (m := xs) HXS.out.ok
    rwa [← List.append_nil (forms xs), ← HXS.out.eq] at h
  have HB05 := Lib.hid (HB02.out.trans (hb25.mono HB02.out.size))
  have HS3 := Lib.hid (scan_any V5 (n + m) c5 (a ++ b) (xs ++ ys) yr w5 (HT.out.below HB05.out) (Rd.own hown5) (fun x hx => (List.mem_append.1 hx).elim (HX.out.2 x) (HY.out.2 x)) (by omega) hab)
  have HMX := Lib.hid ((HM1.out.mat.below HB2.out).below hb25)
  have HMY := Lib.hid (HM2.out.mat.below hb25)
  clear hown4 hb4 hb24 hb5 hown5 hb25 hab
  have HFZ := Lib.hid (show (forms (xs ++ ys)).length = fx + fy from by rw [forms_append, List.length_append, HFX.out.1, HFY.out.1])
  go_wp2_with fail
  refine HS3.out.mono ?_
  rintro e w6 ⟨V6, k6, rs, rfl, hm6, hb6⟩
  rw [HFZ.out, Int.natCast_add]
  have hxn : xs.length ≤ 1000 ∧ ys.length ≤ 1000 ∧ fx ≤ 1000 ∧ fy ≤ 1000 := by
    have h2 : ∀ l : List (List Nat), l.length ≤ (forms l).length := fun l => by
      induction l with
      | nil => exact Nat.le_refl _
      | cons p l ih => rw [forms, List.length_append, List.length_cons]; have := form_pos p; omega
    have e1 := h2 xs
    have e2 := h2 ys
    rw [HFX.out.1] at e1
    rw [HFY.out.1] at e2
    have := HFX.out.2
    have := HFY.out.2
    omega
  obtain ⟨xn, hxe⟩ : ∃ xn, xs.length = xn := ⟨_, rfl⟩
  obtain ⟨yn, hye⟩ : ∃ yn, ys.length = yn := ⟨_, rfl⟩
  rw [hxe, hye] at hxn
  have hmx6 := HMX.out.below hb6
  have hmy6 := HMY.out.below hb6
  rw [hxe] at hmx6
  rw [hye] at hmy6
  have hal6 := bel_alloc (Below.refl w6.heap.size w6) (.cells #[] 32)
  obtain ⟨V7, c7, w7, hr7, ho7, hb7⟩ := append_gen (P := Tryd.prog) (t := 22) Tryd.underlying22 hj hy0 hy1 hy2 rfl (empty_row w6 32) (hmx6.row.below hal6) (pv_one ps) (by unfold maxLen; omega) (by omega) hal6.size 22
  have hb67 := hal6.trans hb7
  obtain ⟨V8, c8, w8, hr8, ho8, hb8⟩ := append_gen (P := Tryd.prog) (t := 22) Tryd.underlying22 hj hy0 hy1 hy2 rfl ho7 (hmy6.row.below hb67) (pv_one qs) (by unfold maxLen; omega) (by omega) hb67.size 22
  simp only [Nat.zero_add, List.nil_append] at hr7 hr8 ho8
  rw [pv_map_append] at ho8
  have hb68 := hb67.trans hb8
  have hmr : Cr.Mat w8 V8 (xn + yn) c8 (ps ++ qs) := mat_of_row ho8 fun p hp => (List.mem_append.1 hp).elim (fun h => (hmx6.below hb68).part p h) (fun h => (hmy6.below hb68).part p h)
  have hbytes : rs.map (·.bs) = (ps ++ qs).map (·.bs) := by rw [hm6.bytes, List.map_append, HM1.out.bytes, HM2.out.bytes]
  have hsm := sameall_any V6 (xs ++ ys).length k6 rs V8 (xn + yn) c8 (ps ++ qs) w8 (hm6.mat.below hb68) hmr
  rw [decide_eq_true hbytes] at hsm
  rw [List.length_append, hxe, hye] at hsm ⊢
  have HSM := Lib.hid hsm
  have HR7 := Lib.hid hr7
  have HR8 := Lib.hid hr8
  have HB8 := Lib.hid (HB05.out.trans ((hb6.trans (hb68.mono hb6.size)).mono HB05.out.size))
  have HXE := Lib.hid (And.intro hxe hye)
  clear hsm hr7 hr8 hb6 hb68 hb67 hb8 hb7 hal6 ho7 ho8 hmr hbytes hm6 hmx6 hmy6 hxe hye
  have hw1 : IntKind.i64.wrap ((fx : Int) + (fy : Int)) = (fx : Int) + (fy : Int) := by simp only [IntKind.wrap_i64]; omega
  go_wp2_with (first
    | (at_builtin; refine wpList_append_w (.tmp 51) (.tmp 52) rfl (by kernel_rfl) HR7.out ?_)
    | (at_builtin; refine wpList_append_w (.tmp 53) (.tmp 54) rfl (by kernel_rfl) HR8.out ?_))
  refine HSM.out.mono ?_
  rintro e w9 ⟨rfl, q9, hq9⟩
  have hb9 : Below w8.heap.size w8 w9 := by rw [hq9]; exact below_drewN (Below.refl _ _) q9
  have HB9 := Lib.hid (HB8.out.trans (hb9.mono HB8.out.size))
  clear hq9 hb9
  go_wp2_with fail
  refine (HW.out w9 (HT.out.below HB9.out)).mono ?_
  rintro e w10 ⟨rfl, hb⟩
  have HB := Lib.hid (HB9.out.trans (hb.mono HB9.out.size))
  clear hb
  go_wp2_with fail
  go_ret
  exact ⟨rfl, HB.out⟩
end Go.Proofs.YthkbmmebfkaphaaDoor.Lg
