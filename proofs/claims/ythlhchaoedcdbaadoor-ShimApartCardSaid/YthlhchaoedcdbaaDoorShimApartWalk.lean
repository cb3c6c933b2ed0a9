/-
  Texts of earlier layers, as one.
-/
import Derived.Test.YthlhchaoedcdbaaDoorShimHv
import Derived.Test.YthlhchaoedcdbaaDoorMsgBS
import Derived.Test.YthlhchaoedcdbaaDoorMsgBase
import Derived.Test.YthlhchaoedcdbaaDoorRCrc
import Derived.Deep.RegionHeld
import Derived.Deep.Cut
/- A program of the old version reads nothing in the new form; one of the new version reads both. -/
namespace Go.Proofs.YthlhchaoedcdbaaDoor.Mg
open Go.RowKit Mem Ids Att Rk Cod

theorem new_len {m : Mg} (h : mright m = true) (fx : Fit (mgIt m)) : (frame 2 (form (mgIt m))).length ≤ 900000 := by
  rw [length_frame]
  have h1 := length_form_le (mgIt m) fx
  have h2 := wt_mg h
  omega
theorem reads_new1 {p : List Nat} : refReads 1 (frame 2 p) = (zeroMg, 13) := by rw [reads_one, up_new]
theorem reads_new2 {m : Mg} (h : mright m = true) (fx : Fit (mgIt m)) : refReads 2 (frame 2 (form (mgIt m))) = (m, 0) := by
  rw [reads_take (b := frame 2 (form (mgIt m))) (by show ¬ (2 : Nat) = 1; decide), taken_back h fx]
theorem down_two {m : Mg} (h : mright m = true) : (refDown m).2 = 0 ∨ (refDown m).2 = 17 := by
  unfold refDown
  rw [if_pos h]
  split
  · exact .inr rfl
  · exact .inl rfl
theorem down_first {m : Mg} (h : (refDown m).2 = 0) : (refDown m).1.getD 0 0 = 1 := by
  unfold refDown at h ⊢
  split at h
  · rename_i h1
    split at h
    · cases h
    · rename_i h2
      rw [if_pos h1, if_neg h2]
      rfl
  · cases h
theorem reads_old1 {m : Mg} (h : (refDown m).2 = 0) (fx : Fit (oldMg m)) : refReads 1 (refDown m).1 = (m, 0) := by rw [reads_one, up_of_down h fx]
theorem reads_old2 {m : Mg} (h : (refDown m).2 = 0) (fx : Fit (oldMg m)) : refReads 2 (refDown m).1 = (m, 0) := by rw [reads_up (down_first h), up_of_down h fx]
theorem put_right {m : Mg} : (mright m = true → mchk m = 0 ∧ (if mright m = true then frame 2 (form (mgIt m)) else []) = frame 2 (form (mgIt m))) ∧ (mright m = false → mchk m ≠ 0) := by
  unfold mchk
  refine ⟨fun h => ⟨by rw [if_pos h], by rw [if_pos h]⟩, fun h => by rw [if_neg (by simp [h])]; decide⟩
set_option maxRecDepth 100000 in
set_option maxHeartbeats 8000000 in
theorem shimapart_true (hD : HasDown) (hU : HasUp) (hR : HasRead) (aM aR aN aB aC aT aU aS aK aL aQ : Int) (aY aV : ByteArray) (aZ : Int) (aA : Option Addr) (an ac : Nat) (aE aG aW : Int) (al : List (Int × Int)) (w : World) (hT : Glob w) (ha : Rs w aA an ac al) :
    Calls Tryd.prog 3 #[.agg #[.int .i64 aM, .int .i64 aR, .int .i64 aN, .int .i64 aB, .int .i64 aC, .int .i64 aT, .int .i64 aU, .int .i64 aS, .int .i64 aK, .int .i64 aL, .int .i64 aQ, .string aY, .string aV, .int .i64 aZ, .slice aA an ac, .int .i64 aE, .int .i64 aG, .int .i64 aW]] w (Tells true w) := by
  obtain ⟨k1, hbb⟩ := box1 w 32 #[.int .i64 aM, .int .i64 aR, .int .i64 aN, .int .i64 aB, .int .i64 aC, .int .i64 aT, .int .i64 aU, .int .i64 aS, .int .i64 aK, .int .i64 aL, .int .i64 aQ, .string aY, .string aV, .int .i64 aZ, .slice aA an ac, .int .i64 aE, .int .i64 aG, .int .i64 aW]
  obtain ⟨W, hW⟩ : ∃ v, w.alloc (.cells #[.int .i64 aM, .int .i64 aR, .int .i64 aN, .int .i64 aB, .int .i64 aC, .int .i64 aT, .int .i64 aU, .int .i64 aS, .int .i64 aK, .int .i64 aL, .int .i64 aQ, .string aY, .string aV, .int .i64 aZ, .slice aA an ac, .int .i64 aE, .int .i64 aG, .int .i64 aW] 32) = v := ⟨_, rfl⟩
  rw [hW] at k1 hbb
  have HKa := Lib.hid k1
  have HB := Lib.hid hbb
  have HW := Lib.hid hW
  have HC := Lib.hid (Below.refl W.heap.size W)
  have haW := ha.below hbb
  have hTW := hT.below hbb
  have HRa := Lib.hid haW
  have HAW := Lib.hid (fun (u : World) (h : Below W.heap.size W u) => shim_awake hD hU u (hTW.below h))
  have HG1 := Lib.hid (fun w h => great_any aM aR aN aB aC aT aU aS aK aL aQ aY aV aZ aA an ac aE aG aW al w h)
  have hdn := fun (u : World) (h : Below W.heap.size W u) => hD aM aR aN aB aC aT aU aS aK aL aQ aY aV aZ aA an ac aE aG aW al u (hTW.below h) (haW.below h)
  have hpt := fun (u : World) (h : Below W.heap.size W u) => mput_any aM aR aN aB aC aT aU aS aK aL aQ aY aV aZ aA an ac aE aG aW al u (haW.below h) (hTW.below h).2 (hTW.below h).1
  have hx1 : mright ⟨aM, (aR, aN), (aB, aC), (aT, aU), aS, ⟨aK, aL, aQ, aY, aV, aZ⟩, ⟨al, aE, aG⟩, aW⟩ = true ∧ Fit (mgIt ⟨aM, (aR, aN), (aB, aC), (aT, aU), aS, ⟨aK, aL, aQ, aY, aV, aZ⟩, ⟨al, aE, aG⟩, aW⟩) → ∀ (A : Option Addr) (n c : Nat) (u : World), Below W.heap.size W u → Rd u A n c (cs (frame 2 (form (mgIt ⟨aM, (aR, aN), (aB, aC), (aT, aU), aS, ⟨aK, aL, aQ, aY, aV, aZ⟩, ⟨al, aE, aG⟩, aW⟩)))) → Calls Tryd.prog 8 #[.slice A n c, .int .i64 1] u (fun e w' => ∃ V k d, e = .returned (.tuple #[.agg #[.int .i64 0, .int .i64 0, .int .i64 0, .int .i64 0, .int .i64 0, .int .i64 0, .int .i64 0, .int .i64 0, .int .i64 0, .int .i64 0, .int .i64 0, .string ⟨#[]⟩, .string ⟨#[]⟩, .int .i64 0, .slice V k d, .int .i64 0, .int .i64 0, .int .i64 0], .int .i64 13]) ∧ Rs w' V k d [] ∧ Below u.heap.size u w') := fun hp A n c u h hrd => by
    have hl := hrd.len
    rw [length_cs] at hl
    have h3 := hR _ A n c 1 u (hTW.below h) hrd (frame_lt' 2 (by decide) (Cp.form_bytes _ hp.2)) (by have h4 := new_len hp.1 hp.2; omega)
    rw [reads_new1] at h3
    exact h3.mono fun _ _ h => h.mg
  have hx2 : mright ⟨aM, (aR, aN), (aB, aC), (aT, aU), aS, ⟨aK, aL, aQ, aY, aV, aZ⟩, ⟨al, aE, aG⟩, aW⟩ = true ∧ Fit (mgIt ⟨aM, (aR, aN), (aB, aC), (aT, aU), aS, ⟨aK, aL, aQ, aY, aV, aZ⟩, ⟨al, aE, aG⟩, aW⟩) → ∀ (A : Option Addr) (n c : Nat) (u : World), Below W.heap.size W u → Rd u A n c (cs (frame 2 (form (mgIt ⟨aM, (aR, aN), (aB, aC), (aT, aU), aS, ⟨aK, aL, aQ, aY, aV, aZ⟩, ⟨al, aE, aG⟩, aW⟩)))) → Calls Tryd.prog 8 #[.slice A n c, .int .i64 2] u (fun e w' => ∃ V k d, e = .returned (.tuple #[.agg #[.int .i64 aM, .int .i64 aR, .int .i64 aN, .int .i64 aB, .int .i64 aC, .int .i64 aT, .int .i64 aU, .int .i64 aS, .int .i64 aK, .int .i64 aL, .int .i64 aQ, .string aY, .string aV, .int .i64 aZ, .slice V k d, .int .i64 aE, .int .i64 aG, .int .i64 aW], .int .i64 0]) ∧ Rs w' V k d al ∧ Below u.heap.size u w') := fun hp A n c u h hrd => by
    have hl := hrd.len
    rw [length_cs] at hl
    have h3 := hR _ A n c 2 u (hTW.below h) hrd (frame_lt' 2 (by decide) (Cp.form_bytes _ hp.2)) (by have h4 := new_len hp.1 hp.2; omega)
    rw [reads_new2 hp.1 hp.2] at h3
    exact h3.mono fun _ _ h => h.mg
  have hy1 : (refDown ⟨aM, (aR, aN), (aB, aC), (aT, aU), aS, ⟨aK, aL, aQ, aY, aV, aZ⟩, ⟨al, aE, aG⟩, aW⟩).2 = 0 ∧ ((refDown ⟨aM, (aR, aN), (aB, aC), (aT, aU), aS, ⟨aK, aL, aQ, aY, aV, aZ⟩, ⟨al, aE, aG⟩, aW⟩).2 = 0 → Fit (oldMg ⟨aM, (aR, aN), (aB, aC), (aT, aU), aS, ⟨aK, aL, aQ, aY, aV, aZ⟩, ⟨al, aE, aG⟩, aW⟩)) → ∀ (A : Option Addr) (n c : Nat) (u : World), Below W.heap.size W u → Rd u A n c (cs (refDown ⟨aM, (aR, aN), (aB, aC), (aT, aU), aS, ⟨aK, aL, aQ, aY, aV, aZ⟩, ⟨al, aE, aG⟩, aW⟩).1) → Calls Tryd.prog 8 #[.slice A n c, .int .i64 1] u (fun e w' => ∃ V k d, e = .returned (.tuple #[.agg #[.int .i64 aM, .int .i64 aR, .int .i64 aN, .int .i64 aB, .int .i64 aC, .int .i64 aT, .int .i64 aU, .int .i64 aS, .int .i64 aK, .int .i64 aL, .int .i64 aQ, .string aY, .string aV, .int .i64 aZ, .slice V k d, .int .i64 aE, .int .i64 aG, .int .i64 aW], .int .i64 0]) ∧ Rs w' V k d al ∧ Below u.heap.size u w') := fun hp A n c u h hrd => by
    have hl := hrd.len
    rw [length_cs] at hl
    have h3 := hR _ A n c 1 u (hTW.below h) hrd (down_lt hp.2) (by have h4 := down_len hp.2; omega)
    rw [reads_old1 hp.1 (hp.2 hp.1)] at h3
    exact h3.mono fun _ _ h => h.mg
  have hy2 : (refDown ⟨aM, (aR, aN), (aB, aC), (aT, aU), aS, ⟨aK, aL, aQ, aY, aV, aZ⟩, ⟨al, aE, aG⟩, aW⟩).2 = 0 ∧ ((refDown ⟨aM, (aR, aN), (aB, aC), (aT, aU), aS, ⟨aK, aL, aQ, aY, aV, aZ⟩, ⟨al, aE, aG⟩, aW⟩).2 = 0 → Fit (oldMg ⟨aM, (aR, aN), (aB, aC), (aT, aU), aS, ⟨aK, aL, aQ, aY, aV, aZ⟩, ⟨al, aE, aG⟩, aW⟩)) → ∀ (A : Option Addr) (n c : Nat) (u : World), Below W.heap.size W u → Rd u A n c (cs (refDown ⟨aM, (aR, aN), (aB, aC), (aT, aU), aS, ⟨aK, aL, aQ, aY, aV, aZ⟩, ⟨al, aE, aG⟩, aW⟩).1) → Calls Tryd.prog 8 #[.slice A n c, .int .i64 2] u (fun e w' => ∃ V k d, e = .returned (.tuple #[.agg #[.int .i64 aM, .int .i64 aR, .int .i64 aN, .int .i64 aB, .int .i64 aC, .int .i64 aT, .int .i64 aU, .int .i64 aS, .int .i64 aK, .int .i64 aL, .int .i64 aQ, .string aY, .string aV, .int .i64 aZ, .slice V k d, .int .i64 aE, .int .i64 aG, .int .i64 aW], .int .i64 0]) ∧ Rs w' V k d al ∧ Below u.heap.size u w') := fun hp A n c u h hrd => by
    have hl := hrd.len
    rw [length_cs] at hl
    have h3 := hR _ A n c 2 u (hTW.below h) hrd (down_lt hp.2) (by have h4 := down_len hp.2; omega)
    rw [reads_old2 hp.1 (hp.2 hp.1)] at h3
    exact h3.mono fun _ _ h => h.mg
  have hss := fun V1 n1 c1 V2 n2 c2 w (h : Rs w V1 n1 c1 al) (h' : Rs w V2 n2 c2 al) => ownsame_any aM aR aN aB aC aT aU aS aK aL aQ aY aV aZ V1 n1 c1 aE aG aW al aM aR aN aB aC aT aU aS aK aL aQ aY aV aZ V2 n2 c2 aE aG aW al w h h'
  rw [msame_refl] at hss
  have hpr := put_right (m := ⟨aM, (aR, aN), (aB, aC), (aT, aU), aS, ⟨aK, aL, aQ, aY, aV, aZ⟩, ⟨al, aE, aG⟩, aW⟩)
  have hd2 := down_two (m := ⟨aM, (aR, aN), (aB, aC), (aT, aU), aS, ⟨aK, aL, aQ, aY, aV, aZ⟩, ⟨al, aE, aG⟩, aW⟩)
  unfold DownIs at hdn
  unfold PutsMg at hpt
  generalize great ⟨aM, (aR, aN), (aB, aC), (aT, aU), aS, ⟨aK, aL, aQ, aY, aV, aZ⟩, ⟨al, aE, aG⟩, aW⟩ = ga at HG1
  obtain ⟨pl, hpl⟩ : ∃ l, (if mright ⟨aM, (aR, aN), (aB, aC), (aT, aU), aS, ⟨aK, aL, aQ, aY, aV, aZ⟩, ⟨al, aE, aG⟩, aW⟩ = true then frame 2 (form (mgIt ⟨aM, (aR, aN), (aB, aC), (aT, aU), aS, ⟨aK, aL, aQ, aY, aV, aZ⟩, ⟨al, aE, aG⟩, aW⟩)) else []) = l := ⟨_, rfl⟩
  rw [hpl] at hpt hpr
  clear hpl
  generalize mchk ⟨aM, (aR, aN), (aB, aC), (aT, aU), aS, ⟨aK, aL, aQ, aY, aV, aZ⟩, ⟨al, aE, aG⟩, aW⟩ = mi at hpt hpr
  generalize mgIt ⟨aM, (aR, aN), (aB, aC), (aT, aU), aS, ⟨aK, aL, aQ, aY, aV, aZ⟩, ⟨al, aE, aG⟩, aW⟩ = X at hpt hpr hx1 hx2
  generalize mright ⟨aM, (aR, aN), (aB, aC), (aT, aU), aS, ⟨aK, aL, aQ, aY, aV, aZ⟩, ⟨al, aE, aG⟩, aW⟩ = ra at hpt hpr hx1 hx2 hd2
  obtain ⟨⟨dl, dn⟩, hd⟩ : ∃ r, refDown ⟨aM, (aR, aN), (aB, aC), (aT, aU), aS, ⟨aK, aL, aQ, aY, aV, aZ⟩, ⟨al, aE, aG⟩, aW⟩ = r := ⟨_, rfl⟩
  rw [hd] at hdn hy1 hy2 hd2
  clear hd
  simp only at hdn hy1 hy2 hd2
  have HDN := Lib.hid hdn
  have HPT := Lib.hid hpt
  have HX1 := Lib.hid hx1
  have HX2 := Lib.hid hx2
  have HY1 := Lib.hid hy1
  have HY2 := Lib.hid hy2
  have HSS := Lib.hid hss
  have HPR := Lib.hid hpr
  have HD2 := Lib.hid hd2
  clear hdn hpt hx1 hx2 hy1 hy2 hss hpr hd2 haW hTW k1 hbb hW ha hT hD hU hR
  go_enter Tryd.func3, Tryd.ntmps3
  go_upto_region 1 with fail
  rw [HW.out]
  go_wp2_with (with_reducible refine wpList_load_blk_w 32 _ rfl w.heap.size 32 #[.int .i64 aM, .int .i64 aR, .int .i64 aN, .int .i64 aB, .int .i64 aC, .int .i64 aT, .int .i64 aU, .int .i64 aS, .int .i64 aK, .int .i64 aL, .int .i64 aQ, .string aY, .string aV, .int .i64 aZ, .slice aA an ac, .int .i64 aE, .int .i64 aG, .int .i64 aW] _ ?_ ?_ (HKa.out.bel HC.out) Tryd.underlying32 ?_ ?_ ?_; (focus kernel_rfl); (focus kernel_rfl); (focus rfl); (focus kernel_rfl))
  refine (HG1.out _ (HRa.out.below HC.out)).mono ?_
  rintro e u1 ⟨rfl, hb1⟩
  replace HC := Lib.hid (bel_trans HC.out hb1)
  clear hb1
  cases ga with
  | true =>
    go_wp2_with fail
    refine (HAW.out _ HC.out).mono ?_
    rintro e uz ⟨rfl, hb1⟩
    replace HC := Lib.hid (bel_trans HC.out hb1)
    clear hb1
    go_wp2_with fail
    go_ret
    exact ⟨rfl, HB.out.trans (HC.out.mono HB.out.size)⟩
  | false =>
    go_wp2_with (with_reducible refine wpList_load_blk_w 32 _ rfl w.heap.size 32 #[.int .i64 aM, .int .i64 aR, .int .i64 aN, .int .i64 aB, .int .i64 aC, .int .i64 aT, .int .i64 aU, .int .i64 aS, .int .i64 aK, .int .i64 aL, .int .i64 aQ, .string aY, .string aV, .int .i64 aZ, .slice aA an ac, .int .i64 aE, .int .i64 aG, .int .i64 aW] _ ?_ ?_ (HKa.out.bel HC.out) Tryd.underlying32 ?_ ?_ ?_; (focus kernel_rfl); (focus kernel_rfl); (focus rfl); (focus kernel_rfl))
    refine (HPT.out _ HC.out).mono ?_
    rintro e u2 ⟨A1, n1, c1, rfl, hr1, hb1, hfx⟩
    replace HC := Lib.hid (bel_trans HC.out hb1)
    clear hb1
    cases ra with
    | false =>
      have qe : (mi != 0) = true := bne_iff_ne.2 (HPR.out.2 (by simp))
      clear hfx hr1
      go_wp2_with fail
      refine (HAW.out _ HC.out).mono ?_
      rintro e uz ⟨rfl, hb1⟩
      replace HC := Lib.hid (bel_trans HC.out hb1)
      clear hb1
      go_wp2_with fail
      go_ret
      exact ⟨rfl, HB.out.trans (HC.out.mono HB.out.size)⟩
    | true =>
      obtain ⟨rfl, rfl⟩ := HPR.out.1 (by simp)
      have HFX := Lib.hid (hfx (by simp)).1
      have HR1 := Lib.hid hr1
      have HKm := Lib.hid (HKa.out.bel HC.out)
      have HRm := Lib.hid (HRa.out.below HC.out)
      clear hfx hr1 HKa HRa HPR HPT HG1
      go_wp2_with fail
      refine (HX1.out ⟨by simp, HFX.out⟩ A1 n1 c1 _ HC.out HR1.out).mono ?_
      rintro e u3 ⟨V3, k3, d3, rfl, hrs, hb1⟩
      as_aux_lemma =>
        have hcx := bel_alloc (bel_trans HC.out hb1) (.cells #[.int .i64 0, .int .i64 0, .int .i64 0, .int .i64 0, .int .i64 0, .int .i64 0, .int .i64 0, .int .i64 0, .int .i64 0, .int .i64 0, .int .i64 0, .string ⟨#[]⟩, .string ⟨#[]⟩, .int .i64 0, .slice V3 k3 d3, .int .i64 0, .int .i64 0, .int .i64 0] 32)
        have hkx := Blk.new u3 32 #[.int .i64 0, .int .i64 0, .int .i64 0, .int .i64 0, .int .i64 0, .int .i64 0, .int .i64 0, .int .i64 0, .int .i64 0, .int .i64 0, .int .i64 0, .string ⟨#[]⟩, .string ⟨#[]⟩, .int .i64 0, .slice V3 k3 d3, .int .i64 0, .int .i64 0, .int .i64 0]
        have hrx := hrs.alloc (.cells #[.int .i64 0, .int .i64 0, .int .i64 0, .int .i64 0, .int .i64 0, .int .i64 0, .int .i64 0, .int .i64 0, .int .i64 0, .int .i64 0, .int .i64 0, .string ⟨#[]⟩, .string ⟨#[]⟩, .int .i64 0, .slice V3 k3 d3, .int .i64 0, .int .i64 0, .int .i64 0] 32)
        have hk_m := HKm.out.bel (bel_alloc hb1 (.cells #[.int .i64 0, .int .i64 0, .int .i64 0, .int .i64 0, .int .i64 0, .int .i64 0, .int .i64 0, .int .i64 0, .int .i64 0, .int .i64 0, .int .i64 0, .string ⟨#[]⟩, .string ⟨#[]⟩, .int .i64 0, .slice V3 k3 d3, .int .i64 0, .int .i64 0, .int .i64 0] 32))
        have hr_1 := HR1.out.below (bel_alloc hb1 (.cells #[.int .i64 0, .int .i64 0, .int .i64 0, .int .i64 0, .int .i64 0, .int .i64 0, .int .i64 0, .int .i64 0, .int .i64 0, .int .i64 0, .int .i64 0, .string ⟨#[]⟩, .string ⟨#[]⟩, .int .i64 0, .slice V3 k3 d3, .int .i64 0, .int .i64 0, .int .i64 0] 32))
        have hr_m := HRm.out.below (bel_alloc hb1 (.cells #[.int .i64 0, .int .i64 0, .int .i64 0, .int .i64 0, .int .i64 0, .int .i64 0, .int .i64 0, .int .i64 0, .int .i64 0, .int .i64 0, .int .i64 0, .string ⟨#[]⟩, .string ⟨#[]⟩, .int .i64 0, .slice V3 k3 d3, .int .i64 0, .int .i64 0, .int .i64 0] 32))
        obtain ⟨g3, hg⟩ : ∃ g, u3.heap.size = g := ⟨_, rfl⟩
        obtain ⟨U3, hU⟩ : ∃ v, u3.alloc (.cells #[.int .i64 0, .int .i64 0, .int .i64 0, .int .i64 0, .int .i64 0, .int .i64 0, .int .i64 0, .int .i64 0, .int .i64 0, .int .i64 0, .int .i64 0, .string ⟨#[]⟩, .string ⟨#[]⟩, .int .i64 0, .slice V3 k3 d3, .int .i64 0, .int .i64 0, .int .i64 0] 32) = v := ⟨_, rfl⟩
        rw [hU] at hcx hkx hrx hk_m hr_1 hr_m
        rw [hg] at hkx
        have HU3 := Lib.hid hU
        have HG3 := Lib.hid hg
        replace HC := Lib.hid hcx
        have HK3 := Lib.hid hkx
        have HR3 := Lib.hid hrx
        replace HKm := Lib.hid hk_m
        replace HR1 := Lib.hid hr_1
        replace HRm := Lib.hid hr_m
        clear hcx hkx hrx hU hg hb1 hrs hk_m hr_1 hr_m
        go_upto_region 7 with fail
        rw [HU3.out, HG3.out]
        go_wp2_with fail
        refine (HX2.out ⟨by simp, HFX.out⟩ A1 n1 c1 _ HC.out HR1.out).mono ?_
        rintro e u4 ⟨V4, k4, d4, rfl, hrs, hb1⟩
        clear HK3 HR3
        as_aux_lemma =>
          have hcx := bel_alloc (bel_trans HC.out hb1) (.cells #[.int .i64 aM, .int .i64 aR, .int .i64 aN, .int .i64 aB, .int .i64 aC, .int .i64 aT, .int .i64 aU, .int .i64 aS, .int .i64 aK, .int .i64 aL, .int .i64 aQ, .string aY, .string aV, .int .i64 aZ, .slice V4 k4 d4, .int .i64 aE, .int .i64 aG, .int .i64 aW] 32)
          have hkx := Blk.new u4 32 #[.int .i64 aM, .int .i64 aR, .int .i64 aN, .int .i64 aB, .int .i64 aC, .int .i64 aT, .int .i64 aU, .int .i64 aS, .int .i64 aK, .int .i64 aL, .int .i64 aQ, .string aY, .string aV, .int .i64 aZ, .slice V4 k4 d4, .int .i64 aE, .int .i64 aG, .int .i64 aW]
          have hrx := hrs.alloc (.cells #[.int .i64 aM, .int .i64 aR, .int .i64 aN, .int .i64 aB, .int .i64 aC, .int .i64 aT, .int .i64 aU, .int .i64 aS, .int .i64 aK, .int .i64 aL, .int .i64 aQ, .string aY, .string aV, .int .i64 aZ, .slice V4 k4 d4, .int .i64 aE, .int .i64 aG, .int .i64 aW] 32)
          have hk_m := HKm.out.bel (bel_alloc hb1 (.cells #[.int .i64 aM, .int .i64 aR, .int .i64 aN, .int .i64 aB, .int .i64 aC, .int .i64 aT, .int .i64 aU, .int .i64 aS, .int .i64 aK, .int .i64 aL, .int .i64 aQ, .string aY, .string aV, .int .i64 aZ, .slice V4 k4 d4, .int .i64 aE, .int .i64 aG, .int .i64 aW] 32))
          have hr_m := HRm.out.below (bel_alloc hb1 (.cells #[.int .i64 aM, .int .i64 aR, .int .i64 aN, .int .i64 aB, .int .i64 aC, .int .i64 aT, .int .i64 aU, .int .i64 aS, .int .i64 aK, .int .i64 aL, .int .i64 aQ, .string aY, .string aV, .int .i64 aZ, .slice V4 k4 d4, .int .i64 aE, .int .i64 aG, .int .i64 aW] 32))
          obtain ⟨g4, hg⟩ : ∃ g, u4.heap.size = g := ⟨_, rfl⟩
          obtain ⟨U4, hU⟩ : ∃ v, u4.alloc (.cells #[.int .i64 aM, .int .i64 aR, .int .i64 aN, .int .i64 aB, .int .i64 aC, .int .i64 aT, .int .i64 aU, .int .i64 aS, .int .i64 aK, .int .i64 aL, .int .i64 aQ, .string aY, .string aV, .int .i64 aZ, .slice V4 k4 d4, .int .i64 aE, .int .i64 aG, .int .i64 aW] 32) = v := ⟨_, rfl⟩
          rw [hU] at hcx hkx hrx hk_m hr_m
          rw [hg] at hkx
          have HU4 := Lib.hid hU
          have HG4 := Lib.hid hg
          replace HC := Lib.hid hcx
          have HK4 := Lib.hid hkx
          have HR4 := Lib.hid hrx
          replace HKm := Lib.hid hk_m
          replace HRm := Lib.hid hr_m
          clear hcx hkx hrx hU hg hb1 hrs hk_m hr_m
          go_upto_region 8 with fail
          rw [HU4.out, HG4.out]
          go_wp2_with (first | ((with_reducible refine wpList_load_blk_w 32 _ rfl w.heap.size 32 #[.int .i64 aM, .int .i64 aR, .int .i64 aN, .int .i64 aB, .int .i64 aC, .int .i64 aT, .int .i64 aU, .int .i64 aS, .int .i64 aK, .int .i64 aL, .int .i64 aQ, .string aY, .string aV, .int .i64 aZ, .slice aA an ac, .int .i64 aE, .int .i64 aG, .int .i64 aW] _ ?_ ?_ HKm.out Tryd.underlying32 ?_ ?_ ?_); (focus rfl); (focus kernel_rfl); (focus rfl); (focus kernel_rfl)) | ((with_reducible refine wpList_load_blk_w 32 _ rfl g4 32 #[.int .i64 aM, .int .i64 aR, .int .i64 aN, .int .i64 aB, .int .i64 aC, .int .i64 aT, .int .i64 aU, .int .i64 aS, .int .i64 aK, .int .i64 aL, .int .i64 aQ, .string aY, .string aV, .int .i64 aZ, .slice V4 k4 d4, .int .i64 aE, .int .i64 aG, .int .i64 aW] _ ?_ ?_ HK4.out Tryd.underlying32 ?_ ?_ ?_); (focus rfl); (focus kernel_rfl); (focus rfl); (focus kernel_rfl)))
          refine (HSS.out aA an ac V4 k4 d4 _ HRm.out HR4.out).mono ?_
          rintro e u5 ⟨rfl, hb1⟩
          replace HC := Lib.hid (bel_trans HC.out hb1)
          replace HKm := Lib.hid (HKm.out.bel hb1)
          replace HRm := Lib.hid (HRm.out.below hb1)
          clear hb1 HK4 HR4 HX1 HX2 HFX HR1
          go_wp2_with (with_reducible refine wpList_load_blk_w 32 _ rfl w.heap.size 32 #[.int .i64 aM, .int .i64 aR, .int .i64 aN, .int .i64 aB, .int .i64 aC, .int .i64 aT, .int .i64 aU, .int .i64 aS, .int .i64 aK, .int .i64 aL, .int .i64 aQ, .string aY, .string aV, .int .i64 aZ, .slice aA an ac, .int .i64 aE, .int .i64 aG, .int .i64 aW] _ ?_ ?_ HKm.out Tryd.underlying32 ?_ ?_ ?_; (focus kernel_rfl); (focus kernel_rfl); (focus rfl); (focus kernel_rfl))
          refine (HDN.out _ HC.out).mono ?_
          rintro e u6 ⟨A2, n2, c2, rfl, hr2, hb1, hfo⟩
          replace HC := Lib.hid (bel_trans HC.out hb1)
          replace HKm := Lib.hid (HKm.out.bel hb1)
          replace HRm := Lib.hid (HRm.out.below hb1)
          have HR2 := Lib.hid hr2
          have HFO := Lib.hid hfo
          clear hb1 hr2 hfo HDN
          rcases HD2.out (by simp) with hd0 | hd7
          · have HP := Lib.hid (And.intro hd0 HFO.out)
            have hdi : (dn : Int) = 0 := by omega
            rw [hdi]
            clear hd0 hdi HFO HD2
            go_wp2_with fail
            refine (HY1.out HP.out A2 n2 c2 _ HC.out HR2.out).mono ?_
            rintro e u7 ⟨V7, k7, d7, rfl, hrs, hb1⟩
            as_aux_lemma =>
              have hcx := bel_alloc (bel_trans HC.out hb1) (.cells #[.int .i64 aM, .int .i64 aR, .int .i64 aN, .int .i64 aB, .int .i64 aC, .int .i64 aT, .int .i64 aU, .int .i64 aS, .int .i64 aK, .int .i64 aL, .int .i64 aQ, .string aY, .string aV, .int .i64 aZ, .slice V7 k7 d7, .int .i64 aE, .int .i64 aG, .int .i64 aW] 32)
              have hkx := Blk.new u7 32 #[.int .i64 aM, .int .i64 aR, .int .i64 aN, .int .i64 aB, .int .i64 aC, .int .i64 aT, .int .i64 aU, .int .i64 aS, .int .i64 aK, .int .i64 aL, .int .i64 aQ, .string aY, .string aV, .int .i64 aZ, .slice V7 k7 d7, .int .i64 aE, .int .i64 aG, .int .i64 aW]
              have hrx := hrs.alloc (.cells #[.int .i64 aM, .int .i64 aR, .int .i64 aN, .int .i64 aB, .int .i64 aC, .int .i64 aT, .int .i64 aU, .int .i64 aS, .int .i64 aK, .int .i64 aL, .int .i64 aQ, .string aY, .string aV, .int .i64 aZ, .slice V7 k7 d7, .int .i64 aE, .int .i64 aG, .int .i64 aW] 32)
              have hk_m := HKm.out.bel (bel_alloc hb1 (.cells #[.int .i64 aM, .int .i64 aR, .int .i64 aN, .int .i64 aB, .int .i64 aC, .int .i64 aT, .int .i64 aU, .int .i64 aS, .int .i64 aK, .int .i64 aL, .int .i64 aQ, .string aY, .string aV, .int .i64 aZ, .slice V7 k7 d7, .int .i64 aE, .int .i64 aG, .int .i64 aW] 32))
              have hr_2 := HR2.out.below (bel_alloc hb1 (.cells #[.int .i64 aM, .int .i64 aR, .int .i64 aN, .int .i64 aB, .int .i64 aC, .int .i64 aT, .int .i64 aU, .int .i64 aS, .int .i64 aK, .int .i64 aL, .int .i64 aQ, .string aY, .string aV, .int .i64 aZ, .slice V7 k7 d7, .int .i64 aE, .int .i64 aG, .int .i64 aW] 32))
              have hr_m := HRm.out.below (bel_alloc hb1 (.cells #[.int .i64 aM, .int .i64 aR, .int .i64 aN, .int .i64 aB, .int .i64 aC, .int .i64 aT, .int .i64 aU, .int .i64 aS, .int .i64 aK, .int .i64 aL, .int .i64 aQ, .string aY, .string aV, .int .i64 aZ, .slice V7 k7 d7, .int .i64 aE, .int .i64 aG, .int .i64 aW] 32))
              obtain ⟨g7, hg⟩ : ∃ g, u7.heap.size = g := ⟨_, rfl⟩
              obtain ⟨U7, hU⟩ : ∃ v, u7.alloc (.cells #[.int .i64 aM, .int .i64 aR, .int .i64 aN, .int .i64 aB, .int .i64 aC, .int .i64 aT, .int .i64 aU, .int .i64 aS, .int .i64 aK, .int .i64 aL, .int .i64 aQ, .string aY, .string aV, .int .i64 aZ, .slice V7 k7 d7, .int .i64 aE, .int .i64 aG, .int .i64 aW] 32) = v := ⟨_, rfl⟩
              rw [hU] at hcx hkx hrx hk_m hr_2 hr_m
              rw [hg] at hkx
              have HU7 := Lib.hid hU
              have HG7 := Lib.hid hg
              replace HC := Lib.hid hcx
              have HK7 := Lib.hid hkx
              have HR7 := Lib.hid hrx
              replace HKm := Lib.hid hk_m
              replace HR2 := Lib.hid hr_2
              replace HRm := Lib.hid hr_m
              clear hcx hkx hrx hU hg hb1 hrs hk_m hr_2 hr_m
              go_upto_region 14 with fail
              rw [HU7.out, HG7.out]
              go_wp2_with fail
              refine (HY2.out HP.out A2 n2 c2 _ HC.out HR2.out).mono ?_
              rintro e u8 ⟨V8, k8, d8, rfl, hrs, hb1⟩
              as_aux_lemma =>
                have hcx := bel_alloc (bel_trans HC.out hb1) (.cells #[.int .i64 aM, .int .i64 aR, .int .i64 aN, .int .i64 aB, .int .i64 aC, .int .i64 aT, .int .i64 aU, .int .i64 aS, .int .i64 aK, .int .i64 aL, .int .i64 aQ, .string aY, .string aV, .int .i64 aZ, .slice V8 k8 d8, .int .i64 aE, .int .i64 aG, .int .i64 aW] 32)
                have hkx := Blk.new u8 32 #[.int .i64 aM, .int .i64 aR, .int .i64 aN, .int .i64 aB, .int .i64 aC, .int .i64 aT, .int .i64 aU, .int .i64 aS, .int .i64 aK, .int .i64 aL, .int .i64 aQ, .string aY, .string aV, .int .i64 aZ, .slice V8 k8 d8, .int .i64 aE, .int .i64 aG, .int .i64 aW]
                have hrx := hrs.alloc (.cells #[.int .i64 aM, .int .i64 aR, .int .i64 aN, .int .i64 aB, .int .i64 aC, .int .i64 aT, .int .i64 aU, .int .i64 aS, .int .i64 aK, .int .i64 aL, .int .i64 aQ, .string aY, .string aV, .int .i64 aZ, .slice V8 k8 d8, .int .i64 aE, .int .i64 aG, .int .i64 aW] 32)
                have hk_m := HKm.out.bel (bel_alloc hb1 (.cells #[.int .i64 aM, .int .i64 aR, .int .i64 aN, .int .i64 aB, .int .i64 aC, .int .i64 aT, .int .i64 aU, .int .i64 aS, .int .i64 aK, .int .i64 aL, .int .i64 aQ, .string aY, .string aV, .int .i64 aZ, .slice V8 k8 d8, .int .i64 aE, .int .i64 aG, .int .i64 aW] 32))
                have hk_7 := HK7.out.bel (bel_alloc hb1 (.cells #[.int .i64 aM, .int .i64 aR, .int .i64 aN, .int .i64 aB, .int .i64 aC, .int .i64 aT, .int .i64 aU, .int .i64 aS, .int .i64 aK, .int .i64 aL, .int .i64 aQ, .string aY, .string aV, .int .i64 aZ, .slice V8 k8 d8, .int .i64 aE, .int .i64 aG, .int .i64 aW] 32))
                have hr_m := HRm.out.below (bel_alloc hb1 (.cells #[.int .i64 aM, .int .i64 aR, .int .i64 aN, .int .i64 aB, .int .i64 aC, .int .i64 aT, .int .i64 aU, .int .i64 aS, .int .i64 aK, .int .i64 aL, .int .i64 aQ, .string aY, .string aV, .int .i64 aZ, .slice V8 k8 d8, .int .i64 aE, .int .i64 aG, .int .i64 aW] 32))
                have hr_7 := HR7.out.below (bel_alloc hb1 (.cells #[.int .i64 aM, .int .i64 aR, .int .i64 aN, .int .i64 aB, .int .i64 aC, .int .i64 aT, .int .i64 aU, .int .i64 aS, .int .i64 aK, .int .i64 aL, .int .i64 aQ, .string aY, .string aV, .int .i64 aZ, .slice V8 k8 d8, .int .i64 aE, .int .i64 aG, .int .i64 aW] 32))
                obtain ⟨g8, hg⟩ : ∃ g, u8.heap.size = g := ⟨_, rfl⟩
                obtain ⟨U8, hU⟩ : ∃ v, u8.alloc (.cells #[.int .i64 aM, .int .i64 aR, .int .i64 aN, .int .i64 aB, .int .i64 aC, .int .i64 aT, .int .i64 aU, .int .i64 aS, .int .i64 aK, .int .i64 aL, .int .i64 aQ, .string aY, .string aV, .int .i64 aZ, .slice V8 k8 d8, .int .i64 aE, .int .i64 aG, .int .i64 aW] 32) = v := ⟨_, rfl⟩
                rw [hU] at hcx hkx hrx hk_m hk_7 hr_m hr_7
                rw [hg] at hkx
                have HU8 := Lib.hid hU
                have HG8 := Lib.hid hg
                replace HC := Lib.hid hcx
                have HK8 := Lib.hid hkx
                have HR8 := Lib.hid hrx
                replace HKm := Lib.hid hk_m
                replace HK7 := Lib.hid hk_7
                replace HRm := Lib.hid hr_m
                replace HR7 := Lib.hid hr_7
                clear hcx hkx hrx hU hg hb1 hrs hk_m hk_7 hr_m hr_7
                go_upto_region 15 with fail
                rw [HU8.out, HG8.out]
                have HC8 := HC
                clear HC
                have HC := Lib.hid (Below.refl U8.heap.size U8)
                go_wp2_with (first | ((with_reducible refine wpList_load_blk_w 32 _ rfl w.heap.size 32 #[.int .i64 aM, .int .i64 aR, .int .i64 aN, .int .i64 aB, .int .i64 aC, .int .i64 aT, .int .i64 aU, .int .i64 aS, .int .i64 aK, .int .i64 aL, .int .i64 aQ, .string aY, .string aV, .int .i64 aZ, .slice aA an ac, .int .i64 aE, .int .i64 aG, .int .i64 aW] _ ?_ ?_ (HKm.out.bel HC.out) Tryd.underlying32 ?_ ?_ ?_); (focus rfl); (focus kernel_rfl); (focus rfl); (focus kernel_rfl)) | ((with_reducible refine wpList_load_blk_w 32 _ rfl g7 32 #[.int .i64 aM, .int .i64 aR, .int .i64 aN, .int .i64 aB, .int .i64 aC, .int .i64 aT, .int .i64 aU, .int .i64 aS, .int .i64 aK, .int .i64 aL, .int .i64 aQ, .string aY, .string aV, .int .i64 aZ, .slice V7 k7 d7, .int .i64 aE, .int .i64 aG, .int .i64 aW] _ ?_ ?_ (HK7.out.bel HC.out) Tryd.underlying32 ?_ ?_ ?_); (focus rfl); (focus kernel_rfl); (focus rfl); (focus kernel_rfl)) | ((with_reducible refine wpList_load_blk_w 32 _ rfl g8 32 #[.int .i64 aM, .int .i64 aR, .int .i64 aN, .int .i64 aB, .int .i64 aC, .int .i64 aT, .int .i64 aU, .int .i64 aS, .int .i64 aK, .int .i64 aL, .int .i64 aQ, .string aY, .string aV, .int .i64 aZ, .slice V8 k8 d8, .int .i64 aE, .int .i64 aG, .int .i64 aW] _ ?_ ?_ (HK8.out.bel HC.out) Tryd.underlying32 ?_ ?_ ?_); (focus rfl); (focus kernel_rfl); (focus rfl); (focus kernel_rfl)))
                refine (HSS.out V7 k7 d7 aA an ac _ (HR7.out.below HC.out) (HRm.out.below HC.out)).mono ?_
                rintro e u9 ⟨rfl, hb1⟩
                replace HC := Lib.hid (bel_trans HC.out hb1)
                clear hb1
                go_wp2_with (first | ((with_reducible refine wpList_load_blk_w 32 _ rfl w.heap.size 32 #[.int .i64 aM, .int .i64 aR, .int .i64 aN, .int .i64 aB, .int .i64 aC, .int .i64 aT, .int .i64 aU, .int .i64 aS, .int .i64 aK, .int .i64 aL, .int .i64 aQ, .string aY, .string aV, .int .i64 aZ, .slice aA an ac, .int .i64 aE, .int .i64 aG, .int .i64 aW] _ ?_ ?_ (HKm.out.bel HC.out) Tryd.underlying32 ?_ ?_ ?_); (focus rfl); (focus kernel_rfl); (focus rfl); (focus kernel_rfl)) | ((with_reducible refine wpList_load_blk_w 32 _ rfl g7 32 #[.int .i64 aM, .int .i64 aR, .int .i64 aN, .int .i64 aB, .int .i64 aC, .int .i64 aT, .int .i64 aU, .int .i64 aS, .int .i64 aK, .int .i64 aL, .int .i64 aQ, .string aY, .string aV, .int .i64 aZ, .slice V7 k7 d7, .int .i64 aE, .int .i64 aG, .int .i64 aW] _ ?_ ?_ (HK7.out.bel HC.out) Tryd.underlying32 ?_ ?_ ?_); (focus rfl); (focus kernel_rfl); (focus rfl); (focus kernel_rfl)) | ((with_reducible refine wpList_load_blk_w 32 _ rfl g8 32 #[.int .i64 aM, .int .i64 aR, .int .i64 aN, .int .i64 aB, .int .i64 aC, .int .i64 aT, .int .i64 aU, .int .i64 aS, .int .i64 aK, .int .i64 aL, .int .i64 aQ, .string aY, .string aV, .int .i64 aZ, .slice V8 k8 d8, .int .i64 aE, .int .i64 aG, .int .i64 aW] _ ?_ ?_ (HK8.out.bel HC.out) Tryd.underlying32 ?_ ?_ ?_); (focus rfl); (focus kernel_rfl); (focus rfl); (focus kernel_rfl)))
                refine (HSS.out V8 k8 d8 aA an ac _ (HR8.out.below HC.out) (HRm.out.below HC.out)).mono ?_
                rintro e ua ⟨rfl, hb1⟩
                replace HC := Lib.hid (bel_trans HC.out hb1)
                clear hb1
                go_wp2_with fail
                refine (HAW.out _ (HC8.out.trans (HC.out.mono HC8.out.size))).mono ?_
                rintro e uz ⟨rfl, hb1⟩
                replace HC := Lib.hid (bel_trans HC.out hb1)
                clear hb1
                go_wp2_with fail
                go_ret
                exact ⟨rfl, HB.out.trans ((HC8.out.trans (HC.out.mono HC8.out.size)).mono HB.out.size)⟩
          · have hdi : (dn : Int) = 17 := by omega
            rw [hdi]
            clear hd7 hdi HFO HD2
            go_wp2_with fail
            refine (HAW.out _ HC.out).mono ?_
            rintro e uz ⟨rfl, hb1⟩
            replace HC := Lib.hid (bel_trans HC.out hb1)
            clear hb1
            go_wp2_with fail
            go_ret
            exact ⟨rfl, HB.out.trans (HC.out.mono HB.out.size)⟩
end Go.Proofs.YthlhchaoedcdbaaDoor.Mg
