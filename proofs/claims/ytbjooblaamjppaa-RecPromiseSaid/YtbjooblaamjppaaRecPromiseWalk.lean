/-
  Texts of earlier layers, as one.
-/
import Derived.Test.YtbjooblaamjppaaRecAwake
import Derived.Test.YtbjooblaamjppaaRecOld
import Derived.Deep.Cut
/- RecPromise answers true. -/
namespace Go.Proofs.Ytbjooblaamjppaa.Rk
theorem promise {i : Int × Int} {st : Int} {b t : Int × Int} {m : Cmd.Cm} {x : Att.At} {d : Int} (h : rgt ⟨i, st, b, t, m, x⟩ = true) (hb : b.1 ≤ 549755813888) (h0 : b.1 < d) (h1 : d ≤ b.1 + 256) :
    rgt ⟨i, st, (d, b.2), t, m, x⟩ = true ∧ goes ⟨i, st, b, t, m, x⟩ ⟨i, st, (d, b.2), t, m, x⟩ = true ∧ goes ⟨i, st, (d, b.2), t, m, x⟩ ⟨i, st, b, t, m, x⟩ = false ∧ rsame ⟨i, st, b, t, m, x⟩ ⟨i, st, (d, b.2), t, m, x⟩ = false ∧ (recOld ⟨i, st, b, t, m, x⟩).2 = (recOld ⟨i, st, (d, b.2), t, m, x⟩).2 := by
  have hs : rgt ⟨i, st, (d, b.2), t, m, x⟩ = true := by
    unfold rgt promised at h ⊢
    simp only [Bool.and_eq_true] at h ⊢
    obtain ⟨⟨e1, ⟨e2, e3⟩, e4⟩, e5⟩ := h
    refine ⟨⟨e1, ⟨?_, e3⟩, ?_⟩, e5⟩
    · simp [Bal.right] at e2 ⊢
      omega
    · simp [Bal.less] at e4 ⊢
      omega
  have hl : Bal.less b (d, b.2) = true := by simp [Bal.less]; omega
  refine ⟨hs, ?_, ?_, ?_, ?_⟩
  · exact goes_iff.2 ⟨rfl, Bal.less_asymm hl, less_irrefl _, fun e => ⟨e, rfl, rfl⟩⟩
  · cases hg : goes ⟨i, st, (d, b.2), t, m, x⟩ ⟨i, st, b, t, m, x⟩ with
    | false => rfl
    | true =>
      have := (goes_iff.1 hg).2.1
      rw [show Bal.less (⟨i, st, b, t, m, x⟩ : Rc).bl (⟨i, st, (d, b.2), t, m, x⟩ : Rc).bl = true from hl] at this
      cases this
  · cases hg : rsame ⟨i, st, b, t, m, x⟩ ⟨i, st, (d, b.2), t, m, x⟩ with
    | false => rfl
    | true =>
      have e := congrArg (fun r => r.bl.1) (rsame_iff.1 hg)
      simp only at e
      omega
  · unfold recOld
    rw [if_pos h, if_pos hs]
    split <;> rfl
open Go.RowKit Mem Ids Att Cod

set_option maxRecDepth 100000 in
set_option maxHeartbeats 16000000 in
theorem recpromise_true (aR aN aS aB aC aT aU aK aL aQ : Int) (aY aV : ByteArray) (aZ : Int) (aA : Option Addr) (an ac : Nat) (aE aG : Int) (al : List (Int × Int)) (k : Int) (w : World) (ha : Rs w aA an ac al) (hk0 : 0 ≤ k) (hk1 : k ≤ 255) :
    Calls Try.prog 5 #[.agg #[.int .i64 aR, .int .i64 aN, .int .i64 aS, .int .i64 aB, .int .i64 aC, .int .i64 aT, .int .i64 aU, .int .i64 aK, .int .i64 aL, .int .i64 aQ, .string aY, .string aV, .int .i64 aZ, .slice aA an ac, .int .i64 aE, .int .i64 aG], .int .u8 k] w (Tells true w) := by
  obtain ⟨k1, kb⟩ := box1 w 32 #[.int .i64 aR, .int .i64 aN, .int .i64 aS, .int .i64 aB, .int .i64 aC, .int .i64 aT, .int .i64 aU, .int .i64 aK, .int .i64 aL, .int .i64 aQ, .string aY, .string aV, .int .i64 aZ, .slice aA an ac, .int .i64 aE, .int .i64 aG]
  obtain ⟨W, hW⟩ : ∃ W, w.alloc (.cells #[.int .i64 aR, .int .i64 aN, .int .i64 aS, .int .i64 aB, .int .i64 aC, .int .i64 aT, .int .i64 aU, .int .i64 aK, .int .i64 aL, .int .i64 aQ, .string aY, .string aV, .int .i64 aZ, .slice aA an ac, .int .i64 aE, .int .i64 aG] 32) = W := ⟨_, rfl⟩
  rw [hW] at k1 kb
  have HKa := Lib.hid k1
  have HB := Lib.hid kb
  have HW := Lib.hid hW
  have HRa := Lib.hid (ha.below kb)
  have HAW := Lib.hid (fun w => awake_any w)
  have HG := Lib.hid (fun w (h : Rs w aA an ac al) => great_any aR aN aS aB aC aT aU aK aL aQ aY aV aZ aA an ac aE aG al w h)
  generalize (decide (al.length > 60) || Cmd.great ⟨aK, aL, aQ, aY, aV, aZ⟩) = ga at HG
  have hck := fun w (h : Rs w aA an ac al) => rcheck_any aR aN aS aB aC aT aU aK aL aQ aY aV aZ aA an ac aE aG al w h
  have hrg : rchk ⟨(aR, aN), aS, (aB, aC), (aT, aU), ⟨aK, aL, aQ, aY, aV, aZ⟩, ⟨al, aE, aG⟩⟩ = 0 → rgt ⟨(aR, aN), aS, (aB, aC), (aT, aU), ⟨aK, aL, aQ, aY, aV, aZ⟩, ⟨al, aE, aG⟩⟩ = true := by
    intro h
    unfold rchk at h
    split at h
    · assumption
    · cases h
  generalize rchk ⟨(aR, aN), aS, (aB, aC), (aT, aU), ⟨aK, aL, aQ, aY, aV, aZ⟩, ⟨al, aE, aG⟩⟩ = v at hck hrg
  have HCK := Lib.hid hck
  have HRG := Lib.hid hrg
  have HC := Lib.hid (Below.refl W.heap.size W)
  have HK01 := Lib.hid (And.intro hk0 hk1)
  clear k1 kb hW ha hck hrg hk0 hk1
  go_enter Try.func5, Try.ntmps5
  go_upto_region 1 with fail
  rw [HW.out]
  go_wp2_with (first | (refine wpList_load_blk_w 32 _ rfl w.heap.size 32 #[.int .i64 aR, .int .i64 aN, .int .i64 aS, .int .i64 aB, .int .i64 aC, .int .i64 aT, .int .i64 aU, .int .i64 aK, .int .i64 aL, .int .i64 aQ, .string aY, .string aV, .int .i64 aZ, .slice aA an ac, .int .i64 aE, .int .i64 aG] _ rfl ?_ (HKa.out.bel HC.out) Try.underlying32 rfl (by kernel_rfl) ?_; (focus rfl)))
  refine (HG.out _ (HRa.out.below HC.out)).mono ?_
  rintro e u1 ⟨rfl, hb1⟩
  replace HC := Lib.hid (bel_trans HC.out hb1)
  clear hb1
  cases ga with
  | false =>
    go_wp2_with (first | (refine wpList_load_blk_w 32 _ rfl w.heap.size 32 #[.int .i64 aR, .int .i64 aN, .int .i64 aS, .int .i64 aB, .int .i64 aC, .int .i64 aT, .int .i64 aU, .int .i64 aK, .int .i64 aL, .int .i64 aQ, .string aY, .string aV, .int .i64 aZ, .slice aA an ac, .int .i64 aE, .int .i64 aG] _ rfl ?_ (HKa.out.bel HC.out) Try.underlying32 rfl (by kernel_rfl) ?_; (focus rfl)))
    refine (HCK.out _ (HRa.out.below HC.out)).mono ?_
    rintro e u2 ⟨rfl, hb1⟩
    replace HC := Lib.hid (bel_trans HC.out hb1)
    clear hb1
    by_cases hv : v = 0
    · skip
      subst hv
      obtain ⟨x0, x1, x2, x3, x4, x5, x6, x7, x8, x9, x10, x11, x12, x13, x14, x15⟩ := blk16 (HKa.out.bel HC.out)
      by_cases hB : 549755813888 < aB
      · skip
        have b1 : decide (549755813888 < aB) = true := decide_eq_true hB
        clear HRG hB
        go_wp2_with fail
        clear x0 x1 x2 x3 x4 x5 x6 x7 x8 x9 x10 x11 x12 x13 x14 x15
        refine (HAW.out _).mono ?_
        rintro e u3 ⟨rfl, hb1⟩
        replace HC := Lib.hid (bel_trans HC.out hb1)
        clear hb1
        go_wp2_with fail
        go_ret
        exact ⟨rfl, HB.out.trans (HC.out.mono HB.out.size)⟩
      · skip
        have b1 : decide (549755813888 < aB) = false := decide_eq_false hB
        go_upto_region 3 with fail
        clear b1 x0 x1 x2 x3 x4 x5 x6 x7 x8 x9 x10 x11 x12 x13 x14 x15
        have hg := HRG.out (by simp)
        have hg2 := (rgt_parts hg).2.2.2.1
        have hbb : 0 ≤ aB := by simp [Bal.right] at hg2; omega
        obtain ⟨hk0, hk1⟩ := HK01.out
        obtain ⟨aD, hD⟩ : ∃ d, aB + 1 + k = d := ⟨_, rfl⟩
        obtain ⟨f1, f2, f3, f4, f5⟩ := promise (d := aD) hg (show aB ≤ 549755813888 by omega) (show aB < aD by omega) (show aD ≤ aB + 256 by omega)
        simp only at f1 f2 f3 f4 f5
        have hc2 : ∀ w, Rs w aA an ac al → Calls Try.prog 9 #[.agg #[.int .i64 aR, .int .i64 aN, .int .i64 aS, .int .i64 aD, .int .i64 aC, .int .i64 aT, .int .i64 aU, .int .i64 aK, .int .i64 aL, .int .i64 aQ, .string aY, .string aV, .int .i64 aZ, .slice aA an ac, .int .i64 aE, .int .i64 aG]] w (Checks 0 w) := fun w h => by
          have h2 := rcheck_any aR aN aS aD aC aT aU aK aL aQ aY aV aZ aA an ac aE aG al w h
          rw [rchk, if_pos f1] at h2
          exact h2
        have hg1 := fun w (h : Rs w aA an ac al) => goes_any aR aN aS aB aC aT aU aK aL aQ aY aV aZ aA an ac aE aG al aR aN aS aD aC aT aU aK aL aQ aY aV aZ aA an ac aE aG al w h h
        have hg2' := fun w (h : Rs w aA an ac al) => goes_any aR aN aS aD aC aT aU aK aL aQ aY aV aZ aA an ac aE aG al aR aN aS aB aC aT aU aK aL aQ aY aV aZ aA an ac aE aG al w h h
        have hs1 := fun w (h : Rs w aA an ac al) => rsame_any aR aN aS aB aC aT aU aK aL aQ aY aV aZ aA an ac aE aG al aR aN aS aD aC aT aU aK aL aQ aY aV aZ aA an ac aE aG al w h h
        have ho1 := fun w (h : Rs w aA an ac al) => old_any aR aN aS aB aC aT aU aK aL aQ aY aV aZ aA an ac aE aG al w h
        have ho2 := fun w (h : Rs w aA an ac al) => old_any aR aN aS aD aC aT aU aK aL aQ aY aV aZ aA an ac aE aG al w h
        rw [f2] at hg1
        rw [f3] at hg2'
        rw [f4] at hs1
        generalize recOld ⟨(aR, aN), aS, (aB, aC), (aT, aU), ⟨aK, aL, aQ, aY, aV, aZ⟩, ⟨al, aE, aG⟩⟩ = p1 at ho1 f5
        generalize recOld ⟨(aR, aN), aS, (aD, aC), (aT, aU), ⟨aK, aL, aQ, aY, aV, aZ⟩, ⟨al, aE, aG⟩⟩ = p2 at ho2 f5
        obtain ⟨y1, e1⟩ := p1
        obtain ⟨y2, e2⟩ := p2
        simp only at f5
        subst f5
        have HC2 := Lib.hid hc2
        have HG1 := Lib.hid hg1
        have HG2 := Lib.hid hg2'
        have HS1 := Lib.hid hs1
        have HO1 := Lib.hid ho1
        have HO2 := Lib.hid ho2
        have w1 : IntKind.i64.wrap (aB + 1) = aB + 1 := wrap64 (by omega) (by omega)
        have w2 : IntKind.i64.wrap k = k := wrap64 (by omega) (by omega)
        have w3 : IntKind.i64.wrap (aB + 1 + k) = aD := by rw [wrap64 (by omega) (by omega), hD]
        clear hc2 hg1 hg2' hs1 ho1 ho2 hg hg2 f1 f2 f3 f4 hD hbb hk0 hk1 HRG HK01
        go_upto_region 4 with (first | (refine wpList_load_blk_w 32 _ rfl w.heap.size 32 #[.int .i64 aR, .int .i64 aN, .int .i64 aS, .int .i64 aB, .int .i64 aC, .int .i64 aT, .int .i64 aU, .int .i64 aK, .int .i64 aL, .int .i64 aQ, .string aY, .string aV, .int .i64 aZ, .slice aA an ac, .int .i64 aE, .int .i64 aG] _ rfl ?_ (HKa.out.bel HC.out) Try.underlying32 rfl (by kernel_rfl) ?_; (focus rfl)))
        obtain ⟨U, hU⟩ : ∃ U, u2.alloc (.cells #[.int .i64 aR, .int .i64 aN, .int .i64 aS, .int .i64 aB, .int .i64 aC, .int .i64 aT, .int .i64 aU, .int .i64 aK, .int .i64 aL, .int .i64 aQ, .string aY, .string aV, .int .i64 aZ, .slice aA an ac, .int .i64 aE, .int .i64 aG] 32) = U := ⟨_, rfl⟩
        have hks := Blk.new u2 32 #[.int .i64 aR, .int .i64 aN, .int .i64 aS, .int .i64 aB, .int .i64 aC, .int .i64 aT, .int .i64 aU, .int .i64 aK, .int .i64 aL, .int .i64 aQ, .string aY, .string aV, .int .i64 aZ, .slice aA an ac, .int .i64 aE, .int .i64 aG]
        have hkb := HC.out.alloc HC.out.size (.cells #[.int .i64 aR, .int .i64 aN, .int .i64 aS, .int .i64 aB, .int .i64 aC, .int .i64 aT, .int .i64 aU, .int .i64 aK, .int .i64 aL, .int .i64 aQ, .string aY, .string aV, .int .i64 aZ, .slice aA an ac, .int .i64 aE, .int .i64 aG] 32)
        have hsz := HC.out.size
        rw [hU] at hks hkb
        rw [hU]
        obtain ⟨x0, x1, x2, x3, x4, x5, x6, x7, x8, x9, x10, x11, x12, x13, x14, x15⟩ := blk16 hks
        have z3 := hks.soft 3
        go_upto_region 5 with fail
        have hks5 : Blk (U.setCell ⟨u2.heap.size, 3, none⟩ (.int .i64 aD)) u2.heap.size 32 #[.int .i64 aR, .int .i64 aN, .int .i64 aS, .int .i64 aD, .int .i64 aC, .int .i64 aT, .int .i64 aU, .int .i64 aK, .int .i64 aL, .int .i64 aQ, .string aY, .string aV, .int .i64 aZ, .slice aA an ac, .int .i64 aE, .int .i64 aG] := by simpa using hks.put 3 (.int .i64 aD)
        have hkb5 := hkb.setCell (p := ⟨u2.heap.size, 3, none⟩) hsz (.int .i64 aD)
        generalize U.setCell ⟨u2.heap.size, 3, none⟩ (.int .i64 aD) = W5 at hks5 hkb5 ⊢
        have HKs := Lib.hid hks5
        replace HKa := Lib.hid (HKa.out.bel hkb5)
        replace HRa := Lib.hid (HRa.out.below hkb5)
        replace HB := Lib.hid (HB.out.trans (hkb5.mono HB.out.size))
        replace HC := Lib.hid (Below.refl W5.heap.size W5)
        clear hks hkb hsz hks5 hkb5 hU z3 w1 w2 w3 x0 x1 x2 x3 x4 x5 x6 x7 x8 x9 x10 x11 x12 x13 x14 x15
        go_wp2_with (first | (refine wpList_load_blk_w 32 _ rfl w.heap.size 32 #[.int .i64 aR, .int .i64 aN, .int .i64 aS, .int .i64 aB, .int .i64 aC, .int .i64 aT, .int .i64 aU, .int .i64 aK, .int .i64 aL, .int .i64 aQ, .string aY, .string aV, .int .i64 aZ, .slice aA an ac, .int .i64 aE, .int .i64 aG] _ rfl ?_ (HKa.out.bel HC.out) Try.underlying32 rfl (by kernel_rfl) ?_; (focus rfl)) | (refine wpList_load_blk_w 32 _ rfl u2.heap.size 32 #[.int .i64 aR, .int .i64 aN, .int .i64 aS, .int .i64 aD, .int .i64 aC, .int .i64 aT, .int .i64 aU, .int .i64 aK, .int .i64 aL, .int .i64 aQ, .string aY, .string aV, .int .i64 aZ, .slice aA an ac, .int .i64 aE, .int .i64 aG] _ rfl ?_ (HKs.out.bel HC.out) Try.underlying32 rfl (by kernel_rfl) ?_; (focus rfl)))
        refine (HO1.out _ (HRa.out.below HC.out)).mono ?_
        rintro e u3 ⟨V6, c6, rfl, _, hb1⟩
        simp only
        replace HC := Lib.hid (bel_alloc (bel_trans HC.out hb1) (.cells #[.int .i64 y1.kind, .int .u64 (y1.num : Int), .string y1.str, .slice V6 y1.kids.length c6] 42))
        clear hb1
        go_upto_region 6 with fail
        go_wp2_with (first | (refine wpList_load_blk_w 32 _ rfl w.heap.size 32 #[.int .i64 aR, .int .i64 aN, .int .i64 aS, .int .i64 aB, .int .i64 aC, .int .i64 aT, .int .i64 aU, .int .i64 aK, .int .i64 aL, .int .i64 aQ, .string aY, .string aV, .int .i64 aZ, .slice aA an ac, .int .i64 aE, .int .i64 aG] _ rfl ?_ (HKa.out.bel HC.out) Try.underlying32 rfl (by kernel_rfl) ?_; (focus rfl)) | (refine wpList_load_blk_w 32 _ rfl u2.heap.size 32 #[.int .i64 aR, .int .i64 aN, .int .i64 aS, .int .i64 aD, .int .i64 aC, .int .i64 aT, .int .i64 aU, .int .i64 aK, .int .i64 aL, .int .i64 aQ, .string aY, .string aV, .int .i64 aZ, .slice aA an ac, .int .i64 aE, .int .i64 aG] _ rfl ?_ (HKs.out.bel HC.out) Try.underlying32 rfl (by kernel_rfl) ?_; (focus rfl)))
        refine (HO2.out _ (HRa.out.below HC.out)).mono ?_
        rintro e u4 ⟨V7, c7, rfl, _, hb1⟩
        simp only
        replace HC := Lib.hid (bel_alloc (bel_trans HC.out hb1) (.cells #[.int .i64 y2.kind, .int .u64 (y2.num : Int), .string y2.str, .slice V7 y2.kids.length c7] 42))
        clear hb1
        go_upto_region 7 with fail
        go_wp2_with (first | (refine wpList_load_blk_w 32 _ rfl w.heap.size 32 #[.int .i64 aR, .int .i64 aN, .int .i64 aS, .int .i64 aB, .int .i64 aC, .int .i64 aT, .int .i64 aU, .int .i64 aK, .int .i64 aL, .int .i64 aQ, .string aY, .string aV, .int .i64 aZ, .slice aA an ac, .int .i64 aE, .int .i64 aG] _ rfl ?_ (HKa.out.bel HC.out) Try.underlying32 rfl (by kernel_rfl) ?_; (focus rfl)) | (refine wpList_load_blk_w 32 _ rfl u2.heap.size 32 #[.int .i64 aR, .int .i64 aN, .int .i64 aS, .int .i64 aD, .int .i64 aC, .int .i64 aT, .int .i64 aU, .int .i64 aK, .int .i64 aL, .int .i64 aQ, .string aY, .string aV, .int .i64 aZ, .slice aA an ac, .int .i64 aE, .int .i64 aG] _ rfl ?_ (HKs.out.bel HC.out) Try.underlying32 rfl (by kernel_rfl) ?_; (focus rfl)))
        refine (HC2.out _ (HRa.out.below HC.out)).mono ?_
        rintro e u5 ⟨rfl, hb1⟩
        replace HC := Lib.hid (bel_trans HC.out hb1)
        clear hb1
        go_wp2_with (first | (refine wpList_load_blk_w 32 _ rfl w.heap.size 32 #[.int .i64 aR, .int .i64 aN, .int .i64 aS, .int .i64 aB, .int .i64 aC, .int .i64 aT, .int .i64 aU, .int .i64 aK, .int .i64 aL, .int .i64 aQ, .string aY, .string aV, .int .i64 aZ, .slice aA an ac, .int .i64 aE, .int .i64 aG] _ rfl ?_ (HKa.out.bel HC.out) Try.underlying32 rfl (by kernel_rfl) ?_; (focus rfl)) | (refine wpList_load_blk_w 32 _ rfl u2.heap.size 32 #[.int .i64 aR, .int .i64 aN, .int .i64 aS, .int .i64 aD, .int .i64 aC, .int .i64 aT, .int .i64 aU, .int .i64 aK, .int .i64 aL, .int .i64 aQ, .string aY, .string aV, .int .i64 aZ, .slice aA an ac, .int .i64 aE, .int .i64 aG] _ rfl ?_ (HKs.out.bel HC.out) Try.underlying32 rfl (by kernel_rfl) ?_; (focus rfl)))
        refine (HG1.out _ (HRa.out.below HC.out)).mono ?_
        rintro e u6 ⟨rfl, hb1⟩
        replace HC := Lib.hid (bel_trans HC.out hb1)
        clear hb1
        go_wp2_with (first | (refine wpList_load_blk_w 32 _ rfl w.heap.size 32 #[.int .i64 aR, .int .i64 aN, .int .i64 aS, .int .i64 aB, .int .i64 aC, .int .i64 aT, .int .i64 aU, .int .i64 aK, .int .i64 aL, .int .i64 aQ, .string aY, .string aV, .int .i64 aZ, .slice aA an ac, .int .i64 aE, .int .i64 aG] _ rfl ?_ (HKa.out.bel HC.out) Try.underlying32 rfl (by kernel_rfl) ?_; (focus rfl)) | (refine wpList_load_blk_w 32 _ rfl u2.heap.size 32 #[.int .i64 aR, .int .i64 aN, .int .i64 aS, .int .i64 aD, .int .i64 aC, .int .i64 aT, .int .i64 aU, .int .i64 aK, .int .i64 aL, .int .i64 aQ, .string aY, .string aV, .int .i64 aZ, .slice aA an ac, .int .i64 aE, .int .i64 aG] _ rfl ?_ (HKs.out.bel HC.out) Try.underlying32 rfl (by kernel_rfl) ?_; (focus rfl)))
        refine (HG2.out _ (HRa.out.below HC.out)).mono ?_
        rintro e u7 ⟨rfl, hb1⟩
        replace HC := Lib.hid (bel_trans HC.out hb1)
        clear hb1
        go_wp2_with (first | (refine wpList_load_blk_w 32 _ rfl w.heap.size 32 #[.int .i64 aR, .int .i64 aN, .int .i64 aS, .int .i64 aB, .int .i64 aC, .int .i64 aT, .int .i64 aU, .int .i64 aK, .int .i64 aL, .int .i64 aQ, .string aY, .string aV, .int .i64 aZ, .slice aA an ac, .int .i64 aE, .int .i64 aG] _ rfl ?_ (HKa.out.bel HC.out) Try.underlying32 rfl (by kernel_rfl) ?_; (focus rfl)) | (refine wpList_load_blk_w 32 _ rfl u2.heap.size 32 #[.int .i64 aR, .int .i64 aN, .int .i64 aS, .int .i64 aD, .int .i64 aC, .int .i64 aT, .int .i64 aU, .int .i64 aK, .int .i64 aL, .int .i64 aQ, .string aY, .string aV, .int .i64 aZ, .slice aA an ac, .int .i64 aE, .int .i64 aG] _ rfl ?_ (HKs.out.bel HC.out) Try.underlying32 rfl (by kernel_rfl) ?_; (focus rfl)))
        refine (HS1.out _ (HRa.out.below HC.out)).mono ?_
        rintro e u8 ⟨rfl, hb1⟩
        replace HC := Lib.hid (bel_trans HC.out hb1)
        clear hb1
        go_wp2_with fail
        refine (HAW.out _).mono ?_
        rintro e u9 ⟨rfl, hb1⟩
        replace HC := Lib.hid (bel_trans HC.out hb1)
        clear hb1
        go_wp2_with fail
        go_ret
        exact ⟨rfl, HB.out.trans (HC.out.mono HB.out.size)⟩
    · skip
      have b1 : (v != 0) = true := bne_iff_ne.2 hv
      clear hv HRG
      go_wp2_with fail
      refine (HAW.out _).mono ?_
      rintro e u3 ⟨rfl, hb1⟩
      replace HC := Lib.hid (bel_trans HC.out hb1)
      clear hb1
      go_wp2_with fail
      go_ret
      exact ⟨rfl, HB.out.trans (HC.out.mono HB.out.size)⟩
  | true =>
    go_wp2_with fail
    refine (HAW.out _).mono ?_
    rintro e u2 ⟨rfl, hb1⟩
    replace HC := Lib.hid (bel_trans HC.out hb1)
    clear hb1
    go_wp2_with fail
    go_ret
    exact ⟨rfl, HB.out.trans (HC.out.mono HB.out.size)⟩
end Go.Proofs.Ytbjooblaamjppaa.Rk
