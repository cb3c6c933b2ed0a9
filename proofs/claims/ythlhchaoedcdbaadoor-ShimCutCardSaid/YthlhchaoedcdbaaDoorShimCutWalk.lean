/-
  Texts of earlier layers, as one.
-/
import Derived.Test.YthlhchaoedcdbaaDoorShimHv
import Derived.Test.YthlhchaoedcdbaaDoorMsgBS
import Derived.Test.YthlhchaoedcdbaaDoorMsgBase
import Derived.Test.YthlhchaoedcdbaaDoorRCrc
import Derived.Lib.MinMax
import Derived.Deep.RegionHeld
import Derived.Deep.Cut
/- An old form that is cut off isn't read by either version. -/
namespace Go.Proofs.YthlhchaoedcdbaaDoor.Mg
open Go.RowKit Mem Ids Att Rk Cod

theorem run_pre {P : Program} (t : TypeId) (ht : P.underlying t = some (.slice (P.elem t))) (hsz : ∀ w : World, (sizeOf (P.elem t)).run P w = .ok 1 w) (ad : Addr) (n c k : Nat) (hk : k ≤ c) (w : World) :
    (Instr.slice t (.slice (some ad) n c) none (some (.int .i64 (k : Int))) none).run P w = .ok (.slice (some ad) k c) w := by
  rw [run_slice_h w t (some ad) n c ht .i64 (k : Int) (by omega) (by omega), hsz]
  simp [Result.andThen, sliced, Addr.add]
theorem down_five {m : Mg} (h : (refDown m).2 = 0) : 5 ≤ (refDown m).1.length := by
  unfold refDown at h ⊢
  split at h
  · rename_i h1
    split at h
    · cases h
    · rename_i h2
      rw [if_pos h1, if_neg h2]
      show 5 ≤ (frame 1 (form (oldMg m))).length
      rw [length_frame]
      omega
  · cases h
theorem reads_back {m : Mg} (h : (refDown m).2 = 0) (fx : Fit (oldMg m)) : refReads 1 (refDown m).1 = (m, 0) := by rw [reads_one, up_of_down h fx]
set_option maxRecDepth 100000 in
set_option maxHeartbeats 8000000 in
theorem shimcut_true (hD : HasDown) (hU : HasUp) (hR : HasRead) (aM aR aN aB aC aT aU aS aK aL aQ : Int) (aY aV : ByteArray) (aZ : Int) (aA : Option Addr) (an ac : Nat) (aE aG aW : Int) (al : List (Int × Int)) (cut : Int) (w : World) (hT : Glob w) (ha : Rs w aA an ac al) :
    Calls Tryd.prog 4 #[.agg #[.int .i64 aM, .int .i64 aR, .int .i64 aN, .int .i64 aB, .int .i64 aC, .int .i64 aT, .int .i64 aU, .int .i64 aS, .int .i64 aK, .int .i64 aL, .int .i64 aQ, .string aY, .string aV, .int .i64 aZ, .slice aA an ac, .int .i64 aE, .int .i64 aG, .int .i64 aW], .int .i64 cut] w (Tells true w) := by
  obtain ⟨k1, hbb⟩ := box1 w 32 #[.int .i64 aM, .int .i64 aR, .int .i64 aN, .int .i64 aB, .int .i64 aC, .int .i64 aT, .int .i64 aU, .int .i64 aS, .int .i64 aK, .int .i64 aL, .int .i64 aQ, .string aY, .string aV, .int .i64 aZ, .slice aA an ac, .int .i64 aE, .int .i64 aG, .int .i64 aW]
  obtain ⟨W, hW⟩ : ∃ v, w.alloc (.cells #[.int .i64 aM, .int .i64 aR, .int .i64 aN, .int .i64 aB, .int .i64 aC, .int .i64 aT, .int .i64 aU, .int .i64 aS, .int .i64 aK, .int .i64 aL, .int .i64 aQ, .string aY, .string aV, .int .i64 aZ, .slice aA an ac, .int .i64 aE, .int .i64 aG, .int .i64 aW] 32) = v := ⟨_, rfl⟩
  rw [hW] at k1 hbb
  have HKa := Lib.hid k1
  have HB := Lib.hid hbb
  have HW := Lib.hid hW
  have HC := Lib.hid (Below.refl W.heap.size W)
  have haW := ha.below hbb
  have hTW := hT.below hbb
  have HRa := Lib.hid haW
  have HAW := Lib.hid (fun (u : World) (h : Below W.heap.size W u) => shim_awake hD hU u (hTW.below h))
  have HG1 := Lib.hid (fun w h => great_any aM aR aN aB aC aT aU aS aK aL aQ aY aV aZ aA an ac aE aG aW al w h)
  have hdn := fun (u : World) (h : Below W.heap.size W u) => hD aM aR aN aB aC aT aU aS aK aL aQ aY aV aZ aA an ac aE aG aW al u (hTW.below h) (haW.below h)
  have hx1 : ∀ (b : List Nat) (A : Option Addr) (n c : Nat) (u : World), b.length < 5 → (∀ x ∈ b, x < 256) → Below W.heap.size W u → Rd u A n c (cs b) → Calls Tryd.prog 8 #[.slice A n c, .int .i64 1] u (fun e w' => ∃ V k d, e = .returned (.tuple #[.agg #[.int .i64 0, .int .i64 0, .int .i64 0, .int .i64 0, .int .i64 0, .int .i64 0, .int .i64 0, .int .i64 0, .int .i64 0, .int .i64 0, .int .i64 0, .string ⟨#[]⟩, .string ⟨#[]⟩, .int .i64 0, .slice V k d, .int .i64 0, .int .i64 0, .int .i64 0], .int .i64 2]) ∧ Rs w' V k d [] ∧ Below u.heap.size u w') := fun b A n c u h5 hb h hrd => by
    have hl := hrd.len
    rw [length_cs] at hl
    have h3 := hR _ A n c 1 u (hTW.below h) hrd hb (by omega)
    rw [reads_one, up_short h5] at h3
    exact h3.mono fun _ _ h => h.mg
  have hx2 : ∀ (b : List Nat) (A : Option Addr) (n c : Nat) (u : World), b.length < 5 → (∀ x ∈ b, x < 256) → Below W.heap.size W u → Rd u A n c (cs b) → Calls Tryd.prog 12 #[.slice A n c] u (fun e w' => ∃ V k d, e = .returned (.tuple #[.agg #[.int .i64 0, .int .i64 0, .int .i64 0, .int .i64 0, .int .i64 0, .int .i64 0, .int .i64 0, .int .i64 0, .int .i64 0, .int .i64 0, .int .i64 0, .string ⟨#[]⟩, .string ⟨#[]⟩, .int .i64 0, .slice V k d, .int .i64 0, .int .i64 0, .int .i64 0], .int .i64 2]) ∧ Rs w' V k d [] ∧ Below u.heap.size u w') := fun b A n c u h5 hb h hrd => by
    have hl := hrd.len
    rw [length_cs] at hl
    have h3 := hU _ A n c u (hTW.below h) hrd hb (by omega)
    rw [up_short h5] at h3
    exact h3.mono fun _ _ h => h.mg
  have hy1 : (refDown ⟨aM, (aR, aN), (aB, aC), (aT, aU), aS, ⟨aK, aL, aQ, aY, aV, aZ⟩, ⟨al, aE, aG⟩, aW⟩).2 = 0 ∧ ((refDown ⟨aM, (aR, aN), (aB, aC), (aT, aU), aS, ⟨aK, aL, aQ, aY, aV, aZ⟩, ⟨al, aE, aG⟩, aW⟩).2 = 0 → Fit (oldMg ⟨aM, (aR, aN), (aB, aC), (aT, aU), aS, ⟨aK, aL, aQ, aY, aV, aZ⟩, ⟨al, aE, aG⟩, aW⟩)) → ∀ (A : Option Addr) (n c : Nat) (u : World), Below W.heap.size W u → Rd u A n c (cs (refDown ⟨aM, (aR, aN), (aB, aC), (aT, aU), aS, ⟨aK, aL, aQ, aY, aV, aZ⟩, ⟨al, aE, aG⟩, aW⟩).1) → Calls Tryd.prog 8 #[.slice A n c, .int .i64 1] u (fun e w' => ∃ V k d, e = .returned (.tuple #[.agg #[.int .i64 aM, .int .i64 aR, .int .i64 aN, .int .i64 aB, .int .i64 aC, .int .i64 aT, .int .i64 aU, .int .i64 aS, .int .i64 aK, .int .i64 aL, .int .i64 aQ, .string aY, .string aV, .int .i64 aZ, .slice V k d, .int .i64 aE, .int .i64 aG, .int .i64 aW], .int .i64 0]) ∧ Rs w' V k d al ∧ Below u.heap.size u w') := fun hp A n c u h hrd => by
    have hl := hrd.len
    rw [length_cs] at hl
    have h3 := hR _ A n c 1 u (hTW.below h) hrd (down_lt hp.2) (by have h4 := down_len hp.2; omega)
    rw [reads_back hp.1 (hp.2 hp.1)] at h3
    exact h3.mono fun _ _ h => h.mg
  have hss := fun V1 n1 c1 V2 n2 c2 w (h : Rs w V1 n1 c1 al) (h' : Rs w V2 n2 c2 al) => ownsame_any aM aR aN aB aC aT aU aS aK aL aQ aY aV aZ V1 n1 c1 aE aG aW al aM aR aN aB aC aT aU aS aK aL aQ aY aV aZ V2 n2 c2 aE aG aW al w h h'
  rw [msame_refl] at hss
  have hlt := down_lt (m := ⟨aM, (aR, aN), (aB, aC), (aT, aU), aS, ⟨aK, aL, aQ, aY, aV, aZ⟩, ⟨al, aE, aG⟩, aW⟩)
  have h5 := down_five (m := ⟨aM, (aR, aN), (aB, aC), (aT, aU), aS, ⟨aK, aL, aQ, aY, aV, aZ⟩, ⟨al, aE, aG⟩, aW⟩)
  unfold DownIs at hdn
  generalize great ⟨aM, (aR, aN), (aB, aC), (aT, aU), aS, ⟨aK, aL, aQ, aY, aV, aZ⟩, ⟨al, aE, aG⟩, aW⟩ = ga at HG1
  obtain ⟨⟨dl, dn⟩, hd⟩ : ∃ r, refDown ⟨aM, (aR, aN), (aB, aC), (aT, aU), aS, ⟨aK, aL, aQ, aY, aV, aZ⟩, ⟨al, aE, aG⟩, aW⟩ = r := ⟨_, rfl⟩
  rw [hd] at hdn hy1 hlt h5
  clear hd
  simp only at hdn hy1 hlt h5
  have hpl := Cr.pick_lt cut 5 (by omega)
  obtain ⟨J, hJ⟩ : ∃ J : Nat, Cr.pick cut 5 = (J : Int) := ⟨(Cr.pick cut 5).toNat, by omega⟩
  have hpk := fun w => Cr.pick_any cut 5 w (by omega) (by omega)
  rw [hJ] at hpl hpk
  have HPK := Lib.hid hpk
  have HJ := Lib.hid (show J < 5 by omega)
  have HDN := Lib.hid hdn
  have HX1 := Lib.hid hx1
  have HX2 := Lib.hid hx2
  have HY1 := Lib.hid hy1
  have HSS := Lib.hid hss
  have HLT := Lib.hid hlt
  have H5 := Lib.hid h5
  clear hdn hx1 hx2 hy1 hss hlt h5 hpl hJ hpk haW hTW k1 hbb hW ha hT hD hU hR
  go_enter Tryd.func4, Tryd.ntmps4
  go_upto_region 1 with fail
  rw [HW.out]
  go_wp2_with (with_reducible refine wpList_load_blk_w 32 _ rfl w.heap.size 32 #[.int .i64 aM, .int .i64 aR, .int .i64 aN, .int .i64 aB, .int .i64 aC, .int .i64 aT, .int .i64 aU, .int .i64 aS, .int .i64 aK, .int .i64 aL, .int .i64 aQ, .string aY, .string aV, .int .i64 aZ, .slice aA an ac, .int .i64 aE, .int .i64 aG, .int .i64 aW] _ ?_ ?_ (HKa.out.bel HC.out) Tryd.underlying32 ?_ ?_ ?_; (focus kernel_rfl); (focus kernel_rfl); (focus rfl); (focus kernel_rfl))
  refine (HG1.out _ (HRa.out.below HC.out)).mono ?_
  rintro e u1 ⟨rfl, hb1⟩
  replace HC := Lib.hid (bel_trans HC.out hb1)
  clear hb1
  cases ga with
  | true =>
    go_wp2_with fail
    refine (HAW.out _ HC.out).mono ?_
    rintro e uz ⟨rfl, hb1⟩
    replace HC := Lib.hid (bel_trans HC.out hb1)
    clear hb1
    go_wp2_with fail
    go_ret
    exact ⟨rfl, HB.out.trans (HC.out.mono HB.out.size)⟩
  | false =>
    go_wp2_with (with_reducible refine wpList_load_blk_w 32 _ rfl w.heap.size 32 #[.int .i64 aM, .int .i64 aR, .int .i64 aN, .int .i64 aB, .int .i64 aC, .int .i64 aT, .int .i64 aU, .int .i64 aS, .int .i64 aK, .int .i64 aL, .int .i64 aQ, .string aY, .string aV, .int .i64 aZ, .slice aA an ac, .int .i64 aE, .int .i64 aG, .int .i64 aW] _ ?_ ?_ (HKa.out.bel HC.out) Tryd.underlying32 ?_ ?_ ?_; (focus kernel_rfl); (focus kernel_rfl); (focus rfl); (focus kernel_rfl))
    refine (HDN.out _ HC.out).mono ?_
    rintro e u2 ⟨A1, n1, c1, rfl, hr1, hb1, hfx⟩
    replace HC := Lib.hid (bel_trans HC.out hb1)
    clear hb1
    obtain ⟨di, hdi⟩ : ∃ i : Int, (dn : Int) = i := ⟨_, rfl⟩
    rw [hdi]
    by_cases he : di = 0
    case neg =>
      have qe : (di != 0) = true := bne_iff_ne.2 he
      clear he hfx hr1 hdi
      go_wp2_with fail
      refine (HAW.out _ HC.out).mono ?_
      rintro e uz ⟨rfl, hb1⟩
      replace HC := Lib.hid (bel_trans HC.out hb1)
      clear hb1
      go_wp2_with fail
      go_ret
      exact ⟨rfl, HB.out.trans (HC.out.mono HB.out.size)⟩
    have hdz : dn = 0 := by omega
    have hl1 := hr1.len
    rw [length_cs] at hl1
    have hn5 := H5.out hdz
    obtain ⟨ad, rfl, _, _⟩ := hr1.spot (by omega)
    have hle := hr1.le
    have hrc := hr1.take (k := J) (by have := HJ.out; omega)
    have hrc' : Rd u2 (some ad) J c1 (cs (dl.take J)) := by
      have e : (cs dl).take J = cs (dl.take J) := by simp [cs, List.map_take]
      rw [← e]
      exact hrc
    have HSH := Lib.hid (show (dl.take J).length < 5 by rw [List.length_take]; have := HJ.out; omega)
    have HBY := Lib.hid (show ∀ x ∈ dl.take J, x < 256 from fun x hx => HLT.out hfx x (List.mem_of_mem_take hx))
    have HP := Lib.hid (And.intro hdz hfx)
    have HR1 := Lib.hid hr1
    have HRc := Lib.hid hrc'
    have hmn : min (n1 : Int) 5 = 5 := by omega
    have hcut := run_pre (P := Tryd.prog) 35 Tryd.underlying35 (fun w => by kernel_rfl) ad n1 c1 J (by have := HJ.out; omega)
    have HKm := Lib.hid (HKa.out.bel HC.out)
    have HRm := Lib.hid (HRa.out.below HC.out)
    rw [he]
    clear hdz hl1 hn5 hle hrc hrc' hr1 hfx hdi he HKa HRa HG1 HDN H5 HLT HJ
    go_wp2_with fail
    refine (HPK.out _).mono ?_
    rintro e u3 ⟨rfl, rfl⟩
    go_wp2_with fail
    refine (HX1.out _ (some ad) J c1 _ HSH.out HBY.out HC.out HRc.out).mono ?_
    rintro e u7 ⟨V7, k7, d7, rfl, hrs, hb1⟩
    clear hmn hcut
    as_aux_lemma =>
      have hcx := bel_alloc (bel_trans HC.out hb1) (.cells #[.int .i64 0, .int .i64 0, .int .i64 0, .int .i64 0, .int .i64 0, .int .i64 0, .int .i64 0, .int .i64 0, .int .i64 0, .int .i64 0, .int .i64 0, .string ⟨#[]⟩, .string ⟨#[]⟩, .int .i64 0, .slice V7 k7 d7, .int .i64 0, .int .i64 0, .int .i64 0] 32)
      have hkx := Blk.new u7 32 #[.int .i64 0, .int .i64 0, .int .i64 0, .int .i64 0, .int .i64 0, .int .i64 0, .int .i64 0, .int .i64 0, .int .i64 0, .int .i64 0, .int .i64 0, .string ⟨#[]⟩, .string ⟨#[]⟩, .int .i64 0, .slice V7 k7 d7, .int .i64 0, .int .i64 0, .int .i64 0]
      have hrx := hrs.alloc (.cells #[.int .i64 0, .int .i64 0, .int .i64 0, .int .i64 0, .int .i64 0, .int .i64 0, .int .i64 0, .int .i64 0, .int .i64 0, .int .i64 0, .int .i64 0, .string ⟨#[]⟩, .string ⟨#[]⟩, .int .i64 0, .slice V7 k7 d7, .int .i64 0, .int .i64 0, .int .i64 0] 32)
      have hk_m := HKm.out.bel (bel_alloc hb1 (.cells #[.int .i64 0, .int .i64 0, .int .i64 0, .int .i64 0, .int .i64 0, .int .i64 0, .int .i64 0, .int .i64 0, .int .i64 0, .int .i64 0, .int .i64 0, .string ⟨#[]⟩, .string ⟨#[]⟩, .int .i64 0, .slice V7 k7 d7, .int .i64 0, .int .i64 0, .int .i64 0] 32))
      have hr_1 := HR1.out.below (bel_alloc hb1 (.cells #[.int .i64 0, .int .i64 0, .int .i64 0, .int .i64 0, .int .i64 0, .int .i64 0, .int .i64 0, .int .i64 0, .int .i64 0, .int .i64 0, .int .i64 0, .string ⟨#[]⟩, .string ⟨#[]⟩, .int .i64 0, .slice V7 k7 d7, .int .i64 0, .int .i64 0, .int .i64 0] 32))
      have hr_c := HRc.out.below (bel_alloc hb1 (.cells #[.int .i64 0, .int .i64 0, .int .i64 0, .int .i64 0, .int .i64 0, .int .i64 0, .int .i64 0, .int .i64 0, .int .i64 0, .int .i64 0, .int .i64 0, .string ⟨#[]⟩, .string ⟨#[]⟩, .int .i64 0, .slice V7 k7 d7, .int .i64 0, .int .i64 0, .int .i64 0] 32))
      have hr_m := HRm.out.below (bel_alloc hb1 (.cells #[.int .i64 0, .int .i64 0, .int .i64 0, .int .i64 0, .int .i64 0, .int .i64 0, .int .i64 0, .int .i64 0, .int .i64 0, .int .i64 0, .int .i64 0, .string ⟨#[]⟩, .string ⟨#[]⟩, .int .i64 0, .slice V7 k7 d7, .int .i64 0, .int .i64 0, .int .i64 0] 32))
      obtain ⟨g7, hg⟩ : ∃ g, u7.heap.size = g := ⟨_, rfl⟩
      obtain ⟨U7, hU⟩ : ∃ v, u7.alloc (.cells #[.int .i64 0, .int .i64 0, .int .i64 0, .int .i64 0, .int .i64 0, .int .i64 0, .int .i64 0, .int .i64 0, .int .i64 0, .int .i64 0, .int .i64 0, .string ⟨#[]⟩, .string ⟨#[]⟩, .int .i64 0, .slice V7 k7 d7, .int .i64 0, .int .i64 0, .int .i64 0] 32) = v := ⟨_, rfl⟩
      rw [hU] at hcx hkx hrx hk_m hr_1 hr_c hr_m
      rw [hg] at hkx
      have HU7 := Lib.hid hU
      have HG7 := Lib.hid hg
      replace HC := Lib.hid hcx
      have HK7 := Lib.hid hkx
      have HR7 := Lib.hid hrx
      replace HKm := Lib.hid hk_m
      replace HR1 := Lib.hid hr_1
      replace HRc := Lib.hid hr_c
      replace HRm := Lib.hid hr_m
      clear hcx hkx hrx hU hg hb1 hrs hk_m hr_1 hr_c hr_m
      go_upto_region 8 with fail
      rw [HU7.out, HG7.out]
      go_wp2_with fail
      refine (HX2.out _ (some ad) J c1 _ HSH.out HBY.out HC.out HRc.out).mono ?_
      rintro e u8 ⟨V8, k8, d8, rfl, hrs, hb1⟩
      as_aux_lemma =>
        have hcx := bel_alloc (bel_trans HC.out hb1) (.cells #[.int .i64 0, .int .i64 0, .int .i64 0, .int .i64 0, .int .i64 0, .int .i64 0, .int .i64 0, .int .i64 0, .int .i64 0, .int .i64 0, .int .i64 0, .string ⟨#[]⟩, .string ⟨#[]⟩, .int .i64 0, .slice V8 k8 d8, .int .i64 0, .int .i64 0, .int .i64 0] 32)
        have hkx := Blk.new u8 32 #[.int .i64 0, .int .i64 0, .int .i64 0, .int .i64 0, .int .i64 0, .int .i64 0, .int .i64 0, .int .i64 0, .int .i64 0, .int .i64 0, .int .i64 0, .string ⟨#[]⟩, .string ⟨#[]⟩, .int .i64 0, .slice V8 k8 d8, .int .i64 0, .int .i64 0, .int .i64 0]
        have hrx := hrs.alloc (.cells #[.int .i64 0, .int .i64 0, .int .i64 0, .int .i64 0, .int .i64 0, .int .i64 0, .int .i64 0, .int .i64 0, .int .i64 0, .int .i64 0, .int .i64 0, .string ⟨#[]⟩, .string ⟨#[]⟩, .int .i64 0, .slice V8 k8 d8, .int .i64 0, .int .i64 0, .int .i64 0] 32)
        have hk_m := HKm.out.bel (bel_alloc hb1 (.cells #[.int .i64 0, .int .i64 0, .int .i64 0, .int .i64 0, .int .i64 0, .int .i64 0, .int .i64 0, .int .i64 0, .int .i64 0, .int .i64 0, .int .i64 0, .string ⟨#[]⟩, .string ⟨#[]⟩, .int .i64 0, .slice V8 k8 d8, .int .i64 0, .int .i64 0, .int .i64 0] 32))
        have hr_1 := HR1.out.below (bel_alloc hb1 (.cells #[.int .i64 0, .int .i64 0, .int .i64 0, .int .i64 0, .int .i64 0, .int .i64 0, .int .i64 0, .int .i64 0, .int .i64 0, .int .i64 0, .int .i64 0, .string ⟨#[]⟩, .string ⟨#[]⟩, .int .i64 0, .slice V8 k8 d8, .int .i64 0, .int .i64 0, .int .i64 0] 32))
        have hr_m := HRm.out.below (bel_alloc hb1 (.cells #[.int .i64 0, .int .i64 0, .int .i64 0, .int .i64 0, .int .i64 0, .int .i64 0, .int .i64 0, .int .i64 0, .int .i64 0, .int .i64 0, .int .i64 0, .string ⟨#[]⟩, .string ⟨#[]⟩, .int .i64 0, .slice V8 k8 d8, .int .i64 0, .int .i64 0, .int .i64 0] 32))
        obtain ⟨g8, hg⟩ : ∃ g, u8.heap.size = g := ⟨_, rfl⟩
        obtain ⟨U8, hU⟩ : ∃ v, u8.alloc (.cells #[.int .i64 0, .int .i64 0, .int .i64 0, .int .i64 0, .int .i64 0, .int .i64 0, .int .i64 0, .int .i64 0, .int .i64 0, .int .i64 0, .int .i64 0, .string ⟨#[]⟩, .string ⟨#[]⟩, .int .i64 0, .slice V8 k8 d8, .int .i64 0, .int .i64 0, .int .i64 0] 32) = v := ⟨_, rfl⟩
        rw [hU] at hcx hkx hrx hk_m hr_1 hr_m
        rw [hg] at hkx
        have HU8 := Lib.hid hU
        have HG8 := Lib.hid hg
        replace HC := Lib.hid hcx
        have HK8 := Lib.hid hkx
        have HR8 := Lib.hid hrx
        replace HKm := Lib.hid hk_m
        replace HR1 := Lib.hid hr_1
        replace HRm := Lib.hid hr_m
        clear hcx hkx hrx hU hg hb1 hrs hk_m hr_1 hr_m
        go_upto_region 9 with fail
        rw [HU8.out, HG8.out]
        go_wp2_with fail
        refine (HY1.out HP.out (some ad) n1 c1 _ HC.out HR1.out).mono ?_
        rintro e u9 ⟨V9, k9, d9, rfl, hrs, hb1⟩
        as_aux_lemma =>
          have hcx := bel_alloc (bel_trans HC.out hb1) (.cells #[.int .i64 aM, .int .i64 aR, .int .i64 aN, .int .i64 aB, .int .i64 aC, .int .i64 aT, .int .i64 aU, .int .i64 aS, .int .i64 aK, .int .i64 aL, .int .i64 aQ, .string aY, .string aV, .int .i64 aZ, .slice V9 k9 d9, .int .i64 aE, .int .i64 aG, .int .i64 aW] 32)
          have hkx := Blk.new u9 32 #[.int .i64 aM, .int .i64 aR, .int .i64 aN, .int .i64 aB, .int .i64 aC, .int .i64 aT, .int .i64 aU, .int .i64 aS, .int .i64 aK, .int .i64 aL, .int .i64 aQ, .string aY, .string aV, .int .i64 aZ, .slice V9 k9 d9, .int .i64 aE, .int .i64 aG, .int .i64 aW]
          have hrx := hrs.alloc (.cells #[.int .i64 aM, .int .i64 aR, .int .i64 aN, .int .i64 aB, .int .i64 aC, .int .i64 aT, .int .i64 aU, .int .i64 aS, .int .i64 aK, .int .i64 aL, .int .i64 aQ, .string aY, .string aV, .int .i64 aZ, .slice V9 k9 d9, .int .i64 aE, .int .i64 aG, .int .i64 aW] 32)
          have hk_m := HKm.out.bel (bel_alloc hb1 (.cells #[.int .i64 aM, .int .i64 aR, .int .i64 aN, .int .i64 aB, .int .i64 aC, .int .i64 aT, .int .i64 aU, .int .i64 aS, .int .i64 aK, .int .i64 aL, .int .i64 aQ, .string aY, .string aV, .int .i64 aZ, .slice V9 k9 d9, .int .i64 aE, .int .i64 aG, .int .i64 aW] 32))
          have hr_m := HRm.out.below (bel_alloc hb1 (.cells #[.int .i64 aM, .int .i64 aR, .int .i64 aN, .int .i64 aB, .int .i64 aC, .int .i64 aT, .int .i64 aU, .int .i64 aS, .int .i64 aK, .int .i64 aL, .int .i64 aQ, .string aY, .string aV, .int .i64 aZ, .slice V9 k9 d9, .int .i64 aE, .int .i64 aG, .int .i64 aW] 32))
          obtain ⟨g9, hg⟩ : ∃ g, u9.heap.size = g := ⟨_, rfl⟩
          obtain ⟨U9, hU⟩ : ∃ v, u9.alloc (.cells #[.int .i64 aM, .int .i64 aR, .int .i64 aN, .int .i64 aB, .int .i64 aC, .int .i64 aT, .int .i64 aU, .int .i64 aS, .int .i64 aK, .int .i64 aL, .int .i64 aQ, .string aY, .string aV, .int .i64 aZ, .slice V9 k9 d9, .int .i64 aE, .int .i64 aG, .int .i64 aW] 32) = v := ⟨_, rfl⟩
          rw [hU] at hcx hkx hrx hk_m hr_m
          rw [hg] at hkx
          have HU9 := Lib.hid hU
          have HG9 := Lib.hid hg
          replace HC := Lib.hid hcx
          have HK9 := Lib.hid hkx
          have HR9 := Lib.hid hrx
          replace HKm := Lib.hid hk_m
          replace HRm := Lib.hid hr_m
          clear hcx hkx hrx hU hg hb1 hrs hk_m hr_m
          go_upto_region 10 with fail
          rw [HU9.out, HG9.out]
          have HC8 := HC
          clear HC
          have HC := Lib.hid (Below.refl U9.heap.size U9)
          go_wp2_with (first | ((with_reducible refine wpList_load_blk_w 32 _ rfl w.heap.size 32 #[.int .i64 aM, .int .i64 aR, .int .i64 aN, .int .i64 aB, .int .i64 aC, .int .i64 aT, .int .i64 aU, .int .i64 aS, .int .i64 aK, .int .i64 aL, .int .i64 aQ, .string aY, .string aV, .int .i64 aZ, .slice aA an ac, .int .i64 aE, .int .i64 aG, .int .i64 aW] _ ?_ ?_ (HKm.out.bel HC.out) Tryd.underlying32 ?_ ?_ ?_); (focus rfl); (focus kernel_rfl); (focus rfl); (focus kernel_rfl)) | ((with_reducible refine wpList_load_blk_w 32 _ rfl g9 32 #[.int .i64 aM, .int .i64 aR, .int .i64 aN, .int .i64 aB, .int .i64 aC, .int .i64 aT, .int .i64 aU, .int .i64 aS, .int .i64 aK, .int .i64 aL, .int .i64 aQ, .string aY, .string aV, .int .i64 aZ, .slice V9 k9 d9, .int .i64 aE, .int .i64 aG, .int .i64 aW] _ ?_ ?_ (HK9.out.bel HC.out) Tryd.underlying32 ?_ ?_ ?_); (focus rfl); (focus kernel_rfl); (focus rfl); (focus kernel_rfl)))
          refine (HSS.out V9 k9 d9 aA an ac _ (HR9.out.below HC.out) (HRm.out.below HC.out)).mono ?_
          rintro e ua ⟨rfl, hb1⟩
          replace HC := Lib.hid (bel_trans HC.out hb1)
          clear hb1
          go_wp2_with fail
          refine (HAW.out _ (HC8.out.trans (HC.out.mono HC8.out.size))).mono ?_
          rintro e uz ⟨rfl, hb1⟩
          replace HC := Lib.hid (bel_trans HC.out hb1)
          clear hb1
          go_wp2_with fail
          go_ret
          exact ⟨rfl, HB.out.trans ((HC8.out.trans (HC.out.mono HC8.out.size)).mono HB.out.size)⟩
end Go.Proofs.YthlhchaoedcdbaaDoor.Mg
