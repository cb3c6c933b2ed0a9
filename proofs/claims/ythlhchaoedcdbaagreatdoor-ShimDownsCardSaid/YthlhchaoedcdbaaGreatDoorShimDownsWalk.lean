/-
  Texts of earlier layers, as one.
-/
import Derived.Test.YthlhchaoedcdbaaGreatDoorShimHv
import Derived.Test.YthlhchaoedcdbaaGreatDoorMsgBS
import Derived.Test.YthlhchaoedcdbaaGreatDoorMsgBase
import Derived.Deep.RegionHeld
import Derived.Deep.Cut
/- Any message has the old form that the document says, or none, and goes up as it was; to a version it is sent as it says. -/
namespace Go.Proofs.YthlhchaoedcdbaaGreatDoor.Mg
open Go.RowKit Mem Ids Att Rk Cod
theorem small_key {m : Mg} (h : great m = false) : m.cm.ky.size ≤ 1073741824 := by
 unfold great at h
 obtain ⟨_, h⟩ := Bool.or_eq_false_iff.1 h
 simp only [Cmd.great, Bool.or_eq_false_iff, decide_eq_false_iff_not] at h
 omega
theorem for_one (m : Mg) : refFor m 1 = refDown m := if_pos rfl
theorem for_two (m : Mg) : (refFor m 2).1 = (if mright m = true then frame 2 (form (mgIt m)) else []) ∧ ((refFor m 2).2 : Int) = mchk m := by
 unfold refFor mchk
 rw [if_neg (by decide), if_pos rfl]
 split <;> exact ⟨rfl, rfl⟩
theorem for_none (m : Mg) {v : Int} (h1 : ¬ v = 1) (h2 : ¬ v = 2) : refFor m v = ([], 1) := by
 unfold refFor
 rw [if_neg h1, if_neg h2]
set_option maxRecDepth 100000 in
set_option maxHeartbeats 8000000 in
theorem shimdowns_true (hD : HasDown) (hU : HasUp) (hF : HasFor) (aM aR aN aB aC aT aU aS aK aL aQ : Int) (aY aV : ByteArray) (aZ : Int) (aA : Option Addr) (an ac : Nat) (aE aG aW : Int) (al : List (Int × Int)) (v : Int) (w : World) (hT : Glob w) (ha : Rs w aA an ac al) :
 Calls Tryz.prog 3 #[.agg #[.int .i64 aM, .int .i64 aR, .int .i64 aN, .int .i64 aB, .int .i64 aC, .int .i64 aT, .int .i64 aU, .int .i64 aS, .int .i64 aK, .int .i64 aL, .int .i64 aQ, .string aY, .string aV, .int .i64 aZ, .slice aA an ac, .int .i64 aE, .int .i64 aG, .int .i64 aW], .int .i64 v] w (Tells true w) := by
 obtain ⟨k1, hbb⟩ := box1 w 32 #[.int .i64 aM, .int .i64 aR, .int .i64 aN, .int .i64 aB, .int .i64 aC, .int .i64 aT, .int .i64 aU, .int .i64 aS, .int .i64 aK, .int .i64 aL, .int .i64 aQ, .string aY, .string aV, .int .i64 aZ, .slice aA an ac, .int .i64 aE, .int .i64 aG, .int .i64 aW]
 obtain ⟨W, hW⟩ : ∃ v, w.alloc (.cells #[.int .i64 aM, .int .i64 aR, .int .i64 aN, .int .i64 aB, .int .i64 aC, .int .i64 aT, .int .i64 aU, .int .i64 aS, .int .i64 aK, .int .i64 aL, .int .i64 aQ, .string aY, .string aV, .int .i64 aZ, .slice aA an ac, .int .i64 aE, .int .i64 aG, .int .i64 aW] 32) = v := ⟨_, rfl⟩
 rw [hW] at k1 hbb
 have HKa := Lib.hid k1
 have HB := Lib.hid hbb
 have HW := Lib.hid hW
 have HC := Lib.hid (Below.refl W.heap.size W)
 have haW := ha.below hbb
 have hTW := hT.below hbb
 have HRa := Lib.hid haW
 have HAW := Lib.hid (fun (u : World) (h : Below W.heap.size W u) => shim_awake hD hU u (hTW.below h))
 have HG1 := Lib.hid (fun w h => great_any aM aR aN aB aC aT aU aS aK aL aQ aY aV aZ aA an ac aE aG aW al w h)
 have hgr := small_key (m := ⟨aM, (aR, aN), (aB, aC), (aT, aU), aS, ⟨aK, aL, aQ, aY, aV, aZ⟩, ⟨al, aE, aG⟩, aW⟩)
 have hdn := fun (u : World) (h : Below W.heap.size W u) => hD aM aR aN aB aC aT aU aS aK aL aQ aY aV aZ aA an ac aE aG aW al u (hTW.below h) (haW.below h)
 have hrd := fun (u : World) (h : Below W.heap.size W u) hy => refdown_any aM aR aN aB aC aT aU aS aK aL aQ aY aV aZ aA an ac aE aG aW al u (haW.below h) hy
 have hfr := fun (u : World) (h : Below W.heap.size W u) => hF aM aR aN aB aC aT aU aS aK aL aQ aY aV aZ aA an ac aE aG aW al v u (hTW.below h) (haW.below h)
 have hpt := fun (u : World) (h : Below W.heap.size W u) => mput_any aM aR aN aB aC aT aU aS aK aL aQ aY aV aZ aA an ac aE aG aW al u (haW.below h) (hTW.below h).2 (hTW.below h).1
 have hup := fun (b : List Nat) A n c (u : World) (h : Below W.heap.size W u) hr hb hn => (hU b A n c u (hTW.below h) hr hb hn).mono fun _ _ h => h.mg
 have hss := fun V1 n1 c1 V2 n2 c2 w (h : Rs w V1 n1 c1 al) (h' : Rs w V2 n2 c2 al) => ownsame_any aM aR aN aB aC aT aU aS aK aL aQ aY aV aZ V1 n1 c1 aE aG aW al aM aR aN aB aC aT aU aS aK aL aQ aY aV aZ V2 n2 c2 aE aG aW al w h h'
 rw [msame_refl] at hss
 have f1 := for_one ⟨aM, (aR, aN), (aB, aC), (aT, aU), aS, ⟨aK, aL, aQ, aY, aV, aZ⟩, ⟨al, aE, aG⟩, aW⟩
 have f2 := for_two ⟨aM, (aR, aN), (aB, aC), (aT, aU), aS, ⟨aK, aL, aQ, aY, aV, aZ⟩, ⟨al, aE, aG⟩, aW⟩
 have f3 := fun h1 h2 => for_none ⟨aM, (aR, aN), (aB, aC), (aT, aU), aS, ⟨aK, aL, aQ, aY, aV, aZ⟩, ⟨al, aE, aG⟩, aW⟩ (v := v) h1 h2
 have hlt := down_lt (m := ⟨aM, (aR, aN), (aB, aC), (aT, aU), aS, ⟨aK, aL, aQ, aY, aV, aZ⟩, ⟨al, aE, aG⟩, aW⟩)
 have hln := down_len (m := ⟨aM, (aR, aN), (aB, aC), (aT, aU), aS, ⟨aK, aL, aQ, aY, aV, aZ⟩, ⟨al, aE, aG⟩, aW⟩)
 have hud := up_of_down (m := ⟨aM, (aR, aN), (aB, aC), (aT, aU), aS, ⟨aK, aL, aQ, aY, aV, aZ⟩, ⟨al, aE, aG⟩, aW⟩)
 unfold DownIs at hdn hrd
 unfold BytesIs at hfr
 unfold PutsMg at hpt
 generalize great ⟨aM, (aR, aN), (aB, aC), (aT, aU), aS, ⟨aK, aL, aQ, aY, aV, aZ⟩, ⟨al, aE, aG⟩, aW⟩ = ga at HG1 hgr
 obtain ⟨⟨dl, dn⟩, hd⟩ : ∃ r, refDown ⟨aM, (aR, aN), (aB, aC), (aT, aU), aS, ⟨aK, aL, aQ, aY, aV, aZ⟩, ⟨al, aE, aG⟩, aW⟩ = r := ⟨_, rfl⟩
 rw [hd] at hdn hrd f1 hlt hln hud
 clear hd
 obtain ⟨pl, hpl⟩ : ∃ l, (if mright ⟨aM, (aR, aN), (aB, aC), (aT, aU), aS, ⟨aK, aL, aQ, aY, aV, aZ⟩, ⟨al, aE, aG⟩, aW⟩ = true then frame 2 (form (mgIt ⟨aM, (aR, aN), (aB, aC), (aT, aU), aS, ⟨aK, aL, aQ, aY, aV, aZ⟩, ⟨al, aE, aG⟩, aW⟩)) else []) = l := ⟨_, rfl⟩
 rw [hpl] at hpt f2
 clear hpl
 generalize mchk ⟨aM, (aR, aN), (aB, aC), (aT, aU), aS, ⟨aK, aL, aQ, aY, aV, aZ⟩, ⟨al, aE, aG⟩, aW⟩ = mi at hpt f2
 have hfo : (v = 1 → refFor ⟨aM, (aR, aN), (aB, aC), (aT, aU), aS, ⟨aK, aL, aQ, aY, aV, aZ⟩, ⟨al, aE, aG⟩, aW⟩ v = (dl, dn)) ∧ (v = 2 → (refFor ⟨aM, (aR, aN), (aB, aC), (aT, aU), aS, ⟨aK, aL, aQ, aY, aV, aZ⟩, ⟨al, aE, aG⟩, aW⟩ v).1 = pl ∧ ((refFor ⟨aM, (aR, aN), (aB, aC), (aT, aU), aS, ⟨aK, aL, aQ, aY, aV, aZ⟩, ⟨al, aE, aG⟩, aW⟩ v).2 : Int) = mi) ∧ (¬ v = 1 → ¬ v = 2 → refFor ⟨aM, (aR, aN), (aB, aC), (aT, aU), aS, ⟨aK, aL, aQ, aY, aV, aZ⟩, ⟨al, aE, aG⟩, aW⟩ v = ([], 1)) :=
  ⟨fun h => by rw [h]; exact f1, fun h => by rw [h]; exact f2, f3⟩
 clear f1 f2 f3
 obtain ⟨⟨fl, fn⟩, hf⟩ : ∃ r, refFor ⟨aM, (aR, aN), (aB, aC), (aT, aU), aS, ⟨aK, aL, aQ, aY, aV, aZ⟩, ⟨al, aE, aG⟩, aW⟩ v = r := ⟨_, rfl⟩
 rw [hf] at hfr hfo
 clear hf
 simp only at hdn hrd hfr hlt hln hud hfo
 obtain ⟨fi, hfi⟩ : ∃ i : Int, (fn : Int) = i := ⟨_, rfl⟩
 obtain ⟨di, hdi⟩ : ∃ i : Int, (dn : Int) = i := ⟨_, rfl⟩
 rw [hfi] at hfr
 rw [hdi] at hdn hrd
 have hfo' : (v = 1 → fl = dl ∧ fi = di) ∧ (v = 2 → fl = pl ∧ fi = mi) ∧ (¬ v = 1 → ¬ v = 2 → fi = 1) := by
  refine ⟨fun h => ?_, fun h => ?_, fun h h' => ?_⟩
  · injection hfo.1 h with e1 e2; exact ⟨e1, by omega⟩
  · obtain ⟨e1, e2⟩ := hfo.2.1 h; exact ⟨e1, by omega⟩
  · injection hfo.2.2 h h' with e1 e2; omega
 clear hfo
 have HDI := Lib.hid hdi
 have HFO := Lib.hid hfo'
 have HGR := Lib.hid hgr
 have HDN := Lib.hid hdn
 have HRD := Lib.hid hrd
 have HFR := Lib.hid hfr
 have HPT := Lib.hid hpt
 have HUP := Lib.hid hup
 have HSS := Lib.hid hss
 have HLT := Lib.hid hlt
 have HLN := Lib.hid hln
 have HUD := Lib.hid hud
 have qd : (di != di) = false := by simp
 clear hdi hfi hfo' hgr hdn hrd hfr hpt hup hss hlt hln hud haW hTW k1 hbb hW ha hT hD hU hF
 go_enter Tryz.func3, Tryz.ntmps3
 go_upto_region 1 with fail
 rw [HW.out]
 go_wp2_with (with_reducible refine wpList_load_blk_w 32 _ rfl w.heap.size 32 _ _ ?_ ?_ (HKa.out.bel HC.out) Tryz.underlying32 ?_ ?_ ?_; (focus kernel_rfl); (focus kernel_rfl); (focus rfl); (focus kernel_rfl))
 refine (HG1.out _ (HRa.out.below HC.out)).mono ?_
 rintro e u1 ⟨rfl, hb1⟩
 replace HC := Lib.hid (bel_trans HC.out hb1)
 clear hb1
 cases ga with
 | true =>
   go_wp2_with fail
   refine (HAW.out _ HC.out).mono ?_
   rintro e uz ⟨rfl, hb1⟩
   replace HC := Lib.hid (bel_trans HC.out hb1)
   clear hb1
   go_wp2_with fail
   go_ret
   exact ⟨rfl, HB.out.trans (HC.out.mono HB.out.size)⟩
 | false =>
   have HY := Lib.hid (HGR.out (by first | rfl | trivial))
   clear HGR HG1
   go_wp2_with (with_reducible refine wpList_load_blk_w 32 _ rfl w.heap.size 32 _ _ ?_ ?_ (HKa.out.bel HC.out) Tryz.underlying32 ?_ ?_ ?_; (focus kernel_rfl); (focus kernel_rfl); (focus rfl); (focus kernel_rfl))
   refine (HDN.out _ HC.out).mono ?_
   rintro e u2 ⟨A1, n1, c1, rfl, hr1, hb1, hfx⟩
   have HR1 := Lib.hid hr1
   have HFX := Lib.hid hfx
   replace HC := Lib.hid (bel_trans HC.out hb1)
   clear hr1 hfx hb1
   go_wp2_with (with_reducible refine wpList_load_blk_w 32 _ rfl w.heap.size 32 _ _ ?_ ?_ (HKa.out.bel HC.out) Tryz.underlying32 ?_ ?_ ?_; (focus kernel_rfl); (focus kernel_rfl); (focus rfl); (focus kernel_rfl))
   refine (HRD.out _ HC.out HY.out).mono ?_
   rintro e u3 ⟨A2, n2, c2, rfl, hr2, hb1, _⟩
   have HR2 := Lib.hid hr2
   replace HR1 := Lib.hid (HR1.out.below hb1)
   replace HC := Lib.hid (bel_trans HC.out hb1)
   clear hr2 hb1
   go_wp2_with (with_reducible refine wpList_load_blk_w 32 _ rfl w.heap.size 32 _ _ ?_ ?_ (HKa.out.bel HC.out) Tryz.underlying32 ?_ ?_ ?_; (focus kernel_rfl); (focus kernel_rfl); (focus rfl); (focus kernel_rfl))
   refine (HFR.out _ HC.out).mono ?_
   rintro e u4 ⟨A3, n3, c3, rfl, hr3, hb1⟩
   have HR3 := Lib.hid hr3
   replace HR1 := Lib.hid (HR1.out.below hb1)
   replace HR2 := Lib.hid (HR2.out.below hb1)
   replace HC := Lib.hid (bel_trans HC.out hb1)
   clear hr3 hb1
   go_wp2_with (with_reducible refine wpList_load_blk_w 32 _ rfl w.heap.size 32 _ _ ?_ ?_ (HKa.out.bel HC.out) Tryz.underlying32 ?_ ?_ ?_; (focus kernel_rfl); (focus kernel_rfl); (focus rfl); (focus kernel_rfl))
   refine (HPT.out _ HC.out).mono ?_
   rintro e u5 ⟨A4, n4, c4, rfl, hr4, hb1, _⟩
   have HR4 := Lib.hid hr4
   replace HR1 := Lib.hid (HR1.out.below hb1)
   replace HR2 := Lib.hid (HR2.out.below hb1)
   replace HR3 := Lib.hid (HR3.out.below hb1)
   have HC5 := Lib.hid (bel_trans HC.out hb1)
   replace HKa := Lib.hid (HKa.out.bel HC5.out)
   replace HRa := Lib.hid (HRa.out.below HC5.out)
   clear hr4 hb1 HC HDN HRD HFR HPT
   have HC := Lib.hid (Below.refl u5.heap.size u5)
   go_wp2_with fail
   refine (Cp.same_tells A1 A2 n1 n2 _ _ _ _ true _ (HR1.out.below HC.out) (HR2.out.below HC.out) (decide_eq_true rfl)).mono ?_
   rintro e u6 ⟨rfl, hb1⟩
   replace HC := Lib.hid (bel_trans HC.out hb1)
   clear hb1
   go_upto_region 9 with fail
   go_cut [87] from 15 (fun cv wx => cv = .bool false ∧ Below u5.heap.size u5 wx)
   case first =>
    as_aux_lemma =>
     by_cases h1 : v = 1
     · obtain ⟨rfl, rfl⟩ := HFO.out.1 h1
       subst h1
       go_wp2_with fail
       refine (Cp.same_tells A3 A1 n3 n1 _ _ _ _ true _ (HR3.out.below HC.out) (HR1.out.below HC.out) (decide_eq_true rfl)).mono ?_
       rintro e u7 ⟨rfl, hb1⟩
       replace HC := Lib.hid (bel_trans HC.out hb1)
       clear hb1
       go_wp2_with fail
       go_meet
       case rel => exact ⟨rfl, HC.out⟩
     by_cases h2 : v = 2
     · obtain ⟨rfl, rfl⟩ := HFO.out.2.1 h2
       subst h2
       have qm : (fi != fi) = false := by simp
       go_wp2_with fail
       refine (Cp.same_tells A3 A4 n3 n4 _ _ _ _ true _ (HR3.out.below HC.out) (HR4.out.below HC.out) (decide_eq_true rfl)).mono ?_
       rintro e u7 ⟨rfl, hb1⟩
       replace HC := Lib.hid (bel_trans HC.out hb1)
       clear hb1
       go_wp2_with fail
       go_meet
       case rel => exact ⟨rfl, HC.out⟩
     obtain rfl := HFO.out.2.2 h1 h2
     have q1 : (v == 1) = false := beq_eq_false_iff_ne.2 h1
     have q2 : (v == 2) = false := beq_eq_false_iff_ne.2 h2
     have q3 : (v != 1) = true := bne_iff_ne.2 h1
     have q4 : (v != 2) = true := bne_iff_ne.2 h2
     clear h1 h2
     go_wp2_with fail
     go_meet
     case rel => exact ⟨rfl, HC.out⟩
   case rest =>
    obtain ⟨rfl, hbx⟩ := hcut
    clear HC
    generalize wc = U at hbx ⊢
    have HC := Lib.hid hbx
    clear hbx
    by_cases he : di = 0
    case neg =>
     have qe : (di != 0) = true := bne_iff_ne.2 he
     clear he
     go_wp2_with fail
     refine (HAW.out _ (HC5.out.trans (HC.out.mono HC5.out.size))).mono ?_
     rintro e uz ⟨rfl, hb1⟩
     replace HC := Lib.hid (bel_trans HC.out hb1)
     clear hb1
     go_wp2_with fail
     go_ret
     exact ⟨rfl, HB.out.trans ((HC5.out.trans (HC.out.mono HC5.out.size)).mono HB.out.size)⟩
    have hdz : dn = 0 := by have := HDI.out; omega
    have hfx := HFX.out hdz
    have hup := HUP.out dl A1 n1 c1 U (HC5.out.trans (HC.out.mono HC5.out.size)) (HR1.out.below HC.out) (HLT.out HFX.out) (by have h := HLN.out HFX.out; have h2 := HR1.out.len; rw [length_cs] at h2; omega)
    rw [HUD.out hdz hfx] at hup
    unfold TakesMg at hup
    simp only at hup
    have HUQ := Lib.hid hup
    have qe : (di != 0) = false := by rw [he]; rfl
    clear he hdz hfx hup HUP HUD HFX HLT HLN HR2 HR3 HR4 HFO HDI
    go_wp2_with fail
    refine HUQ.out.mono ?_
    rintro e u8 ⟨V, k, d, rfl, hrs, hb1⟩
    have hcx := bel_alloc (bel_trans HC.out hb1) (.cells #[.int .i64 aM, .int .i64 aR, .int .i64 aN, .int .i64 aB, .int .i64 aC, .int .i64 aT, .int .i64 aU, .int .i64 aS, .int .i64 aK, .int .i64 aL, .int .i64 aQ, .string aY, .string aV, .int .i64 aZ, .slice V k d, .int .i64 aE, .int .i64 aG, .int .i64 aW] 32)
    have hkx := Blk.new u8 32 #[.int .i64 aM, .int .i64 aR, .int .i64 aN, .int .i64 aB, .int .i64 aC, .int .i64 aT, .int .i64 aU, .int .i64 aS, .int .i64 aK, .int .i64 aL, .int .i64 aQ, .string aY, .string aV, .int .i64 aZ, .slice V k d, .int .i64 aE, .int .i64 aG, .int .i64 aW]
    have hrx := hrs.alloc (.cells #[.int .i64 aM, .int .i64 aR, .int .i64 aN, .int .i64 aB, .int .i64 aC, .int .i64 aT, .int .i64 aU, .int .i64 aS, .int .i64 aK, .int .i64 aL, .int .i64 aQ, .string aY, .string aV, .int .i64 aZ, .slice V k d, .int .i64 aE, .int .i64 aG, .int .i64 aW] 32)
    obtain ⟨g, hg⟩ : ∃ g, u8.heap.size = g := ⟨_, rfl⟩
    obtain ⟨U9, hU9⟩ : ∃ v, u8.alloc (.cells #[.int .i64 aM, .int .i64 aR, .int .i64 aN, .int .i64 aB, .int .i64 aC, .int .i64 aT, .int .i64 aU, .int .i64 aS, .int .i64 aK, .int .i64 aL, .int .i64 aQ, .string aY, .string aV, .int .i64 aZ, .slice V k d, .int .i64 aE, .int .i64 aG, .int .i64 aW] 32) = v := ⟨_, rfl⟩
    rw [hU9] at hcx hkx hrx
    rw [hg] at hkx
    have HU9 := Lib.hid hU9
    have HG9 := Lib.hid hg
    have HK9 := Lib.hid hkx
    have HR9 := Lib.hid hrx
    have HKm := Lib.hid (HKa.out.bel hcx)
    have HRm := Lib.hid (HRa.out.below hcx)
    have HC9 := Lib.hid (HC5.out.trans (hcx.mono HC5.out.size))
    clear hcx hkx hrx hU9 hg hb1 hrs HC HKa HRa HUQ
    have HC := Lib.hid (Below.refl U9.heap.size U9)
    go_upto_region 14 with fail
    rw [HU9.out, HG9.out]
    go_wp2_with (first | ((with_reducible refine wpList_load_blk_w 32 _ rfl w.heap.size 32 _ _ ?_ ?_ HKm.out Tryz.underlying32 ?_ ?_ ?_); (focus rfl); (focus kernel_rfl); (focus rfl); (focus kernel_rfl)) | ((with_reducible refine wpList_load_blk_w 32 _ rfl g 32 _ _ ?_ ?_ HK9.out Tryz.underlying32 ?_ ?_ ?_); (focus rfl); (focus kernel_rfl); (focus rfl); (focus kernel_rfl)))
    refine (HSS.out aA an ac V k d _ HRm.out HR9.out).mono ?_
    rintro e ua ⟨rfl, hb1⟩
    replace HC := Lib.hid (bel_trans HC.out hb1)
    clear hb1
    go_wp2_with fail
    refine (HAW.out _ (HC9.out.trans (HC.out.mono HC9.out.size))).mono ?_
    rintro e uz ⟨rfl, hb1⟩
    replace HC := Lib.hid (bel_trans HC.out hb1)
    clear hb1
    go_wp2_with fail
    go_ret
    exact ⟨rfl, HB.out.trans ((HC9.out.trans (HC.out.mono HC9.out.size)).mono HB.out.size)⟩
end Go.Proofs.YthlhchaoedcdbaaGreatDoor.Mg
