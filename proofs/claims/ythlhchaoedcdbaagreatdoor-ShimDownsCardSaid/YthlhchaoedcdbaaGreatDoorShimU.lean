/-
  Texts of earlier layers, as one.
-/
import Derived.Test.YthlhchaoedcdbaaGreatDoorShimHv
import Derived.Test.YthlhchaoedcdbaaGreatDoorShimSt
import Derived.Test.YthlhchaoedcdbaaGreatDoorRAtt
import Derived.Test.YthlhchaoedcdbaaGreatDoorMsgFO
import Derived.Test.YthlhchaoedcdbaaGreatDoorMsgOwnTake
import Derived.Test.YthlhchaoedcdbaaGreatDoorRBase
import Derived.Deep.RegionHeld
import Derived.Deep.Cut
/- The program's Up of bytes: the message whose old form they are. -/
namespace Go.Proofs.YthlhchaoedcdbaaGreatDoor.Mg
open Go.RowKit Mem Ids Att Rk Cod
theorem up_bytes {y : It} (fy : Fit y) : ∀ b ∈ (if chk y 0 = 0 then frame 2 (form y) else []), b < 256 := by
 split
 · exact frame_lt' 2 (by decide) (Cp.form_bytes _ fy)
 · intro b hb; cases hb
theorem up_length {y : It} : (if chk y 0 = 0 then frame 2 (form y) else []).length ≤ 5 + (form y).length := by
 split
 · rw [length_frame]; omega
 · exact Nat.zero_le _
set_option maxRecDepth 100000 in
set_option maxHeartbeats 8000000 in
theorem has_up : HasUp := by
 intro b A m c w hT hr hb hm
 have hz0 := Blk.new w 32 #[.int .i64 0, .int .i64 0, .int .i64 0, .int .i64 0, .int .i64 0, .int .i64 0, .int .i64 0, .int .i64 0, .int .i64 0, .int .i64 0, .int .i64 0, .string ⟨#[]⟩, .string ⟨#[]⟩, .int .i64 0, .slice none 0 0, .int .i64 0, .int .i64 0, .int .i64 0]
 have hbz := bel_alloc (Below.refl w.heap.size w) (.cells #[.int .i64 0, .int .i64 0, .int .i64 0, .int .i64 0, .int .i64 0, .int .i64 0, .int .i64 0, .int .i64 0, .int .i64 0, .int .i64 0, .int .i64 0, .string ⟨#[]⟩, .string ⟨#[]⟩, .int .i64 0, .slice none 0 0, .int .i64 0, .int .i64 0, .int .i64 0] 32)
 have hgz := hT.below hbz
 have hlb := hr.len
 rw [length_cs] at hlb
 have hrz := hr.below hbz
 obtain ⟨W, hW⟩ : ∃ W, w.alloc (.cells #[.int .i64 0, .int .i64 0, .int .i64 0, .int .i64 0, .int .i64 0, .int .i64 0, .int .i64 0, .int .i64 0, .int .i64 0, .int .i64 0, .int .i64 0, .string ⟨#[]⟩, .string ⟨#[]⟩, .int .i64 0, .slice none 0 0, .int .i64 0, .int .i64 0, .int .i64 0] 32) = W := ⟨_, rfl⟩
 rw [hW] at hz0 hbz hgz hrz
 have hop := ownopen_whole 1 b A m c W (by decide) hgz.1 hrz hb (by omega)
 have HZ := Lib.hid hz0
 have HB := Lib.hid hbz
 have HG := Lib.hid hgz
 have HW := Lib.hid hW
 clear hz0 hbz hgz hrz hW hT hr
 obtain ⟨⟨x, e0⟩, hx⟩ : ∃ r, openX 1 b = r := ⟨_, rfl⟩
 rw [hx] at hop ⊢
 have hln : e0 = 0 → (form x).length ≤ 900000 ∧ Fit x := fun h => by
  subst h
  have h1 := open_len hb hx
  exact ⟨by omega, h1.2⟩
 have HLN := Lib.hid hln
 have HOP := Lib.hid hop
 clear hx hop hlb hb hm hln
 go_enter Tryz.func12, Tryz.ntmps12
 go_upto_region 1 with fail
 rw [HW.out]
 go_wp2_with fail
 refine HOP.out.mono ?_
 rintro e u ⟨D, d, rfl, hwx, hb4⟩
 simp only at hwx ⊢
 obtain ⟨n, hn⟩ : ∃ n, x.kids.length = n := ⟨_, rfl⟩
 have hxb := hwx.lies.bounds
 rw [hn] at hxb ⊢
 have hkx := Blk.new u 57 #[.int .i64 x.kind, .int .u64 (x.num : Int), .string x.str, .slice D n d]
 have hbu := bel_alloc hb4 (.cells #[.int .i64 x.kind, .int .u64 (x.num : Int), .string x.str, .slice D n d] 57)
 have hwu := hwx.alloc (.cells #[.int .i64 x.kind, .int .u64 (x.num : Int), .string x.str, .slice D n d] 57)
 obtain ⟨G, hG⟩ : ∃ G, u.heap.size = G := ⟨_, rfl⟩
 obtain ⟨U, hU⟩ : ∃ U, u.alloc (.cells #[.int .i64 x.kind, .int .u64 (x.num : Int), .string x.str, .slice D n d] 57) = U := ⟨_, rfl⟩
 rw [hU] at hbu hwu hkx
 rw [hG] at hkx
 have hadr : ∀ h : 0 < n, ∃ g, D = some ⟨g, 0, none⟩ ∧ W.heap.size ≤ g ∧ g < G := fun h => by
  obtain ⟨g, e1, e2, e3⟩ := Whole.addr hwx (by omega)
  exact ⟨g, e1, e2, by omega⟩
 have HKX := Lib.hid hkx
 have HWU := Lib.hid hwu
 have HBU := Lib.hid hbu
 have HGE := Lib.hid hG
 have HU := Lib.hid hU
 have HXN := Lib.hid hn
 have HXB := Lib.hid hxb
 have HAD := Lib.hid hadr
 clear hkx hwu hbu hG hU hn hxb hb4 hwx hadr
 go_upto_region 2 with fail
 rw [HU.out, HGE.out]
 by_cases he : e0 = 0
 case neg =>
  have b1 : ((e0 : Int) != 0) = true := bne_iff_ne.2 (by omega)
  have HZU := Lib.hid (HZ.out.bel HBU.out)
  have HBW := Lib.hid (HB.out.trans (HBU.out.mono HB.out.size))
  go_wp2_with (first | fail | ((with_reducible refine wpList_store_blk rfl 32 _ _ rfl w.heap.size 32 #[.int .i64 0, .int .i64 0, .int .i64 0, .int .i64 0, .int .i64 0, .int .i64 0, .int .i64 0, .int .i64 0, .int .i64 0, .int .i64 0, .int .i64 0, .string ⟨#[]⟩, .string ⟨#[]⟩, .int .i64 0, .slice none 0 0, .int .i64 0, .int .i64 0, .int .i64 0] #[.int .i64 0, .int .i64 0, .int .i64 0, .int .i64 0, .int .i64 0, .int .i64 0, .int .i64 0, .int .i64 0, .int .i64 0, .int .i64 0, .int .i64 0, .string ⟨#[]⟩, .string ⟨#[]⟩, .int .i64 0, .slice none 0 0, .int .i64 0, .int .i64 0, .int .i64 0] ?_ ?_ HZU.out ?_ ?_ ?_ ?_); (focus rfl); (focus rfl); (focus kernel_rfl); (focus rfl); (focus kernel_rfl); intro w9 hblk2 hgr))
  refine bodyPost_ret (v := .tuple #[.agg #[.int .i64 0, .int .i64 0, .int .i64 0, .int .i64 0, .int .i64 0, .int .i64 0, .int .i64 0, .int .i64 0, .int .i64 0, .int .i64 0, .int .i64 0, .string ⟨#[]⟩, .string ⟨#[]⟩, .int .i64 0, .slice none 0 0, .int .i64 0, .int .i64 0, .int .i64 0], .int .i64 (e0 : Int)]) (results_blk_tmp Tryz.results12 _ _ w.heap.size 32 _ _ _ rfl rfl hblk2 Tryz.underlying32 rfl (by kernel_rfl)) rfl ?_
  rw [refUp_bad x he]
  exact ⟨none, 0, 0, rfl, Rs.nil_ _, (fun _ _ e => by cases e), HBW.out.trans (gr_below hgr HBW.out.size fun b hb => by injection hb with hb; omega)⟩
 subst he
 obtain ⟨hfl, hfx⟩ := HLN.out (by first | rfl | trivial)
 obtain ⟨T, hT⟩ : ∃ T, refUp (x, 0) = T := ⟨_, rfl⟩
 have hup := fun (R : Mg × Nat) (fy : Fit (upIt x)) (hR : ownTake (openX 2 (if chk (upIt x) 0 = 0 then frame 2 (form (upIt x)) else [])) = R) => up_is hfx fy (by have := upIt_len hfx; omega) hR
 have huy := upIt_len hfx
 rw [hT] at hup
 have HTE := Lib.hid hT
 clear hT
 have hpl := place_any x D d (fun b => b < U.heap.size) U (HG.out.3.below HBU.out) (HWU.out.lies.more fun b _ h => h) (fun b h => h)
 rw [HXN.out] at hpl
 have hui : upIt x = swapIt x (upOf (x.kids.getD (placeOf x) Cmd.zeroIt)) := rfl
 unfold swapIt at hui
 have hlt := place_lt (x := x)
 obtain ⟨p, hp⟩ : ∃ p, placeOf x = p := ⟨_, rfl⟩
 rw [hp] at hpl hui hlt
 rw [HXN.out] at hlt
 obtain ⟨y, hy⟩ : ∃ y, upIt x = y := ⟨_, rfl⟩
 rw [hy] at hup huy hui
 have HPL := Lib.hid hpl
 have HUI := Lib.hid hui
 have HLT := Lib.hid hlt
 have HUP0 := Lib.hid hup
 have HLY := Lib.hid (show (form y).length ≤ 900002 by omega)
 clear hpl hp hlt hui hup huy hy hfl hfx HLN
 obtain ⟨x0, x1, x2, x3⟩ := blk4 HKX.out
 go_wp2_with fail
 refine HPL.out.mono ?_
 rintro e u6 ⟨rfl, hb6⟩
 clear x0 x1 x2 x3
 have HC6 := Lib.hid hb6
 clear hb6
 by_cases hp0 : p = 0
 · as_aux_lemma =>
   have hxy := HUI.out
   rw [if_neg (by omega)] at hxy
   subst hp0
   subst hxy
   have hlx := (HWU.out.below HC6.out).lies.more (S' := fun b => b < u6.heap.size) fun b _ h => h
   have hfr := ownframe_any 2 y D d _ u6 (by decide) (HG.out.1.below (bel_trans HBU.out HC6.out)) (by have := HLY.out; omega) hlx (fun b h => h)
   rw [HXN.out] at hfr
   have HF := Lib.hid hfr
   have HFY := Lib.hid hlx.fit
   have HUP := Lib.hid (fun R hR => HUP0.out R HFY.out hR)
   have HKV := Lib.hid (HKX.out.bel HC6.out)
   have HCW := Lib.hid (bel_trans HBU.out HC6.out)
   clear hlx hfr
   obtain ⟨c0, c1, c2, c3⟩ := blk4 HKV.out
   go_wp2_with fail
   refine HF.out.mono ?_
   rintro e u9 ⟨A9, n9, c9, rfl, hr9, hb9, _⟩
   replace HCW := Lib.hid (bel_trans HCW.out hb9)
   have hl9 := hr9.len
   rw [length_cs] at hl9
   have hl9' := up_length (y := y)
   have htk := mtake_new _ A9 n9 c9 u9 (HG.out.2.below HCW.out) (HG.out.1.below HCW.out) hr9 (up_bytes HFY.out) (by have := HLY.out; omega)
   obtain ⟨R, hR⟩ : ∃ R, ownTake (openX 2 (if chk y 0 = 0 then frame 2 (form y) else [])) = R := ⟨_, rfl⟩
   have hup := HUP.out R hR
   rw [hR] at htk
   clear hR hr9 hb9 hl9 hl9' c0 c1 c2 c3
   obtain ⟨q, er⟩ := R
   obtain ⟨aM, ⟨aR, aN⟩, ⟨aB, aC⟩, ⟨aT, aU⟩, aS, ⟨aK, aL, aQ, aY, aV, aZ⟩, ⟨al, aE, aG⟩, aW⟩ := q
   unfold TakesNw at htk
   simp only at htk hup
   have HTK := Lib.hid htk
   have HU1 := Lib.hid hup.1
   have HU2 := Lib.hid hup.2
   clear htk hup
   as_aux_lemma =>
    go_wp2_with fail
    refine HTK.out.mono ?_
    rintro e u10 ⟨V, k, dd, rfl, hrs, hnew, hb10⟩
    have hkm := Blk.new u10 32 #[.int .i64 aM, .int .i64 aR, .int .i64 aN, .int .i64 aB, .int .i64 aC, .int .i64 aT, .int .i64 aU, .int .i64 aS, .int .i64 aK, .int .i64 aL, .int .i64 aQ, .string aY, .string aV, .int .i64 aZ, .slice V k dd, .int .i64 aE, .int .i64 aG, .int .i64 aW]
    have hbm := bel_alloc (bel_trans HCW.out hb10) (.cells #[.int .i64 aM, .int .i64 aR, .int .i64 aN, .int .i64 aB, .int .i64 aC, .int .i64 aT, .int .i64 aU, .int .i64 aS, .int .i64 aK, .int .i64 aL, .int .i64 aQ, .string aY, .string aV, .int .i64 aZ, .slice V k dd, .int .i64 aE, .int .i64 aG, .int .i64 aW] 32)
    have hrm := hrs.alloc (.cells #[.int .i64 aM, .int .i64 aR, .int .i64 aN, .int .i64 aB, .int .i64 aC, .int .i64 aT, .int .i64 aU, .int .i64 aS, .int .i64 aK, .int .i64 aL, .int .i64 aQ, .string aY, .string aV, .int .i64 aZ, .slice V k dd, .int .i64 aE, .int .i64 aG, .int .i64 aW] 32)
    have hnw : ∀ g o, V = some ⟨g, o, none⟩ → w.heap.size < g := fun g o e => by have h1 := hnew g o e; have h2 := HCW.out.size; have h3 := HZ.out.lt; omega
    obtain ⟨Q, hQ⟩ : ∃ Q, u10.heap.size = Q := ⟨_, rfl⟩
    obtain ⟨Z, hZ⟩ : ∃ Z, u10.alloc (.cells #[.int .i64 aM, .int .i64 aR, .int .i64 aN, .int .i64 aB, .int .i64 aC, .int .i64 aT, .int .i64 aU, .int .i64 aS, .int .i64 aK, .int .i64 aL, .int .i64 aQ, .string aY, .string aV, .int .i64 aZ, .slice V k dd, .int .i64 aE, .int .i64 aG, .int .i64 aW] 32) = Z := ⟨_, rfl⟩
    rw [hZ] at hbm hkm hrm
    rw [hQ] at hkm
    have HKM := Lib.hid hkm
    have HRM := Lib.hid hrm
    have HQ := Lib.hid hQ
    have HZZ := Lib.hid hZ
    have HBM := Lib.hid hbm
    have HNW := Lib.hid hnw
    clear hkm hrm hQ hZ hbm hnw hrs hnew hb10
    go_upto_region 10 with fail
    rw [HZZ.out, HQ.out]
    have HZU := Lib.hid (HZ.out.bel HBM.out)
    have HBW := Lib.hid (HB.out.trans (HBM.out.mono HB.out.size))
    by_cases her : er = 0
    case neg =>
     have b1 : ((er : Int) != 0) = true := bne_iff_ne.2 (by omega)
     have hbad := HU2.out (fun e => absurd e her)
     go_wp2_with (first | fail | ((with_reducible refine wpList_store_blk rfl 32 _ _ rfl w.heap.size 32 #[.int .i64 0, .int .i64 0, .int .i64 0, .int .i64 0, .int .i64 0, .int .i64 0, .int .i64 0, .int .i64 0, .int .i64 0, .int .i64 0, .int .i64 0, .string ⟨#[]⟩, .string ⟨#[]⟩, .int .i64 0, .slice none 0 0, .int .i64 0, .int .i64 0, .int .i64 0] #[.int .i64 0, .int .i64 0, .int .i64 0, .int .i64 0, .int .i64 0, .int .i64 0, .int .i64 0, .int .i64 0, .int .i64 0, .int .i64 0, .int .i64 0, .string ⟨#[]⟩, .string ⟨#[]⟩, .int .i64 0, .slice none 0 0, .int .i64 0, .int .i64 0, .int .i64 0] ?_ ?_ HZU.out ?_ ?_ ?_ ?_); (focus rfl); (focus rfl); (focus kernel_rfl); (focus rfl); (focus kernel_rfl); intro w9 hblk2 hgr))
     refine bodyPost_ret (v := .tuple #[.agg #[.int .i64 0, .int .i64 0, .int .i64 0, .int .i64 0, .int .i64 0, .int .i64 0, .int .i64 0, .int .i64 0, .int .i64 0, .int .i64 0, .int .i64 0, .string ⟨#[]⟩, .string ⟨#[]⟩, .int .i64 0, .slice none 0 0, .int .i64 0, .int .i64 0, .int .i64 0], .int .i64 4]) (results_blk_tmp Tryz.results12 _ _ w.heap.size 32 _ _ _ rfl rfl hblk2 Tryz.underlying32 rfl (by kernel_rfl)) rfl ?_
     rw [HTE.out, hbad]
     exact ⟨none, 0, 0, rfl, Rs.nil_ _, (fun _ _ e => by cases e), HBW.out.trans (gr_below hgr HBW.out.size fun b hb => by injection hb with hb; omega)⟩
    subst her
    have hon := onlynew_any aM aR aN aB aC aT aU aS aK aL aQ aY aV aZ V k dd aE aG aW al
    generalize noOld ⟨aM, (aR, aN), (aB, aC), (aT, aU), aS, ⟨aK, aL, aQ, aY, aV, aZ⟩, ⟨al, aE, aG⟩, aW⟩ = s at hon HU1 HU2
    have HON := Lib.hid hon
    clear hon
    go_wp2_with (with_reducible refine wpList_load_blk_w 32 _ rfl Q 32 _ _ ?_ ?_ HKM.out Tryz.underlying32 ?_ ?_ ?_; (focus kernel_rfl); (focus kernel_rfl); (focus rfl); (focus kernel_rfl))
    refine (HON.out _).mono ?_
    rintro e u11 ⟨rfl, hb11⟩
    replace HKM := Lib.hid (HKM.out.bel hb11)
    replace HRM := Lib.hid (HRM.out.below hb11)
    replace HBM := Lib.hid (bel_trans HBM.out hb11)
    clear hb11 HZU HBW
    have HZU := Lib.hid (HZ.out.bel HBM.out)
    have HBW := Lib.hid (HB.out.trans (HBM.out.mono HB.out.size))
    cases s with
    | true =>
      have hbad := HU2.out (fun _ => (by first | rfl | trivial))
      go_wp2_with (first | fail | ((with_reducible refine wpList_store_blk rfl 32 _ _ rfl w.heap.size 32 #[.int .i64 0, .int .i64 0, .int .i64 0, .int .i64 0, .int .i64 0, .int .i64 0, .int .i64 0, .int .i64 0, .int .i64 0, .int .i64 0, .int .i64 0, .string ⟨#[]⟩, .string ⟨#[]⟩, .int .i64 0, .slice none 0 0, .int .i64 0, .int .i64 0, .int .i64 0] #[.int .i64 0, .int .i64 0, .int .i64 0, .int .i64 0, .int .i64 0, .int .i64 0, .int .i64 0, .int .i64 0, .int .i64 0, .int .i64 0, .int .i64 0, .string ⟨#[]⟩, .string ⟨#[]⟩, .int .i64 0, .slice none 0 0, .int .i64 0, .int .i64 0, .int .i64 0] ?_ ?_ HZU.out ?_ ?_ ?_ ?_); (focus rfl); (focus rfl); (focus kernel_rfl); (focus rfl); (focus kernel_rfl); intro w9 hblk2 hgr))
      refine bodyPost_ret (v := .tuple #[.agg #[.int .i64 0, .int .i64 0, .int .i64 0, .int .i64 0, .int .i64 0, .int .i64 0, .int .i64 0, .int .i64 0, .int .i64 0, .int .i64 0, .int .i64 0, .string ⟨#[]⟩, .string ⟨#[]⟩, .int .i64 0, .slice none 0 0, .int .i64 0, .int .i64 0, .int .i64 0], .int .i64 4]) (results_blk_tmp Tryz.results12 _ _ w.heap.size 32 _ _ _ rfl rfl hblk2 Tryz.underlying32 rfl (by kernel_rfl)) rfl ?_
      rw [HTE.out, hbad]
      exact ⟨none, 0, 0, rfl, Rs.nil_ _, (fun _ _ e => by cases e), HBW.out.trans (gr_below hgr HBW.out.size fun b hb => by injection hb with hb; omega)⟩
    | false =>
      have hok := HU1.out (by first | rfl | trivial) (by first | rfl | trivial)
      go_wp2_with (first | (with_reducible refine wpList_load_blk_w 32 _ rfl Q 32 _ _ ?_ ?_ HKM.out Tryz.underlying32 ?_ ?_ ?_; (focus kernel_rfl); (focus kernel_rfl); (focus rfl); (focus kernel_rfl)) | ((with_reducible refine wpList_store_blk rfl 32 _ _ rfl w.heap.size 32 #[.int .i64 0, .int .i64 0, .int .i64 0, .int .i64 0, .int .i64 0, .int .i64 0, .int .i64 0, .int .i64 0, .int .i64 0, .int .i64 0, .int .i64 0, .string ⟨#[]⟩, .string ⟨#[]⟩, .int .i64 0, .slice none 0 0, .int .i64 0, .int .i64 0, .int .i64 0] #[.int .i64 aM, .int .i64 aR, .int .i64 aN, .int .i64 aB, .int .i64 aC, .int .i64 aT, .int .i64 aU, .int .i64 aS, .int .i64 aK, .int .i64 aL, .int .i64 aQ, .string aY, .string aV, .int .i64 aZ, .slice V k dd, .int .i64 aE, .int .i64 aG, .int .i64 aW] ?_ ?_ HZU.out ?_ ?_ ?_ ?_); (focus rfl); (focus rfl); (focus kernel_rfl); (focus rfl); (focus kernel_rfl); intro w9 hblk2 hgr))
      refine bodyPost_ret (v := .tuple #[.agg #[.int .i64 aM, .int .i64 aR, .int .i64 aN, .int .i64 aB, .int .i64 aC, .int .i64 aT, .int .i64 aU, .int .i64 aS, .int .i64 aK, .int .i64 aL, .int .i64 aQ, .string aY, .string aV, .int .i64 aZ, .slice V k dd, .int .i64 aE, .int .i64 aG, .int .i64 aW], .int .i64 0]) (results_blk_tmp Tryz.results12 _ _ w.heap.size 32 _ _ _ rfl rfl hblk2 Tryz.underlying32 rfl (by kernel_rfl)) rfl ?_
      rw [HTE.out, hok]
      have hlt := HZ.out.lt
      exact ⟨V, k, dd, rfl, HRM.out.grown hgr (fun g o e h => by injection h with h; have := HNW.out g o e; omega), (fun g o e => by have := HNW.out g o e; omega), HBW.out.trans (gr_below hgr HBW.out.size fun b hb => by injection hb with hb; omega)⟩
 · as_aux_lemma =>
   have hp1 : 0 < p := by omega
   have hxy := HUI.out
   rw [if_pos hp1] at hxy
   have hpn : p < n := HLT.out hp1
   have hw6 := HWU.out.below HC6.out
   have hrow := (hw6.lies.more (S' := fun b => b < u6.heap.size) fun b _ h => h).row
   rw [HXN.out] at hrow
   obtain ⟨g, o, A', c', hD, _, _, q0, q1, q2, q3, hly⟩ := Rk.row_at hrow (k := p) hpn
   have ho0 : o = 0 ∧ W.heap.size ≤ g ∧ g < G := by
    obtain ⟨g1, e1, e2, e3⟩ := HAD.out (by omega)
    rw [hD] at e1
    injection e1 with e1
    injection e1 with e1 e4
    exact ⟨e4, by omega, by omega⟩
   subst hD
   obtain ⟨v, hv⟩ : ∃ v, x.kids.getD p Cmd.zeroIt = v := ⟨_, rfl⟩
   rw [hv] at q0 q1 q2 q3 hly hxy
   clear hv hrow
   have hot := oldtake_any v A' c' _ u6 hly (fun b h => h)
   have hai := fun (u : World) (V : Option Addr) (k c : Nat) (h : Rs u V k c ((Att.oldTake v).getD Att.zeroAt).dp) => attitem_any ((Att.oldTake v).getD Att.zeroAt).dp ((Att.oldTake v).getD Att.zeroAt).sq ((Att.oldTake v).getD Att.zeroAt).tg V k c u h
   have huo : Att.attItem ⟨((Att.oldTake v).getD Att.zeroAt).dp, ((Att.oldTake v).getD Att.zeroAt).sq, ((Att.oldTake v).getD Att.zeroAt).tg⟩ = upOf v := rfl
   rw [huo] at hai
   generalize upOf v = z at hai hxy
   unfold TakesAt at hot
   generalize (Att.oldTake v).isSome = so at hot
   generalize (Att.oldTake v).getD Att.zeroAt = av at hot hai
   obtain ⟨al, aq, ag⟩ := av
   simp only at hot hai
   have b1 : decide ((0 : Int) < (p : Int)) = true := decide_eq_true (by omega)
   have b2 : decide ((n : Int) ≤ (p : Int)) = false := decide_eq_false (by omega)
   have b3 : ¬ n ≤ p := by omega
   have HPN := Lib.hid (show p < x.kids.length by rw [HXN.out]; exact hpn)
   have HXY := Lib.hid hxy
   have HO0 := Lib.hid ho0.1
   have HGG := Lib.hid ho0.2.2
   have HGK := Lib.hid ho0.2.1
   have HW6 := Lib.hid hw6
   have HOT := Lib.hid hot
   have HAI0 := Lib.hid hai
   clear hxy ho0 hw6 hot hai hly hp0
   obtain ⟨x0, x1, x2, x3⟩ := blk4 (HKX.out.bel HC6.out)
   go_wp2_with fail
   refine HOT.out.mono ?_
   rintro e u7 ⟨V7, n7, c7, rfl, hr7, hb7, hnew7⟩
   clear x0 x1 x2 x3 q0 q1 q2 q3
   have hk7 := Blk.new u7 30 #[.slice V7 n7 c7, .int .i64 aq, .int .i64 ag]
   have hb8 := bel_alloc hb7 (.cells #[.slice V7 n7 c7, .int .i64 aq, .int .i64 ag] 30)
   have hr8 := hr7.alloc (.cells #[.slice V7 n7 c7, .int .i64 aq, .int .i64 ag] 30)
   obtain ⟨H, hH⟩ : ∃ H, u7.heap.size = H := ⟨_, rfl⟩
   obtain ⟨U2, hU2⟩ : ∃ U2, u7.alloc (.cells #[.slice V7 n7 c7, .int .i64 aq, .int .i64 ag] 30) = U2 := ⟨_, rfl⟩
   rw [hU2] at hb8 hr8 hk7
   rw [hH] at hk7
   have hgh : g < H := by have h1 := hb7.size; have h2 := (HKX.out.bel HC6.out).lt; have h3 := HGG.out; omega
   have HKH := Lib.hid hk7
   have HB8 := Lib.hid hb8
   have HRU := Lib.hid hr8
   have HH := Lib.hid hH
   have HU2 := Lib.hid hU2
   have HGH := Lib.hid hgh
   clear hk7 hb8 hr8 hH hU2 hb7 hr7 hnew7 hgh
   go_upto_region 7 with fail
   rw [HU2.out, HH.out]
   have HAI := Lib.hid (fun u (h : Rs u V7 n7 c7 al) => HAI0.out u V7 n7 c7 h)
   have HWX := Lib.hid (HW6.out.below HB8.out)
   have HKU := Lib.hid (HKX.out.bel (bel_trans HC6.out HB8.out))
   have HCU := Lib.hid (Below.drew (Below.refl U2.heap.size U2))
   have HCUV := Lib.hid (show W.heap.size ≤ U2.heap.size ∧ g < U2.heap.size by have h1 := HKU.out.lt; have h2 := HGK.out; have h3 := HGG.out; omega)
   refine wp_region_held_drew (S := (fun w' => Blk w' G 57 #[.int .i64 x.kind, .int .u64 (x.num : Int), .string x.str, .slice (some ⟨g, o, none⟩) n d] ∧ Blk w' H 30 #[.slice V7 n7 c7, .int .i64 aq, .int .i64 ag])) (by kernel_rfl) (by first | (with_reducible exact HS3.out) | (with_reducible exact ⟨HKU.out.bel HCU.out, HKH.out.bel HCU.out⟩)) (fun hHeld => ?_)
   refine held_take (i := 0) (d := 34) (v := (.pointer (some ⟨G, 3, none⟩))) rfl rfl (by kernel_rfl) (by kernel_rfl) (by kernel_rfl) (fun _ _ _ h => h) (by kernel_rfl) (fun w hSw => by (obtain ⟨hS1, hS2⟩ := hSw); go_simp) hHeld ?_
   try simp only [List.setIfInBounds_toArray, List.set_cons_zero, List.set_cons_succ]
   refine held_take (i := 1) (d := 35) (v := (.slice (some ⟨g, o, none⟩) n d)) rfl rfl (by kernel_rfl) (by kernel_rfl) (by kernel_rfl) (fun _ _ _ h => h) (by kernel_rfl) (fun w hSw => by obtain ⟨hS1, hS2⟩ := hSw; obtain ⟨c0, c1, c2, c3⟩ := blk4 hS1; clear hS1 hS2; go_simp) hHeld ?_
   try simp only [List.setIfInBounds_toArray, List.set_cons_zero, List.set_cons_succ]
   refine held_take (i := 2) (d := 36) (v := (.int .i64 (p : Int))) rfl rfl (by kernel_rfl) (by kernel_rfl) (by kernel_rfl) (fun _ _ _ h => h) (by kernel_rfl) (fun w hSw => by (obtain ⟨hS1, hS2⟩ := hSw); go_simp) hHeld ?_
   try simp only [List.setIfInBounds_toArray, List.set_cons_zero, List.set_cons_succ]
   refine held_take (i := 3) (d := 37) (v := (.agg #[.slice V7 n7 c7, .int .i64 aq, .int .i64 ag])) rfl rfl (by kernel_rfl) (by kernel_rfl) (by kernel_rfl) (fun _ _ _ h => h) (by kernel_rfl) (fun w hSw => by obtain ⟨hS1, hS2⟩ := hSw; have m0 := hS2.cell 0; have m1 := hS2.cell 1; have m2 := hS2.cell 2; simp at m0 m1 m2; clear hS1 hS2; go_simp) hHeld ?_
   try simp only [List.setIfInBounds_toArray, List.set_cons_zero, List.set_cons_succ]
   refine wpAnyH_ready (rs := [4]) (by kernel_rfl) (by simp) ?_
   refine AllReadyH.cons rfl (fun K hK => ?_) AllReadyH.nil
   go_simp
   go_at_call 30
   refine (HAI.out _ (HRU.out.below HCU.out)).mono ?_
   rintro e u7 ⟨Zz, zc, rfl, hlz, hb7⟩
   have HLZ := Lib.hid hlz
   have HU7 := Lib.hid (HWX.out.below (bel_trans HCU.out hb7))
   replace HCU := Lib.hid (bel_trans HCU.out hb7)
   clear hlz hb7
   refine hK.out _ _ (by first | (with_reducible exact HS3.out) | (with_reducible exact ⟨HKU.out.bel HCU.out, HKH.out.bel HCU.out⟩)) (fun hHeld => ?_)
   clear hK K
   refine held_take (i := 5) (d := 39) (v := (.pointer (some ⟨g, o + p * 4, none⟩))) rfl rfl (by kernel_rfl) (by kernel_rfl) (by kernel_rfl) (fun _ _ _ h => h) (by kernel_rfl) (fun w hSw => by (obtain ⟨hS1, hS2⟩ := hSw); go_simp) hHeld ?_
   try simp only [List.setIfInBounds_toArray, List.set_cons_zero, List.set_cons_succ]
   refine wpAnyH_ready (rs := [6]) (by kernel_rfl) (by simp) ?_
   refine AllReadyH.cons rfl (fun K hK => ?_) AllReadyH.nil
   refine step_store_mid rfl 57 (.tmp 39) (.tmp 38) rfl g (o + p * 4) #[.int .i64 z.kind, .int .u64 (z.num : Int), .string z.str, .slice Zz z.kids.length zc] (by rfl) (by rfl) (by rw [HO0.out]; have h := HU7.out; rw [HO0.out] at h; rw [Nat.zero_add]; exact Whole.there h HPN.out) (by kernel_rfl) (by kernel_rfl) ?_
   intro w9 hw9
   rw [HO0.out, Nat.zero_add] at hw9
   have hset := Whole.set (by have h := HU7.out; rw [HO0.out] at h; exact h) HPN.out (HLZ.out.more fun b hb _ => by have h1 : U2.heap.size ≤ b := hb.1; have := HCUV.out; exact ⟨by omega, by omega⟩) hw9
   have HS3 := Lib.hid (And.intro ((HKU.out.bel HCU.out).grown hset.2 (fun e => by injection e with e; have := HGG.out; omega)) ((HKH.out.bel HCU.out).grown hset.2 (fun e => by injection e with e; have := HGH.out; omega)))
   have HSET := Lib.hid hset
   clear hset hw9
   try simp only [Act.put]
   refine hK.out _ _ (by first | (with_reducible exact HS3.out) | (with_reducible exact ⟨HKU.out.bel HCU.out, HKH.out.bel HCU.out⟩)) (fun hHeld => ?_)
   clear hK K
   refine wpAnyH_done (by kernel_rfl) ?_ _
   as_aux_lemma =>
    have hbw : Below W.heap.size W w9 := bel_grown (bel_trans HBU.out (bel_trans HC6.out (bel_trans HB8.out HCU.out))) HSET.out.2 (fun k hk => by injection hk with hk; have := HGK.out; omega)
    have hlx := HSET.out.1.lies.more (S' := fun b => b < w9.heap.size) fun b _ h => h
    have hfr := frame_set 2 x z p (some ⟨g, 0, none⟩) d _ w9 (by decide) (HG.out.1.below hbw) (by rw [← HXY.out]; have := HLY.out; omega) hlx (fun b h => h)
    rw [HXN.out, ← HXY.out] at hfr
    rw [← HXY.out] at hlx
    rw [← HO0.out] at hfr
    have HF := Lib.hid hfr
    have HFY := Lib.hid hlx.fit
    have HUP := Lib.hid (fun R hR => HUP0.out R HFY.out hR)
    have HKV := Lib.hid HS3.out.1
    have HCW := Lib.hid hbw
    clear hlx hfr hbw b1 b2 b3 hp1 hpn
    obtain ⟨c0, c1, c2, c3⟩ := blk4 HKV.out
    go_wp2_with fail
    refine HF.out.mono ?_
    rintro e u9 ⟨A9, n9, c9, rfl, hr9, hb9, _⟩
    replace HCW := Lib.hid (bel_trans HCW.out hb9)
    have hl9 := hr9.len
    rw [length_cs] at hl9
    have hl9' := up_length (y := y)
    have htk := mtake_new _ A9 n9 c9 u9 (HG.out.2.below HCW.out) (HG.out.1.below HCW.out) hr9 (up_bytes HFY.out) (by have := HLY.out; omega)
    obtain ⟨R, hR⟩ : ∃ R, ownTake (openX 2 (if chk y 0 = 0 then frame 2 (form y) else [])) = R := ⟨_, rfl⟩
    have hup := HUP.out R hR
    rw [hR] at htk
    clear hR hr9 hb9 hl9 hl9' c0 c1 c2 c3
    obtain ⟨q, er⟩ := R
    obtain ⟨aM, ⟨aR, aN⟩, ⟨aB, aC⟩, ⟨aT, aU⟩, aS, ⟨aK, aL, aQ, aY, aV, aZ⟩, ⟨al, aE, aG⟩, aW⟩ := q
    unfold TakesNw at htk
    simp only at htk hup
    have HTK := Lib.hid htk
    have HU1 := Lib.hid hup.1
    have HU2 := Lib.hid hup.2
    clear htk hup
    as_aux_lemma =>
     go_wp2_with fail
     refine HTK.out.mono ?_
     rintro e u10 ⟨V, k, dd, rfl, hrs, hnew, hb10⟩
     have hkm := Blk.new u10 32 #[.int .i64 aM, .int .i64 aR, .int .i64 aN, .int .i64 aB, .int .i64 aC, .int .i64 aT, .int .i64 aU, .int .i64 aS, .int .i64 aK, .int .i64 aL, .int .i64 aQ, .string aY, .string aV, .int .i64 aZ, .slice V k dd, .int .i64 aE, .int .i64 aG, .int .i64 aW]
     have hbm := bel_alloc (bel_trans HCW.out hb10) (.cells #[.int .i64 aM, .int .i64 aR, .int .i64 aN, .int .i64 aB, .int .i64 aC, .int .i64 aT, .int .i64 aU, .int .i64 aS, .int .i64 aK, .int .i64 aL, .int .i64 aQ, .string aY, .string aV, .int .i64 aZ, .slice V k dd, .int .i64 aE, .int .i64 aG, .int .i64 aW] 32)
     have hrm := hrs.alloc (.cells #[.int .i64 aM, .int .i64 aR, .int .i64 aN, .int .i64 aB, .int .i64 aC, .int .i64 aT, .int .i64 aU, .int .i64 aS, .int .i64 aK, .int .i64 aL, .int .i64 aQ, .string aY, .string aV, .int .i64 aZ, .slice V k dd, .int .i64 aE, .int .i64 aG, .int .i64 aW] 32)
     have hnw : ∀ g o, V = some ⟨g, o, none⟩ → w.heap.size < g := fun g o e => by have h1 := hnew g o e; have h2 := HCW.out.size; have h3 := HZ.out.lt; omega
     obtain ⟨Q, hQ⟩ : ∃ Q, u10.heap.size = Q := ⟨_, rfl⟩
     obtain ⟨Z, hZ⟩ : ∃ Z, u10.alloc (.cells #[.int .i64 aM, .int .i64 aR, .int .i64 aN, .int .i64 aB, .int .i64 aC, .int .i64 aT, .int .i64 aU, .int .i64 aS, .int .i64 aK, .int .i64 aL, .int .i64 aQ, .string aY, .string aV, .int .i64 aZ, .slice V k dd, .int .i64 aE, .int .i64 aG, .int .i64 aW] 32) = Z := ⟨_, rfl⟩
     rw [hZ] at hbm hkm hrm
     rw [hQ] at hkm
     have HKM := Lib.hid hkm
     have HRM := Lib.hid hrm
     have HQ := Lib.hid hQ
     have HZZ := Lib.hid hZ
     have HBM := Lib.hid hbm
     have HNW := Lib.hid hnw
     clear hkm hrm hQ hZ hbm hnw hrs hnew hb10
     go_upto_region 10 with fail
     rw [HZZ.out, HQ.out]
     have HZU := Lib.hid (HZ.out.bel HBM.out)
     have HBW := Lib.hid (HB.out.trans (HBM.out.mono HB.out.size))
     by_cases her : er = 0
     case neg =>
      have b1 : ((er : Int) != 0) = true := bne_iff_ne.2 (by omega)
      have hbad := HU2.out (fun e => absurd e her)
      go_wp2_with (first | fail | ((with_reducible refine wpList_store_blk rfl 32 _ _ rfl w.heap.size 32 #[.int .i64 0, .int .i64 0, .int .i64 0, .int .i64 0, .int .i64 0, .int .i64 0, .int .i64 0, .int .i64 0, .int .i64 0, .int .i64 0, .int .i64 0, .string ⟨#[]⟩, .string ⟨#[]⟩, .int .i64 0, .slice none 0 0, .int .i64 0, .int .i64 0, .int .i64 0] #[.int .i64 0, .int .i64 0, .int .i64 0, .int .i64 0, .int .i64 0, .int .i64 0, .int .i64 0, .int .i64 0, .int .i64 0, .int .i64 0, .int .i64 0, .string ⟨#[]⟩, .string ⟨#[]⟩, .int .i64 0, .slice none 0 0, .int .i64 0, .int .i64 0, .int .i64 0] ?_ ?_ HZU.out ?_ ?_ ?_ ?_); (focus rfl); (focus rfl); (focus kernel_rfl); (focus rfl); (focus kernel_rfl); intro w9 hblk2 hgr))
      refine bodyPost_ret (v := .tuple #[.agg #[.int .i64 0, .int .i64 0, .int .i64 0, .int .i64 0, .int .i64 0, .int .i64 0, .int .i64 0, .int .i64 0, .int .i64 0, .int .i64 0, .int .i64 0, .string ⟨#[]⟩, .string ⟨#[]⟩, .int .i64 0, .slice none 0 0, .int .i64 0, .int .i64 0, .int .i64 0], .int .i64 4]) (results_blk_tmp Tryz.results12 _ _ w.heap.size 32 _ _ _ rfl rfl hblk2 Tryz.underlying32 rfl (by kernel_rfl)) rfl ?_
      rw [HTE.out, hbad]
      exact ⟨none, 0, 0, rfl, Rs.nil_ _, (fun _ _ e => by cases e), HBW.out.trans (gr_below hgr HBW.out.size fun b hb => by injection hb with hb; omega)⟩
     subst her
     have hon := onlynew_any aM aR aN aB aC aT aU aS aK aL aQ aY aV aZ V k dd aE aG aW al
     generalize noOld ⟨aM, (aR, aN), (aB, aC), (aT, aU), aS, ⟨aK, aL, aQ, aY, aV, aZ⟩, ⟨al, aE, aG⟩, aW⟩ = s at hon HU1 HU2
     have HON := Lib.hid hon
     clear hon
     go_wp2_with (with_reducible refine wpList_load_blk_w 32 _ rfl Q 32 _ _ ?_ ?_ HKM.out Tryz.underlying32 ?_ ?_ ?_; (focus kernel_rfl); (focus kernel_rfl); (focus rfl); (focus kernel_rfl))
     refine (HON.out _).mono ?_
     rintro e u11 ⟨rfl, hb11⟩
     replace HKM := Lib.hid (HKM.out.bel hb11)
     replace HRM := Lib.hid (HRM.out.below hb11)
     replace HBM := Lib.hid (bel_trans HBM.out hb11)
     clear hb11 HZU HBW
     have HZU := Lib.hid (HZ.out.bel HBM.out)
     have HBW := Lib.hid (HB.out.trans (HBM.out.mono HB.out.size))
     cases s with
     | true =>
       have hbad := HU2.out (fun _ => (by first | rfl | trivial))
       go_wp2_with (first | fail | ((with_reducible refine wpList_store_blk rfl 32 _ _ rfl w.heap.size 32 #[.int .i64 0, .int .i64 0, .int .i64 0, .int .i64 0, .int .i64 0, .int .i64 0, .int .i64 0, .int .i64 0, .int .i64 0, .int .i64 0, .int .i64 0, .string ⟨#[]⟩, .string ⟨#[]⟩, .int .i64 0, .slice none 0 0, .int .i64 0, .int .i64 0, .int .i64 0] #[.int .i64 0, .int .i64 0, .int .i64 0, .int .i64 0, .int .i64 0, .int .i64 0, .int .i64 0, .int .i64 0, .int .i64 0, .int .i64 0, .int .i64 0, .string ⟨#[]⟩, .string ⟨#[]⟩, .int .i64 0, .slice none 0 0, .int .i64 0, .int .i64 0, .int .i64 0] ?_ ?_ HZU.out ?_ ?_ ?_ ?_); (focus rfl); (focus rfl); (focus kernel_rfl); (focus rfl); (focus kernel_rfl); intro w9 hblk2 hgr))
       refine bodyPost_ret (v := .tuple #[.agg #[.int .i64 0, .int .i64 0, .int .i64 0, .int .i64 0, .int .i64 0, .int .i64 0, .int .i64 0, .int .i64 0, .int .i64 0, .int .i64 0, .int .i64 0, .string ⟨#[]⟩, .string ⟨#[]⟩, .int .i64 0, .slice none 0 0, .int .i64 0, .int .i64 0, .int .i64 0], .int .i64 4]) (results_blk_tmp Tryz.results12 _ _ w.heap.size 32 _ _ _ rfl rfl hblk2 Tryz.underlying32 rfl (by kernel_rfl)) rfl ?_
       rw [HTE.out, hbad]
       exact ⟨none, 0, 0, rfl, Rs.nil_ _, (fun _ _ e => by cases e), HBW.out.trans (gr_below hgr HBW.out.size fun b hb => by injection hb with hb; omega)⟩
     | false =>
       have hok := HU1.out (by first | rfl | trivial) (by first | rfl | trivial)
       go_wp2_with (first | (with_reducible refine wpList_load_blk_w 32 _ rfl Q 32 _ _ ?_ ?_ HKM.out Tryz.underlying32 ?_ ?_ ?_; (focus kernel_rfl); (focus kernel_rfl); (focus rfl); (focus kernel_rfl)) | ((with_reducible refine wpList_store_blk rfl 32 _ _ rfl w.heap.size 32 #[.int .i64 0, .int .i64 0, .int .i64 0, .int .i64 0, .int .i64 0, .int .i64 0, .int .i64 0, .int .i64 0, .int .i64 0, .int .i64 0, .int .i64 0, .string ⟨#[]⟩, .string ⟨#[]⟩, .int .i64 0, .slice none 0 0, .int .i64 0, .int .i64 0, .int .i64 0] #[.int .i64 aM, .int .i64 aR, .int .i64 aN, .int .i64 aB, .int .i64 aC, .int .i64 aT, .int .i64 aU, .int .i64 aS, .int .i64 aK, .int .i64 aL, .int .i64 aQ, .string aY, .string aV, .int .i64 aZ, .slice V k dd, .int .i64 aE, .int .i64 aG, .int .i64 aW] ?_ ?_ HZU.out ?_ ?_ ?_ ?_); (focus rfl); (focus rfl); (focus kernel_rfl); (focus rfl); (focus kernel_rfl); intro w9 hblk2 hgr))
       refine bodyPost_ret (v := .tuple #[.agg #[.int .i64 aM, .int .i64 aR, .int .i64 aN, .int .i64 aB, .int .i64 aC, .int .i64 aT, .int .i64 aU, .int .i64 aS, .int .i64 aK, .int .i64 aL, .int .i64 aQ, .string aY, .string aV, .int .i64 aZ, .slice V k dd, .int .i64 aE, .int .i64 aG, .int .i64 aW], .int .i64 0]) (results_blk_tmp Tryz.results12 _ _ w.heap.size 32 _ _ _ rfl rfl hblk2 Tryz.underlying32 rfl (by kernel_rfl)) rfl ?_
       rw [HTE.out, hok]
       have hlt := HZ.out.lt
       exact ⟨V, k, dd, rfl, HRM.out.grown hgr (fun g o e h => by injection h with h; have := HNW.out g o e; omega), (fun g o e => by have := HNW.out g o e; omega), HBW.out.trans (gr_below hgr HBW.out.size fun b hb => by injection hb with hb; omega)⟩
end Go.Proofs.YthlhchaoedcdbaaGreatDoor.Mg
