/-
  Texts of earlier layers, as one.
-/
import Derived.Test.YtbjooblaamjppaaRecAwake
import Derived.Deep.Cut
/- RecGoesOn answers true. -/
namespace Go.Proofs.Ytbjooblaamjppaa.Rk
open Go.RowKit Mem Ids Att

set_option maxRecDepth 100000 in
set_option maxHeartbeats 16000000 in
theorem recgoeson_true (aR aN aS aB aC aT aU aK aL aQ : Int) (aY aV : ByteArray) (aZ : Int) (aA : Option Addr) (an ac : Nat) (aE aG : Int) (al : List (Int × Int)) (bR bN bS bB bC bT bU bK bL bQ : Int) (bY bV : ByteArray) (bZ : Int) (bA : Option Addr) (bn bc : Nat) (bE bG : Int) (bl : List (Int × Int)) (cR cN cS cB cC cT cU cK cL cQ : Int) (cY cV : ByteArray) (cZ : Int) (cA : Option Addr) (cn cc : Nat) (cE cG : Int) (cl : List (Int × Int)) (w : World) (ha : Rs w aA an ac al) (hb : Rs w bA bn bc bl) (hc : Rs w cA cn cc cl) :
    Calls Try.prog 4 #[.agg #[.int .i64 aR, .int .i64 aN, .int .i64 aS, .int .i64 aB, .int .i64 aC, .int .i64 aT, .int .i64 aU, .int .i64 aK, .int .i64 aL, .int .i64 aQ, .string aY, .string aV, .int .i64 aZ, .slice aA an ac, .int .i64 aE, .int .i64 aG], .agg #[.int .i64 bR, .int .i64 bN, .int .i64 bS, .int .i64 bB, .int .i64 bC, .int .i64 bT, .int .i64 bU, .int .i64 bK, .int .i64 bL, .int .i64 bQ, .string bY, .string bV, .int .i64 bZ, .slice bA bn bc, .int .i64 bE, .int .i64 bG], .agg #[.int .i64 cR, .int .i64 cN, .int .i64 cS, .int .i64 cB, .int .i64 cC, .int .i64 cT, .int .i64 cU, .int .i64 cK, .int .i64 cL, .int .i64 cQ, .string cY, .string cV, .int .i64 cZ, .slice cA cn cc, .int .i64 cE, .int .i64 cG]] w (Tells true w) := by
  obtain ⟨W, hW⟩ : ∃ W, ((w.alloc (.cells #[.int .i64 aR, .int .i64 aN, .int .i64 aS, .int .i64 aB, .int .i64 aC, .int .i64 aT, .int .i64 aU, .int .i64 aK, .int .i64 aL, .int .i64 aQ, .string aY, .string aV, .int .i64 aZ, .slice aA an ac, .int .i64 aE, .int .i64 aG] 32)).alloc (.cells #[.int .i64 bR, .int .i64 bN, .int .i64 bS, .int .i64 bB, .int .i64 bC, .int .i64 bT, .int .i64 bU, .int .i64 bK, .int .i64 bL, .int .i64 bQ, .string bY, .string bV, .int .i64 bZ, .slice bA bn bc, .int .i64 bE, .int .i64 bG] 32)).alloc (.cells #[.int .i64 cR, .int .i64 cN, .int .i64 cS, .int .i64 cB, .int .i64 cC, .int .i64 cT, .int .i64 cU, .int .i64 cK, .int .i64 cL, .int .i64 cQ, .string cY, .string cV, .int .i64 cZ, .slice cA cn cc, .int .i64 cE, .int .i64 cG] 32) = W := ⟨_, rfl⟩
  obtain ⟨k1, k2, k3, kb, hsW⟩ := three_kinds w _ _ _ _ _ _ W hW
  have HKa := Lib.hid k1
  have HKb := Lib.hid k2
  have HKc := Lib.hid k3
  have HB := Lib.hid kb
  have HW := Lib.hid hW
  have HRa := Lib.hid (ha.below kb)
  have HRb := Lib.hid (hb.below kb)
  have HRc := Lib.hid (hc.below kb)
  clear k1 k2 k3 kb hW ha hb hc hsW
  have HAW := Lib.hid (fun w => awake_any w)
  have HGa := Lib.hid (fun w (h : Rs w aA an ac al) => great_any aR aN aS aB aC aT aU aK aL aQ aY aV aZ aA an ac aE aG al w h)
  have HGb := Lib.hid (fun w (h : Rs w bA bn bc bl) => great_any bR bN bS bB bC bT bU bK bL bQ bY bV bZ bA bn bc bE bG bl w h)
  have HGc := Lib.hid (fun w (h : Rs w cA cn cc cl) => great_any cR cN cS cB cC cT cU cK cL cQ cY cV cZ cA cn cc cE cG cl w h)
  generalize (decide (al.length > 60) || Cmd.great ⟨aK, aL, aQ, aY, aV, aZ⟩) = ga at HGa
  generalize (decide (bl.length > 60) || Cmd.great ⟨bK, bL, bQ, bY, bV, bZ⟩) = gb at HGb
  generalize (decide (cl.length > 60) || Cmd.great ⟨cK, cL, cQ, cY, cV, cZ⟩) = gc at HGc
  have haa := fun w (h : Rs w aA an ac al) => goes_any aR aN aS aB aC aT aU aK aL aQ aY aV aZ aA an ac aE aG al aR aN aS aB aC aT aU aK aL aQ aY aV aZ aA an ac aE aG al w h h
  have hab := fun w (h : Rs w aA an ac al) (h' : Rs w bA bn bc bl) => goes_any aR aN aS aB aC aT aU aK aL aQ aY aV aZ aA an ac aE aG al bR bN bS bB bC bT bU bK bL bQ bY bV bZ bA bn bc bE bG bl w h h'
  have hba := fun w (h : Rs w aA an ac al) (h' : Rs w bA bn bc bl) => goes_any bR bN bS bB bC bT bU bK bL bQ bY bV bZ bA bn bc bE bG bl aR aN aS aB aC aT aU aK aL aQ aY aV aZ aA an ac aE aG al w h' h
  have hbc := fun w (h : Rs w bA bn bc bl) (h' : Rs w cA cn cc cl) => goes_any bR bN bS bB bC bT bU bK bL bQ bY bV bZ bA bn bc bE bG bl cR cN cS cB cC cT cU cK cL cQ cY cV cZ cA cn cc cE cG cl w h h'
  have hac := fun w (h : Rs w aA an ac al) (h' : Rs w cA cn cc cl) => goes_any aR aN aS aB aC aT aU aK aL aQ aY aV aZ aA an ac aE aG al cR cN cS cB cC cT cU cK cL cQ cY cV cZ cA cn cc cE cG cl w h h'
  have hsm := fun w (h : Rs w aA an ac al) (h' : Rs w bA bn bc bl) => rsame_any aR aN aS aB aC aT aU aK aL aQ aY aV aZ aA an ac aE aG al bR bN bS bB bC bT bU bK bL bQ bY bV bZ bA bn bc bE bG bl w h h'
  have fsm := @rsame_iff ⟨(aR, aN), aS, (aB, aC), (aT, aU), ⟨aK, aL, aQ, aY, aV, aZ⟩, ⟨al, aE, aG⟩⟩ ⟨(bR, bN), bS, (bB, bC), (bT, bU), ⟨bK, bL, bQ, bY, bV, bZ⟩, ⟨bl, bE, bG⟩⟩
  have ftr := @goes_trans ⟨(aR, aN), aS, (aB, aC), (aT, aU), ⟨aK, aL, aQ, aY, aV, aZ⟩, ⟨al, aE, aG⟩⟩ ⟨(bR, bN), bS, (bB, bC), (bT, bU), ⟨bK, bL, bQ, bY, bV, bZ⟩, ⟨bl, bE, bG⟩⟩ ⟨(cR, cN), cS, (cB, cC), (cT, cU), ⟨cK, cL, cQ, cY, cV, cZ⟩, ⟨cl, cE, cG⟩⟩
  have fit := @goes_iff ⟨(aR, aN), aS, (aB, aC), (aT, aU), ⟨aK, aL, aQ, aY, aV, aZ⟩, ⟨al, aE, aG⟩⟩ ⟨(bR, bN), bS, (bB, bC), (bT, bU), ⟨bK, bL, bQ, bY, bV, bZ⟩, ⟨bl, bE, bG⟩⟩
  have fre := goes_refl ⟨(aR, aN), aS, (aB, aC), (aT, aU), ⟨aK, aL, aQ, aY, aV, aZ⟩, ⟨al, aE, aG⟩⟩
  have fe : rsame ⟨(aR, aN), aS, (aB, aC), (aT, aU), ⟨aK, aL, aQ, aY, aV, aZ⟩, ⟨al, aE, aG⟩⟩ ⟨(bR, bN), bS, (bB, bC), (bT, bU), ⟨bK, bL, bQ, bY, bV, bZ⟩, ⟨bl, bE, bG⟩⟩ = true → goes ⟨(aR, aN), aS, (aB, aC), (aT, aU), ⟨aK, aL, aQ, aY, aV, aZ⟩, ⟨al, aE, aG⟩⟩ ⟨(bR, bN), bS, (bB, bC), (bT, bU), ⟨bK, bL, bQ, bY, bV, bZ⟩, ⟨bl, bE, bG⟩⟩ = true ∧ goes ⟨(bR, bN), bS, (bB, bC), (bT, bU), ⟨bK, bL, bQ, bY, bV, bZ⟩, ⟨bl, bE, bG⟩⟩ ⟨(aR, aN), aS, (aB, aC), (aT, aU), ⟨aK, aL, aQ, aY, aV, aZ⟩, ⟨al, aE, aG⟩⟩ = true := fun h => by
    have e := fsm.1 h
    rw [← e]
    exact ⟨fre, fre⟩
  rw [fre] at haa
  generalize goes ⟨(aR, aN), aS, (aB, aC), (aT, aU), ⟨aK, aL, aQ, aY, aV, aZ⟩, ⟨al, aE, aG⟩⟩ ⟨(bR, bN), bS, (bB, bC), (bT, bU), ⟨bK, bL, bQ, bY, bV, bZ⟩, ⟨bl, bE, bG⟩⟩ = gab at hab ftr fit fe
  generalize goes ⟨(bR, bN), bS, (bB, bC), (bT, bU), ⟨bK, bL, bQ, bY, bV, bZ⟩, ⟨bl, bE, bG⟩⟩ ⟨(aR, aN), aS, (aB, aC), (aT, aU), ⟨aK, aL, aQ, aY, aV, aZ⟩, ⟨al, aE, aG⟩⟩ = gba at hba fe
  generalize goes ⟨(bR, bN), bS, (bB, bC), (bT, bU), ⟨bK, bL, bQ, bY, bV, bZ⟩, ⟨bl, bE, bG⟩⟩ ⟨(cR, cN), cS, (cB, cC), (cT, cU), ⟨cK, cL, cQ, cY, cV, cZ⟩, ⟨cl, cE, cG⟩⟩ = gbc at hbc ftr
  generalize goes ⟨(aR, aN), aS, (aB, aC), (aT, aU), ⟨aK, aL, aQ, aY, aV, aZ⟩, ⟨al, aE, aG⟩⟩ ⟨(cR, cN), cS, (cB, cC), (cT, cU), ⟨cK, cL, cQ, cY, cV, cZ⟩, ⟨cl, cE, cG⟩⟩ = gac at hac ftr
  generalize rsame ⟨(aR, aN), aS, (aB, aC), (aT, aU), ⟨aK, aL, aQ, aY, aV, aZ⟩, ⟨al, aE, aG⟩⟩ ⟨(bR, bN), bS, (bB, bC), (bT, bU), ⟨bK, bL, bQ, bY, bV, bZ⟩, ⟨bl, bE, bG⟩⟩ = sab at hsm fe
  have HAA := Lib.hid haa
  have HAB := Lib.hid hab
  have HBA := Lib.hid hba
  have HBC := Lib.hid hbc
  have HAC := Lib.hid hac
  have HSM := Lib.hid hsm
  have FTR := Lib.hid ftr
  have FIT := Lib.hid fit
  have FE := Lib.hid fe
  clear haa hab hba hbc hac hsm fsm ftr fit fre fe
  go_enter Try.func4, Try.ntmps4
  go_upto_region 1 with fail
  rw [HW.out]
  have HC := Lib.hid (Below.refl W.heap.size W)
  go_wp2_with (first | (refine wpList_load_blk_w 32 _ rfl w.heap.size 32 #[.int .i64 aR, .int .i64 aN, .int .i64 aS, .int .i64 aB, .int .i64 aC, .int .i64 aT, .int .i64 aU, .int .i64 aK, .int .i64 aL, .int .i64 aQ, .string aY, .string aV, .int .i64 aZ, .slice aA an ac, .int .i64 aE, .int .i64 aG] _ rfl ?_ (HKa.out.bel HC.out) Try.underlying32 rfl (by kernel_rfl) ?_; (focus rfl)) | (refine wpList_load_blk_w 32 _ rfl (w.heap.size + 1) 32 #[.int .i64 bR, .int .i64 bN, .int .i64 bS, .int .i64 bB, .int .i64 bC, .int .i64 bT, .int .i64 bU, .int .i64 bK, .int .i64 bL, .int .i64 bQ, .string bY, .string bV, .int .i64 bZ, .slice bA bn bc, .int .i64 bE, .int .i64 bG] _ rfl ?_ (HKb.out.bel HC.out) Try.underlying32 rfl (by kernel_rfl) ?_; (focus rfl)) | (refine wpList_load_blk_w 32 _ rfl (w.heap.size + 2) 32 #[.int .i64 cR, .int .i64 cN, .int .i64 cS, .int .i64 cB, .int .i64 cC, .int .i64 cT, .int .i64 cU, .int .i64 cK, .int .i64 cL, .int .i64 cQ, .string cY, .string cV, .int .i64 cZ, .slice cA cn cc, .int .i64 cE, .int .i64 cG] _ rfl ?_ (HKc.out.bel HC.out) Try.underlying32 rfl (by kernel_rfl) ?_; (focus rfl)))
  refine (HGa.out _ (HRa.out.below HC.out)).mono ?_
  rintro e u1 ⟨rfl, hb1⟩
  replace HC := Lib.hid (bel_trans HC.out hb1)
  clear hb1
  cases ga with
  | false =>
    go_wp2_with (first | (refine wpList_load_blk_w 32 _ rfl w.heap.size 32 #[.int .i64 aR, .int .i64 aN, .int .i64 aS, .int .i64 aB, .int .i64 aC, .int .i64 aT, .int .i64 aU, .int .i64 aK, .int .i64 aL, .int .i64 aQ, .string aY, .string aV, .int .i64 aZ, .slice aA an ac, .int .i64 aE, .int .i64 aG] _ rfl ?_ (HKa.out.bel HC.out) Try.underlying32 rfl (by kernel_rfl) ?_; (focus rfl)) | (refine wpList_load_blk_w 32 _ rfl (w.heap.size + 1) 32 #[.int .i64 bR, .int .i64 bN, .int .i64 bS, .int .i64 bB, .int .i64 bC, .int .i64 bT, .int .i64 bU, .int .i64 bK, .int .i64 bL, .int .i64 bQ, .string bY, .string bV, .int .i64 bZ, .slice bA bn bc, .int .i64 bE, .int .i64 bG] _ rfl ?_ (HKb.out.bel HC.out) Try.underlying32 rfl (by kernel_rfl) ?_; (focus rfl)) | (refine wpList_load_blk_w 32 _ rfl (w.heap.size + 2) 32 #[.int .i64 cR, .int .i64 cN, .int .i64 cS, .int .i64 cB, .int .i64 cC, .int .i64 cT, .int .i64 cU, .int .i64 cK, .int .i64 cL, .int .i64 cQ, .string cY, .string cV, .int .i64 cZ, .slice cA cn cc, .int .i64 cE, .int .i64 cG] _ rfl ?_ (HKc.out.bel HC.out) Try.underlying32 rfl (by kernel_rfl) ?_; (focus rfl)))
    refine (HGb.out _ (HRb.out.below HC.out)).mono ?_
    rintro e u2 ⟨rfl, hb1⟩
    replace HC := Lib.hid (bel_trans HC.out hb1)
    clear hb1
    cases gb with
    | false =>
      go_wp2_with (first | (refine wpList_load_blk_w 32 _ rfl w.heap.size 32 #[.int .i64 aR, .int .i64 aN, .int .i64 aS, .int .i64 aB, .int .i64 aC, .int .i64 aT, .int .i64 aU, .int .i64 aK, .int .i64 aL, .int .i64 aQ, .string aY, .string aV, .int .i64 aZ, .slice aA an ac, .int .i64 aE, .int .i64 aG] _ rfl ?_ (HKa.out.bel HC.out) Try.underlying32 rfl (by kernel_rfl) ?_; (focus rfl)) | (refine wpList_load_blk_w 32 _ rfl (w.heap.size + 1) 32 #[.int .i64 bR, .int .i64 bN, .int .i64 bS, .int .i64 bB, .int .i64 bC, .int .i64 bT, .int .i64 bU, .int .i64 bK, .int .i64 bL, .int .i64 bQ, .string bY, .string bV, .int .i64 bZ, .slice bA bn bc, .int .i64 bE, .int .i64 bG] _ rfl ?_ (HKb.out.bel HC.out) Try.underlying32 rfl (by kernel_rfl) ?_; (focus rfl)) | (refine wpList_load_blk_w 32 _ rfl (w.heap.size + 2) 32 #[.int .i64 cR, .int .i64 cN, .int .i64 cS, .int .i64 cB, .int .i64 cC, .int .i64 cT, .int .i64 cU, .int .i64 cK, .int .i64 cL, .int .i64 cQ, .string cY, .string cV, .int .i64 cZ, .slice cA cn cc, .int .i64 cE, .int .i64 cG] _ rfl ?_ (HKc.out.bel HC.out) Try.underlying32 rfl (by kernel_rfl) ?_; (focus rfl)))
      refine (HGc.out _ (HRc.out.below HC.out)).mono ?_
      rintro e u3 ⟨rfl, hb1⟩
      replace HC := Lib.hid (bel_trans HC.out hb1)
      clear hb1
      cases gc with
      | false =>
        go_upto_region 3 with fail
        go_cut [37] from 7 (fun cv wx => cv = .bool false ∧ Below W.heap.size W wx)
        case first =>
          go_wp2_with (first | (refine wpList_load_blk_w 32 _ rfl w.heap.size 32 #[.int .i64 aR, .int .i64 aN, .int .i64 aS, .int .i64 aB, .int .i64 aC, .int .i64 aT, .int .i64 aU, .int .i64 aK, .int .i64 aL, .int .i64 aQ, .string aY, .string aV, .int .i64 aZ, .slice aA an ac, .int .i64 aE, .int .i64 aG] _ rfl ?_ (HKa.out.bel HC.out) Try.underlying32 rfl (by kernel_rfl) ?_; (focus rfl)) | (refine wpList_load_blk_w 32 _ rfl (w.heap.size + 1) 32 #[.int .i64 bR, .int .i64 bN, .int .i64 bS, .int .i64 bB, .int .i64 bC, .int .i64 bT, .int .i64 bU, .int .i64 bK, .int .i64 bL, .int .i64 bQ, .string bY, .string bV, .int .i64 bZ, .slice bA bn bc, .int .i64 bE, .int .i64 bG] _ rfl ?_ (HKb.out.bel HC.out) Try.underlying32 rfl (by kernel_rfl) ?_; (focus rfl)) | (refine wpList_load_blk_w 32 _ rfl (w.heap.size + 2) 32 #[.int .i64 cR, .int .i64 cN, .int .i64 cS, .int .i64 cB, .int .i64 cC, .int .i64 cT, .int .i64 cU, .int .i64 cK, .int .i64 cL, .int .i64 cQ, .string cY, .string cV, .int .i64 cZ, .slice cA cn cc, .int .i64 cE, .int .i64 cG] _ rfl ?_ (HKc.out.bel HC.out) Try.underlying32 rfl (by kernel_rfl) ?_; (focus rfl)))
          refine (HAA.out _ (HRa.out.below HC.out)).mono ?_
          rintro e u4 ⟨rfl, hb1⟩
          replace HC := Lib.hid (bel_trans HC.out hb1)
          clear hb1
          go_wp2_with (first | (refine wpList_load_blk_w 32 _ rfl w.heap.size 32 #[.int .i64 aR, .int .i64 aN, .int .i64 aS, .int .i64 aB, .int .i64 aC, .int .i64 aT, .int .i64 aU, .int .i64 aK, .int .i64 aL, .int .i64 aQ, .string aY, .string aV, .int .i64 aZ, .slice aA an ac, .int .i64 aE, .int .i64 aG] _ rfl ?_ (HKa.out.bel HC.out) Try.underlying32 rfl (by kernel_rfl) ?_; (focus rfl)) | (refine wpList_load_blk_w 32 _ rfl (w.heap.size + 1) 32 #[.int .i64 bR, .int .i64 bN, .int .i64 bS, .int .i64 bB, .int .i64 bC, .int .i64 bT, .int .i64 bU, .int .i64 bK, .int .i64 bL, .int .i64 bQ, .string bY, .string bV, .int .i64 bZ, .slice bA bn bc, .int .i64 bE, .int .i64 bG] _ rfl ?_ (HKb.out.bel HC.out) Try.underlying32 rfl (by kernel_rfl) ?_; (focus rfl)) | (refine wpList_load_blk_w 32 _ rfl (w.heap.size + 2) 32 #[.int .i64 cR, .int .i64 cN, .int .i64 cS, .int .i64 cB, .int .i64 cC, .int .i64 cT, .int .i64 cU, .int .i64 cK, .int .i64 cL, .int .i64 cQ, .string cY, .string cV, .int .i64 cZ, .slice cA cn cc, .int .i64 cE, .int .i64 cG] _ rfl ?_ (HKc.out.bel HC.out) Try.underlying32 rfl (by kernel_rfl) ?_; (focus rfl)))
          refine (HAB.out _ (HRa.out.below HC.out) (HRb.out.below HC.out)).mono ?_
          rintro e u5 ⟨rfl, hb1⟩
          replace HC := Lib.hid (bel_trans HC.out hb1)
          clear hb1
          cases gab with
          | false =>
            go_wp2_with fail
            go_meet
            case rel => exact ⟨rfl, HC.out⟩
          | true =>
            go_wp2_with (first | (refine wpList_load_blk_w 32 _ rfl w.heap.size 32 #[.int .i64 aR, .int .i64 aN, .int .i64 aS, .int .i64 aB, .int .i64 aC, .int .i64 aT, .int .i64 aU, .int .i64 aK, .int .i64 aL, .int .i64 aQ, .string aY, .string aV, .int .i64 aZ, .slice aA an ac, .int .i64 aE, .int .i64 aG] _ rfl ?_ (HKa.out.bel HC.out) Try.underlying32 rfl (by kernel_rfl) ?_; (focus rfl)) | (refine wpList_load_blk_w 32 _ rfl (w.heap.size + 1) 32 #[.int .i64 bR, .int .i64 bN, .int .i64 bS, .int .i64 bB, .int .i64 bC, .int .i64 bT, .int .i64 bU, .int .i64 bK, .int .i64 bL, .int .i64 bQ, .string bY, .string bV, .int .i64 bZ, .slice bA bn bc, .int .i64 bE, .int .i64 bG] _ rfl ?_ (HKb.out.bel HC.out) Try.underlying32 rfl (by kernel_rfl) ?_; (focus rfl)) | (refine wpList_load_blk_w 32 _ rfl (w.heap.size + 2) 32 #[.int .i64 cR, .int .i64 cN, .int .i64 cS, .int .i64 cB, .int .i64 cC, .int .i64 cT, .int .i64 cU, .int .i64 cK, .int .i64 cL, .int .i64 cQ, .string cY, .string cV, .int .i64 cZ, .slice cA cn cc, .int .i64 cE, .int .i64 cG] _ rfl ?_ (HKc.out.bel HC.out) Try.underlying32 rfl (by kernel_rfl) ?_; (focus rfl)))
            refine (HBC.out _ (HRb.out.below HC.out) (HRc.out.below HC.out)).mono ?_
            rintro e u6 ⟨rfl, hb1⟩
            replace HC := Lib.hid (bel_trans HC.out hb1)
            clear hb1
            cases gbc with
            | false =>
              go_wp2_with fail
              go_meet
              case rel => exact ⟨rfl, HC.out⟩
            | true =>
              have e := FTR.out (by simp) (by simp)
              subst e
              go_wp2_with (first | (refine wpList_load_blk_w 32 _ rfl w.heap.size 32 #[.int .i64 aR, .int .i64 aN, .int .i64 aS, .int .i64 aB, .int .i64 aC, .int .i64 aT, .int .i64 aU, .int .i64 aK, .int .i64 aL, .int .i64 aQ, .string aY, .string aV, .int .i64 aZ, .slice aA an ac, .int .i64 aE, .int .i64 aG] _ rfl ?_ (HKa.out.bel HC.out) Try.underlying32 rfl (by kernel_rfl) ?_; (focus rfl)) | (refine wpList_load_blk_w 32 _ rfl (w.heap.size + 1) 32 #[.int .i64 bR, .int .i64 bN, .int .i64 bS, .int .i64 bB, .int .i64 bC, .int .i64 bT, .int .i64 bU, .int .i64 bK, .int .i64 bL, .int .i64 bQ, .string bY, .string bV, .int .i64 bZ, .slice bA bn bc, .int .i64 bE, .int .i64 bG] _ rfl ?_ (HKb.out.bel HC.out) Try.underlying32 rfl (by kernel_rfl) ?_; (focus rfl)) | (refine wpList_load_blk_w 32 _ rfl (w.heap.size + 2) 32 #[.int .i64 cR, .int .i64 cN, .int .i64 cS, .int .i64 cB, .int .i64 cC, .int .i64 cT, .int .i64 cU, .int .i64 cK, .int .i64 cL, .int .i64 cQ, .string cY, .string cV, .int .i64 cZ, .slice cA cn cc, .int .i64 cE, .int .i64 cG] _ rfl ?_ (HKc.out.bel HC.out) Try.underlying32 rfl (by kernel_rfl) ?_; (focus rfl)))
              refine (HAC.out _ (HRa.out.below HC.out) (HRc.out.below HC.out)).mono ?_
              rintro e u7 ⟨rfl, hb1⟩
              replace HC := Lib.hid (bel_trans HC.out hb1)
              clear hb1
              go_wp2_with fail
              go_meet
              case rel => exact ⟨rfl, HC.out⟩
        case rest =>
          obtain ⟨rfl, hbx⟩ := hcut
          generalize wc = Wx at hbx ⊢
          replace HC := Lib.hid hbx
          clear hbx
          go_upto_region 5 with fail
          go_cut [75] from 7 (fun cv wx => cv = .bool false ∧ Below W.heap.size W wx)
          case first =>
            by_cases h3 : aS = 3
            · skip
              subst h3
              obtain ⟨xa0, xa1, xa2, xa3, xa4, xa5, xa6, xa7, xa8, xa9, xa10, xa11, xa12, xa13, xa14, xa15⟩ := blk16 (HKa.out.bel HC.out)
              go_wp2_with (first | (refine wpList_load_blk_w 32 _ rfl w.heap.size 32 #[.int .i64 aR, .int .i64 aN, .int .i64 3, .int .i64 aB, .int .i64 aC, .int .i64 aT, .int .i64 aU, .int .i64 aK, .int .i64 aL, .int .i64 aQ, .string aY, .string aV, .int .i64 aZ, .slice aA an ac, .int .i64 aE, .int .i64 aG] _ rfl ?_ (HKa.out.bel HC.out) Try.underlying32 rfl (by kernel_rfl) ?_; (focus rfl)) | (refine wpList_load_blk_w 32 _ rfl (w.heap.size + 1) 32 #[.int .i64 bR, .int .i64 bN, .int .i64 bS, .int .i64 bB, .int .i64 bC, .int .i64 bT, .int .i64 bU, .int .i64 bK, .int .i64 bL, .int .i64 bQ, .string bY, .string bV, .int .i64 bZ, .slice bA bn bc, .int .i64 bE, .int .i64 bG] _ rfl ?_ (HKb.out.bel HC.out) Try.underlying32 rfl (by kernel_rfl) ?_; (focus rfl)) | (refine wpList_load_blk_w 32 _ rfl (w.heap.size + 2) 32 #[.int .i64 cR, .int .i64 cN, .int .i64 cS, .int .i64 cB, .int .i64 cC, .int .i64 cT, .int .i64 cU, .int .i64 cK, .int .i64 cL, .int .i64 cQ, .string cY, .string cV, .int .i64 cZ, .slice cA cn cc, .int .i64 cE, .int .i64 cG] _ rfl ?_ (HKc.out.bel HC.out) Try.underlying32 rfl (by kernel_rfl) ?_; (focus rfl)))
              clear xa0 xa1 xa2 xa3 xa4 xa5 xa6 xa7 xa8 xa9 xa10 xa11 xa12 xa13 xa14 xa15
              refine (HAB.out _ (HRa.out.below HC.out) (HRb.out.below HC.out)).mono ?_
              rintro e u4 ⟨rfl, hb1⟩
              replace HC := Lib.hid (bel_trans HC.out hb1)
              clear hb1
              cases gab with
              | false =>
                go_wp2_with fail
                go_meet
                case rel => exact ⟨rfl, HC.out⟩
              | true =>
                obtain ⟨_, _, _, hh⟩ := FIT.out.1 rfl
                obtain ⟨e1, e2, e3⟩ := hh (by simp)
                simp only [Cmd.Cm.mk.injEq, At.mk.injEq] at e1 e2 e3
                obtain ⟨f1, f2, f3, f4, f5, f6⟩ := e2
                obtain ⟨f7, f8, f9⟩ := e3
                have b2 : (bS != 3) = false := by rw [e1]; rfl
                have b3 : (bE != aE) = false := by rw [f8]; simp
                have b4 : (bG != aG) = false := by rw [f9]; simp
                have b5 : ∀ w, Sem.run Try.prog (binOp .neq 27 (.agg #[.int .i64 bK, .int .i64 bL, .int .i64 bQ, .string bY, .string bV, .int .i64 bZ]) (.agg #[.int .i64 aK, .int .i64 aL, .int .i64 aQ, .string aY, .string aV, .int .i64 aZ])) w = .ok (.bool false) w := fun w => by rw [Cw.neq_cmd, f1, f2, f3, f4, f5, f6, Cmd.eqv_refl]; rfl
                clear e1 f1 f2 f3 f4 f5 f6 f7 f8 f9 hh
                obtain ⟨xa0, xa1, xa2, xa3, xa4, xa5, xa6, xa7, xa8, xa9, xa10, xa11, xa12, xa13, xa14, xa15⟩ := blk16 (HKa.out.bel HC.out)
                obtain ⟨xb0, xb1, xb2, xb3, xb4, xb5, xb6, xb7, xb8, xb9, xb10, xb11, xb12, xb13, xb14, xb15⟩ := blk16 (HKb.out.bel HC.out)
                go_wp2_with fail
                go_meet
                case rel => exact ⟨rfl, HC.out⟩
            · skip
              have b1 : (aS == 3) = false := beq_false_of_ne h3
              clear h3
              obtain ⟨xa0, xa1, xa2, xa3, xa4, xa5, xa6, xa7, xa8, xa9, xa10, xa11, xa12, xa13, xa14, xa15⟩ := blk16 (HKa.out.bel HC.out)
              go_wp2_with fail
              go_meet
              case rel => exact ⟨rfl, HC.out⟩
          case rest =>
            obtain ⟨rfl, hbx⟩ := hcut
            generalize wc = Wx at hbx ⊢
            replace HC := Lib.hid hbx
            clear hbx
            go_upto_region 7 with fail
            go_wp2_with (first | (refine wpList_load_blk_w 32 _ rfl w.heap.size 32 #[.int .i64 aR, .int .i64 aN, .int .i64 aS, .int .i64 aB, .int .i64 aC, .int .i64 aT, .int .i64 aU, .int .i64 aK, .int .i64 aL, .int .i64 aQ, .string aY, .string aV, .int .i64 aZ, .slice aA an ac, .int .i64 aE, .int .i64 aG] _ rfl ?_ (HKa.out.bel HC.out) Try.underlying32 rfl (by kernel_rfl) ?_; (focus rfl)) | (refine wpList_load_blk_w 32 _ rfl (w.heap.size + 1) 32 #[.int .i64 bR, .int .i64 bN, .int .i64 bS, .int .i64 bB, .int .i64 bC, .int .i64 bT, .int .i64 bU, .int .i64 bK, .int .i64 bL, .int .i64 bQ, .string bY, .string bV, .int .i64 bZ, .slice bA bn bc, .int .i64 bE, .int .i64 bG] _ rfl ?_ (HKb.out.bel HC.out) Try.underlying32 rfl (by kernel_rfl) ?_; (focus rfl)) | (refine wpList_load_blk_w 32 _ rfl (w.heap.size + 2) 32 #[.int .i64 cR, .int .i64 cN, .int .i64 cS, .int .i64 cB, .int .i64 cC, .int .i64 cT, .int .i64 cU, .int .i64 cK, .int .i64 cL, .int .i64 cQ, .string cY, .string cV, .int .i64 cZ, .slice cA cn cc, .int .i64 cE, .int .i64 cG] _ rfl ?_ (HKc.out.bel HC.out) Try.underlying32 rfl (by kernel_rfl) ?_; (focus rfl)))
            refine (HSM.out _ (HRa.out.below HC.out) (HRb.out.below HC.out)).mono ?_
            rintro e u4 ⟨rfl, hb1⟩
            replace HC := Lib.hid (bel_trans HC.out hb1)
            clear hb1
            cases sab with
            | false =>
              go_wp2_with fail
              refine (HAW.out _).mono ?_
              rintro e u5 ⟨rfl, hb1⟩
              replace HC := Lib.hid (bel_trans HC.out hb1)
              clear hb1
              go_wp2_with fail
              go_ret
              exact ⟨rfl, HB.out.trans (HC.out.mono HB.out.size)⟩
            | true =>
              obtain ⟨e1, e2⟩ := FE.out rfl
              subst e1 e2
              go_wp2_with (first | (refine wpList_load_blk_w 32 _ rfl w.heap.size 32 #[.int .i64 aR, .int .i64 aN, .int .i64 aS, .int .i64 aB, .int .i64 aC, .int .i64 aT, .int .i64 aU, .int .i64 aK, .int .i64 aL, .int .i64 aQ, .string aY, .string aV, .int .i64 aZ, .slice aA an ac, .int .i64 aE, .int .i64 aG] _ rfl ?_ (HKa.out.bel HC.out) Try.underlying32 rfl (by kernel_rfl) ?_; (focus rfl)) | (refine wpList_load_blk_w 32 _ rfl (w.heap.size + 1) 32 #[.int .i64 bR, .int .i64 bN, .int .i64 bS, .int .i64 bB, .int .i64 bC, .int .i64 bT, .int .i64 bU, .int .i64 bK, .int .i64 bL, .int .i64 bQ, .string bY, .string bV, .int .i64 bZ, .slice bA bn bc, .int .i64 bE, .int .i64 bG] _ rfl ?_ (HKb.out.bel HC.out) Try.underlying32 rfl (by kernel_rfl) ?_; (focus rfl)) | (refine wpList_load_blk_w 32 _ rfl (w.heap.size + 2) 32 #[.int .i64 cR, .int .i64 cN, .int .i64 cS, .int .i64 cB, .int .i64 cC, .int .i64 cT, .int .i64 cU, .int .i64 cK, .int .i64 cL, .int .i64 cQ, .string cY, .string cV, .int .i64 cZ, .slice cA cn cc, .int .i64 cE, .int .i64 cG] _ rfl ?_ (HKc.out.bel HC.out) Try.underlying32 rfl (by kernel_rfl) ?_; (focus rfl)))
              refine (HAB.out _ (HRa.out.below HC.out) (HRb.out.below HC.out)).mono ?_
              rintro e u5 ⟨rfl, hb1⟩
              replace HC := Lib.hid (bel_trans HC.out hb1)
              clear hb1
              go_wp2_with (first | (refine wpList_load_blk_w 32 _ rfl w.heap.size 32 #[.int .i64 aR, .int .i64 aN, .int .i64 aS, .int .i64 aB, .int .i64 aC, .int .i64 aT, .int .i64 aU, .int .i64 aK, .int .i64 aL, .int .i64 aQ, .string aY, .string aV, .int .i64 aZ, .slice aA an ac, .int .i64 aE, .int .i64 aG] _ rfl ?_ (HKa.out.bel HC.out) Try.underlying32 rfl (by kernel_rfl) ?_; (focus rfl)) | (refine wpList_load_blk_w 32 _ rfl (w.heap.size + 1) 32 #[.int .i64 bR, .int .i64 bN, .int .i64 bS, .int .i64 bB, .int .i64 bC, .int .i64 bT, .int .i64 bU, .int .i64 bK, .int .i64 bL, .int .i64 bQ, .string bY, .string bV, .int .i64 bZ, .slice bA bn bc, .int .i64 bE, .int .i64 bG] _ rfl ?_ (HKb.out.bel HC.out) Try.underlying32 rfl (by kernel_rfl) ?_; (focus rfl)) | (refine wpList_load_blk_w 32 _ rfl (w.heap.size + 2) 32 #[.int .i64 cR, .int .i64 cN, .int .i64 cS, .int .i64 cB, .int .i64 cC, .int .i64 cT, .int .i64 cU, .int .i64 cK, .int .i64 cL, .int .i64 cQ, .string cY, .string cV, .int .i64 cZ, .slice cA cn cc, .int .i64 cE, .int .i64 cG] _ rfl ?_ (HKc.out.bel HC.out) Try.underlying32 rfl (by kernel_rfl) ?_; (focus rfl)))
              refine (HBA.out _ (HRa.out.below HC.out) (HRb.out.below HC.out)).mono ?_
              rintro e u6 ⟨rfl, hb1⟩
              replace HC := Lib.hid (bel_trans HC.out hb1)
              clear hb1
              go_wp2_with fail
              refine (HAW.out _).mono ?_
              rintro e u7 ⟨rfl, hb1⟩
              replace HC := Lib.hid (bel_trans HC.out hb1)
              clear hb1
              go_wp2_with fail
              go_ret
              exact ⟨rfl, HB.out.trans (HC.out.mono HB.out.size)⟩
      | true =>
        go_wp2_with fail
        refine (HAW.out _).mono ?_
        rintro e u4 ⟨rfl, hb1⟩
        replace HC := Lib.hid (bel_trans HC.out hb1)
        clear hb1
        go_wp2_with fail
        go_ret
        exact ⟨rfl, HB.out.trans (HC.out.mono HB.out.size)⟩
    | true =>
      go_wp2_with fail
      refine (HAW.out _).mono ?_
      rintro e u3 ⟨rfl, hb1⟩
      replace HC := Lib.hid (bel_trans HC.out hb1)
      clear hb1
      go_wp2_with fail
      go_ret
      exact ⟨rfl, HB.out.trans (HC.out.mono HB.out.size)⟩
  | true =>
    go_wp2_with fail
    refine (HAW.out _).mono ?_
    rintro e u2 ⟨rfl, hb1⟩
    replace HC := Lib.hid (bel_trans HC.out hb1)
    clear hb1
    go_wp2_with fail
    go_ret
    exact ⟨rfl, HB.out.trans (HC.out.mono HB.out.size)⟩
end Go.Proofs.Ytbjooblaamjppaa.Rk
