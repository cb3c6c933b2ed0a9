/-
  Texts of earlier layers, as one.
-/
import Derived.Test.YtjfpfbagckckkaaDoorMsgAw
import Derived.Test.YtjfpfbagckckkaaDoorRCodS
import Derived.Test.YtjfpfbagckckkaaDoorRNum
import Derived.Deep.RegionHeld
import Derived.Deep.Cut
/- Any item has the frame that the document says, or none, and opens as it was, at its version alone. -/
namespace Go.Proofs.YtjfpfbagckckkaaDoor.Mg
open Go.RowKit Mem Ids Att Rk Cod

set_option maxRecDepth 100000 in
set_option maxHeartbeats 8000000 in
theorem msgframes_true (vi : Int) (x : It) (A : Option Addr) (c : Nat) (S : Nat → Prop) (w : World) (hT : Glob w) (hv0 : 0 ≤ vi) (hv1 : vi < 256) (hl : Lies w S x A c) (hS : ∀ b, S b → b < w.heap.size) :
    Calls Tryd.prog 3 #[.int .u8 vi, .agg #[.int .i64 x.kind, .int .u64 (x.num : Int), .string x.str, .slice A x.kids.length c]] w (Tells true w) := by
  obtain ⟨v, hv⟩ : ∃ v : Nat, (v : Int) = vi := ⟨vi.toNat, by omega⟩
  have hv256 : v < 256 := by omega
  obtain ⟨n, hn⟩ : ∃ n, x.kids.length = n := ⟨_, rfl⟩
  have hbx := bel_alloc (Below.refl w.heap.size w) (.cells #[.int .i64 x.kind, .int .u64 (x.num : Int), .string x.str, .slice A x.kids.length c] 25)
  have hkx := Blk.new w 25 #[.int .i64 x.kind, .int .u64 (x.num : Int), .string x.str, .slice A x.kids.length c]
  obtain ⟨W, hW⟩ : ∃ W, w.alloc (.cells #[.int .i64 x.kind, .int .u64 (x.num : Int), .string x.str, .slice A x.kids.length c] 25) = W := ⟨_, rfl⟩
  rw [hW] at hbx hkx
  have hTW := hT.below hbx
  have hlx : ∀ w' : World, Below W.heap.size W w' → Lies w' (fun b => b < W.heap.size) x A c := fun w' h => ((hl.below hbx hS).below h (fun b hb => by have := hS b hb; have := hbx.size; omega)).more fun b hb _ => by have := hS b hb; have := hbx.size; omega
  have hfit : Fit x := hl.fit
  have hsz := fun (w' : World) (h : Below W.heap.size W w') => sizeof_any 600 (by omega) 40 x A c (fun b => b < W.heap.size) w' (by omega) (hlx w' h)
  have hfr := fun (w' : World) (h : Below W.heap.size W w') (hn : (form x).length ≤ 1000000) => ownframe_any v x A c (fun b => b < W.heap.size) w' hv256 (hTW.1.below h) hn (hlx w' h) (fun b hb => by have := h.size; omega)
  have hpu := fun (w' : World) (h : Below W.heap.size W w') (hn : (form x).length ≤ 1000000) => Cp.refputi_any x A c (fun b => b < W.heap.size) w' hn (hlx w' h)
  have hrf := fun (w' : World) (h : Below W.heap.size W w') (hc : chk x 0 = 0) (hn : (form x).length ≤ 1000000) => refframe_any v x A c (fun b => b < W.heap.size) w' hv256 hc hn (hlx w' h) (fun b hb => by have := h.size; omega)
  have hop := fun (u : Nat) (A1 : Option Addr) (n1 c1 : Nat) (w' : World) (h : Below W.heap.size W w') (hu : u < 256) (hr : Rd w' A1 n1 c1 (cs (frame v (form x)))) (hn : n1 ≤ 1000000) => ownopen_any u (frame v (form x)) A1 n1 c1 w' hu (hTW.1.below h) hr (frame_lt v hv256 (Cp.form_bytes x hfit)) hn
  have hsm := fun (D : Option Addr) (d : Nat) (w' : World) (h : Below W.heap.size W w') (hd : Lies w' (fun b => b < w'.heap.size) x D d) (hwt : wt x ≤ 100000) => same_item x x A D c d (fun b => b < w'.heap.size) w' ((hlx w' h).more fun b _ h => h) hd (fun b h => h) hwt
  rw [(same_iff x x).2 rfl] at hsm
  have hln := fun (h : wt x ≤ 600) => length_form_le x hfit
  have hopen := fun (hc : chk x 0 = 0) (hl : (form x).length ≤ 1048576) => open_item v hc hfit hl
  unfold FrameIs at hfr
  unfold Cp.PutIs at hpu
  rw [hv] at hfr hrf
  rw [hn] at hkx hsz hfr hpu hrf hsm hW ⊢
  have HAW := Lib.hid (fun (w' : World) (h : Below W.heap.size W w') => awake_any w' (hTW.below h))
  have HKX := Lib.hid hkx
  have HB := Lib.hid hbx
  have HW := Lib.hid hW
  have HC := Lib.hid (Below.refl W.heap.size W)
  have HLX := Lib.hid hlx
  have HSZ := Lib.hid hsz
  have HFR := Lib.hid hfr
  have HPU := Lib.hid hpu
  have HRF := Lib.hid hrf
  have HOP := Lib.hid hop
  have HSM := Lib.hid hsm
  have HLN := Lib.hid hln
  have HOPEN := Lib.hid hopen
  have HV := Lib.hid hv
  have HN := Lib.hid hn
  clear hkx hbx hW hlx hsz hfr hpu hrf hop hsm hln hopen hfit hl hS hT hTW hn hv
  obtain ⟨x0, x1, x2, x3⟩ := blk4 (HKX.out.bel HC.out)
  go_enter Tryd.func3, Tryd.ntmps3
  go_upto_region 1 with fail
  rw [HW.out]
  go_wp2_with fail
  refine (HSZ.out _ HC.out).mono ?_
  rintro e u1 ⟨r, rfl, r0, r1, hr, hb1⟩
  have HR := Lib.hid hr
  replace HC := Lib.hid (bel_trans HC.out hb1)
  clear hr hb1 x0 x1 x2 x3 HSZ
  by_cases h6 : 600 < r
  case pos =>
    have q0 : decide ((600 : Int) < r) = true := decide_eq_true h6
    go_wp2_with fail
    refine (HAW.out _ HC.out).mono ?_
    rintro e uz ⟨rfl, hb1⟩
    replace HC := Lib.hid (bel_trans HC.out hb1)
    clear hb1
    go_wp2_with fail
    go_ret
    exact ⟨rfl, HB.out.trans (HC.out.mono HB.out.size)⟩
  have q0 : decide ((600 : Int) < r) = false := decide_eq_false h6
  have hwt : wt x ≤ 600 := by have := HR.out (by omega); omega
  have hfl := HLN.out hwt
  have hf6 : (form x).length ≤ 6000 := by omega
  have HWT := Lib.hid hwt
  clear hwt hfl HR
  obtain ⟨x0, x1, x2, x3⟩ := blk4 (HKX.out.bel HC.out)
  go_wp2_with fail
  refine (HFR.out _ HC.out (by omega)).mono ?_
  rintro e u2 ⟨A1, n1, c1, rfl, hr1, hb1, _⟩
  have HR1 := Lib.hid hr1
  have HCP := HC
  replace HC := Lib.hid (bel_trans HC.out hb1)
  clear hr1 hb1 x0 x1 x2 x3 q0 h6 r0 r1
  obtain ⟨x0, x1, x2, x3⟩ := blk4 (HKX.out.bel HC.out)
  go_wp2_with fail
  refine (HPU.out _ HC.out (by omega)).mono ?_
  rintro e u3 ⟨A2, n2, c2, rfl, hr2, hb1⟩
  replace HR1 := Lib.hid (HR1.out.below hb1)
  replace HC := Lib.hid (bel_trans HC.out hb1)
  clear hr2 hb1 x0 x1 x2 x3
  obtain ⟨k, hk⟩ : ∃ k, chk x 0 = k := ⟨_, rfl⟩
  have hr1 := HR1.out
  rw [hk] at hr1 ⊢
  have q1 : ((k : Int) != (k : Int)) = false := bne_self_eq_false _
  by_cases hk0 : k = 0
  case neg =>
    have q2 : ((k : Int) != 0) = true := bne_iff_ne.2 (by omega)
    rw [if_neg hk0] at hr1
    have hn0 : n1 = 0 := hr1.len.symm
    subst hn0
    clear hr1
    go_wp2_with fail
    refine (HAW.out _ HC.out).mono ?_
    rintro e uz ⟨rfl, hb1⟩
    replace HC := Lib.hid (bel_trans HC.out hb1)
    clear hb1
    go_wp2_with fail
    go_ret
    exact ⟨rfl, HB.out.trans (HC.out.mono HB.out.size)⟩
  subst hk0
  rw [if_pos rfl] at hr1
  have hn1 : n1 = 5 + (form x).length := by
    have h := hr1.len
    rw [length_cs, length_frame] at h
    exact h.symm
  have HOX := Lib.hid (HOPEN.out hk (by omega))
  have hbx0 := HOP.out v A1 n1 c1 u3 HC.out (by have := HV.out; omega) hr1 (by omega)
  rw [HOX.out, HV.out] at hbx0
  have HOB := Lib.hid hbx0
  have HCK := Lib.hid hk
  replace HR1 := Lib.hid hr1
  have HN1 := Lib.hid hn1
  have hn16 : n1 ≤ 1000000 := by omega
  clear hbx0 hk hr1 hn1 q1
  go_wp2_with fail
  refine HOB.out.mono ?_
  rintro e u4 ⟨D, d, rfl, hly, hb1⟩
  simp only
  rw [HN.out] 
  have hkx := (HKX.out.bel (bel_trans HC.out hb1)).alloc (.cells #[.int .i64 x.kind, .int .u64 (x.num : Int), .string x.str, .slice D n d] 25)
  have hky := Blk.new u4 25 #[.int .i64 x.kind, .int .u64 (x.num : Int), .string x.str, .slice D n d]
  have hcu := bel_alloc (bel_trans HC.out hb1) (.cells #[.int .i64 x.kind, .int .u64 (x.num : Int), .string x.str, .slice D n d] 25)
  have hrb := (HR1.out.below hb1).alloc (.cells #[.int .i64 x.kind, .int .u64 (x.num : Int), .string x.str, .slice D n d] 25)
  have hyy := (hly.more (S' := fun b => b < u4.heap.size) (fun b _ h => h)).alloc (.cells #[.int .i64 x.kind, .int .u64 (x.num : Int), .string x.str, .slice D n d] 25)
  obtain ⟨gy, hgy⟩ : ∃ g, u4.heap.size = g := ⟨_, rfl⟩
  obtain ⟨U, hU⟩ : ∃ U, u4.alloc (.cells #[.int .i64 x.kind, .int .u64 (x.num : Int), .string x.str, .slice D n d] 25) = U := ⟨_, rfl⟩
  rw [hU] at hkx hky hcu hrb hyy
  rw [hgy] at hky hyy
  have HUU := Lib.hid hU
  have HGY := Lib.hid hgy
  replace HKX := Lib.hid hkx
  have HKY := Lib.hid hky
  have HCU := Lib.hid hcu
  have HRB := Lib.hid hrb
  have HLY := Lib.hid (fun (w' : World) (h : Below U.heap.size U w') => show Lies w' (fun b => b < w'.heap.size) x D d from (hyy.below h (fun b hb => by have := hky.lt; omega)).more fun b _ h => h)
  clear hkx hky hcu hrb hyy hU hgy hly hb1 HOB HR1 HC HCP
  have HC := Lib.hid (Below.refl U.heap.size U)
  go_upto_region 10 with fail
  rw [HUU.out, HGY.out]
  have hw64 : IntKind.i64.wrap vi = vi := Go.Proofs.YtjfpfbagckckkaaDoor.wrap64 (by omega) (by omega)
  obtain ⟨x0, x1, x2, x3⟩ := blk4 (HKX.out.bel HC.out)
  obtain ⟨y0, y1, y2, y3⟩ := blk4 (HKY.out.bel HC.out)
  go_wp2_with fail
  refine (HRF.out _ (HCU.out.trans (HC.out.mono HCU.out.size)) HCK.out (by omega)).mono ?_
  rintro e u6 ⟨A5, c5, rfl, hr5, hb1⟩
  replace HC := Lib.hid (bel_trans HC.out hb1)
  have HSMT := Lib.hid (Cp.same_tells A1 A5 n1 _ c1 c5 _ _ true _ (HRB.out.below HC.out) hr5 (by simp))
  clear x0 x1 x2 x3 y0 y1 y2 y3
  clear hb1 hr5
  obtain ⟨x0, x1, x2, x3⟩ := blk4 (HKX.out.bel HC.out)
  obtain ⟨y0, y1, y2, y3⟩ := blk4 (HKY.out.bel HC.out)
  go_wp2_with fail
  refine HSMT.out.mono ?_
  rintro e u7 ⟨rfl, hb1⟩
  replace HC := Lib.hid (bel_trans HC.out hb1)
  clear x0 x1 x2 x3 y0 y1 y2 y3
  clear hb1 HSMT
  obtain ⟨x0, x1, x2, x3⟩ := blk4 (HKX.out.bel HC.out)
  obtain ⟨y0, y1, y2, y3⟩ := blk4 (HKY.out.bel HC.out)
  go_wp2_with fail
  refine (HSM.out D d _ (HCU.out.trans (HC.out.mono HCU.out.size)) (HLY.out _ HC.out) (by have := HWT.out; omega)).mono ?_
  rintro e u8 ⟨rfl, hb1⟩
  replace HC := Lib.hid (bel_trans HC.out hb1)
  clear x0 x1 x2 x3 y0 y1 y2 y3
  clear hb1
  go_upto_region 12 with fail
  obtain ⟨t1, ht1⟩ : ∃ t, decide ((0 : Int) < vi) = t := ⟨_, rfl⟩
  have HT1 := Lib.hid ht1
  go_upto_if 65 with fail
  clear ht1
  go_cut [] from 6 (fun wx => Below U.heap.size U wx)
  case first =>
    cases t1 with
    | true =>
      have hp := of_decide_eq_true HT1.out
      have hwr : IntKind.u8.wrap (vi - 1) = vi - 1 := by simp [IntKind.wrap, IntKind.bits, IntKind.signed]; omega
      obtain ⟨ui, hui⟩ : ∃ ui, vi - 1 = ui := ⟨_, rfl⟩
      rw [hui] at hwr
      obtain ⟨u, hu⟩ : ∃ u : Nat, (u : Int) = ui := ⟨ui.toNat, by omega⟩
      have hvv := HV.out
      have ho := HOP.out u A1 n1 c1 _ (HCU.out.trans (HC.out.mono HCU.out.size)) (by omega) (HRB.out.below HC.out) hn16
      rw [open_new (by omega), hu] at ho
      have HO := Lib.hid ho
      clear ho hvv hu
      go_wp2_with fail
      try rw [hui]
      try rw [hwr]
      clear hwr hui hp
      refine HO.out.mono ?_
      rintro e u7 ⟨D7, d7, rfl, _, hb1⟩
      have hcc := bel_trans HC.out hb1
      have HCC := Lib.hid hcc
      clear hb1 hcc
      go_wp2_with fail
      go_meet
      case rel => exact bel_alloc HCC.out _
    | false =>
      go_wp2_with fail
      go_meet
      case rel => exact HC.out
  case rest =>
    clear HC
    generalize wc = Q1 at hcut ⊢
    have HC := Lib.hid hcut
    clear hcut
    go_upto_region 16 with fail
    obtain ⟨t2, ht2⟩ : ∃ t, decide (vi < 255) = t := ⟨_, rfl⟩
    have HT2 := Lib.hid ht2
    go_upto_if 76 with fail
    clear ht2
    go_cut [] from 6 (fun wx => Below U.heap.size U wx)
    case first =>
      cases t2 with
      | true =>
        have hp := of_decide_eq_true HT2.out
        have hwr : IntKind.u8.wrap (vi + 1) = vi + 1 := by simp [IntKind.wrap, IntKind.bits, IntKind.signed]; omega
        obtain ⟨ui, hui⟩ : ∃ ui, vi + 1 = ui := ⟨_, rfl⟩
        rw [hui] at hwr
        obtain ⟨u, hu⟩ : ∃ u : Nat, (u : Int) = ui := ⟨ui.toNat, by omega⟩
        have hvv := HV.out
        have ho := HOP.out u A1 n1 c1 _ (HCU.out.trans (HC.out.mono HCU.out.size)) (by omega) (HRB.out.below HC.out) hn16
        rw [open_old (by omega), hu] at ho
        have HO := Lib.hid ho
        clear ho hvv hu
        go_wp2_with fail
        try rw [hui]
        try rw [hwr]
        clear hwr hui hp
        refine HO.out.mono ?_
        rintro e u7 ⟨D7, d7, rfl, _, hb1⟩
        have hcc := bel_trans HC.out hb1
        have HCC := Lib.hid hcc
        clear hb1 hcc
        go_wp2_with fail
        go_meet
        case rel => exact bel_alloc HCC.out _
      | false =>
        go_wp2_with fail
        go_meet
        case rel => exact HC.out
    case rest =>
      clear HC
      generalize wc = Q2 at hcut ⊢
      have HC := Lib.hid hcut
      clear hcut
      go_upto_region 20 with fail
      replace HC := Lib.hid (HCU.out.trans (HC.out.mono HCU.out.size))
      go_wp2_with fail
      refine (HAW.out _ HC.out).mono ?_
      rintro e uz ⟨rfl, hb1⟩
      replace HC := Lib.hid (bel_trans HC.out hb1)
      clear hb1
      go_wp2_with fail
      go_ret
      exact ⟨rfl, HB.out.trans (HC.out.mono HB.out.size)⟩
end Go.Proofs.YtjfpfbagckckkaaDoor.Mg
