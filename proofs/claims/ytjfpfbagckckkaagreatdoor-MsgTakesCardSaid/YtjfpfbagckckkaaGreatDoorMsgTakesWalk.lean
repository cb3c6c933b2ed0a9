/-
  Texts of earlier layers, as one.
-/
import Derived.Test.YtjfpfbagckckkaaGreatDoorMsgAw
import Derived.Test.YtjfpfbagckckkaaGreatDoorMsgBase
import Derived.Test.YtjfpfbagckckkaaGreatDoorMsgRefTake
import Derived.Test.YtjfpfbagckckkaaGreatDoorRCodS
import Derived.Deep.RegionHeld
import Derived.Deep.Cut
/- Any bytes are the message that the document says, or none. -/
namespace Go.Proofs.YtjfpfbagckckkaaGreatDoor.Mg
open Go.RowKit Mem Ids Att Rk Cod
set_option maxRecDepth 100000 in
set_option maxHeartbeats 8000000 in
theorem msgtakes_true (b : List Nat) (vi : Int) (A : Option Addr) (n c : Nat) (w : World) (hT : Glob w) (hr : Rd w A n c (cs b)) (hb : ∀ x ∈ b, x < 256) (hv0 : 0 ≤ vi) (hv1 : vi < 256) :
 Calls Tryz.prog 4 #[.slice A n c, .int .u8 vi] w (Tells true w) := by
 have hlb := hr.len
 rw [length_cs] at hlb
 have HAW := Lib.hid (fun (w' : World) (h : Below w.heap.size w w') => awake_any w' (hT.below h))
 have HC := Lib.hid (Below.refl w.heap.size w)
 by_cases h15 : 1500 < n
 · have q0 : decide ((1500 : Int) < (n : Int)) = true := decide_eq_true (by omega)
   clear hT hr hb hlb h15
   as_aux_lemma =>
    go_enter Tryz.func4, Tryz.ntmps4
    go_wp2_with fail
    refine (HAW.out _ HC.out).mono ?_
    rintro e uz ⟨rfl, hb1⟩
    replace HC := Lib.hid (bel_trans HC.out hb1)
    clear hb1
    go_wp2_with fail
    go_ret
    exact ⟨rfl, HC.out⟩
 have q0 : decide ((1500 : Int) < (n : Int)) = false := decide_eq_false (by omega)
 have hn6 : n ≤ 1000000 := by omega
 obtain ⟨v, hv⟩ : ∃ v : Nat, (v : Int) = vi := ⟨vi.toNat, by omega⟩
 have hv256 : v < 256 := by omega
 have htk := fun (w' : World) (h : Below w.heap.size w w') => mtake_any b A n c w' (hT.2.below h) (hT.1.below h) (hr.below h) hb hn6
 have hrt := fun (w' : World) (h : Below w.heap.size w w') => reftake_any b A n c w' (hr.below h) hb hn6
 have hop := fun (w' : World) (h : Below w.heap.size w w') => ownopen_any v b A n c w' hv256 (hT.1.below h) (hr.below h) hb hn6
 have hro := fun (w' : World) (h : Below w.heap.size w w') => refopen_any v b A n c w' hv256 (hr.below h) hb hn6
 rw [own_ref] at htk
 rw [hv] at hop hro
 obtain ⟨⟨q, er⟩, hq⟩ : ∃ r, refTake (openX 2 b) = r := ⟨_, rfl⟩
 obtain ⟨⟨z, ez⟩, hz⟩ : ∃ r, openX v b = r := ⟨_, rfl⟩
 have hwz := open_small hb (by omega : b.length ≤ 1500) (by decide) hz
 rw [hq] at htk hrt
 rw [hz] at hop hro
 unfold TakesMg at htk hrt
 unfold Opens at hop hro
 obtain ⟨aM, ⟨aR, aN⟩, ⟨aB, aC⟩, ⟨aT, aU⟩, aS, ⟨aK, aL, aQ, aY, aV, aZ⟩, ⟨al, aE, aG⟩, aW⟩ := q
 simp only at htk hrt hop hro
 obtain ⟨ei, hei⟩ : ∃ ei : Int, (er : Int) = ei := ⟨_, rfl⟩
 obtain ⟨zi, hzi⟩ : ∃ zi : Int, (ez : Int) = zi := ⟨_, rfl⟩
 obtain ⟨zn, hzn⟩ : ∃ zn, z.kids.length = zn := ⟨_, rfl⟩
 rw [hei] at htk hrt
 rw [hzi, hzn] at hop hro
 have HTK := Lib.hid htk
 have HRT := Lib.hid hrt
 have HOP := Lib.hid hop
 have HRO := Lib.hid hro
 have HWZ := Lib.hid hwz
 have HZN := Lib.hid hzn
 have hss := fun V1 k1 c1 V2 k2 c2 w (h : Rs w V1 k1 c1 al) (h' : Rs w V2 k2 c2 al) => refmsame_any aM aR aN aB aC aT aU aS aK aL aQ aY aV aZ V1 k1 c1 aE aG aW al aM aR aN aB aC aT aU aS aK aL aQ aY aV aZ V2 k2 c2 aE aG aW al w h h'
 rw [msame_refl] at hss
 have HSS := Lib.hid hss
 have hsz := fun D1 d1 D2 d2 w (h1 : Lies w (fun b => b < w.heap.size) z D1 d1) (h2 : Lies w (fun b => b < w.heap.size) z D2 d2) (hwt : wt z ≤ 100000) => same_item z z D1 D2 d1 d2 (fun b => b < w.heap.size) w h1 h2 (fun b h => h) hwt
 rw [(same_iff z z).2 rfl, hzn] at hsz
 have HSZ := Lib.hid hsz
 have hw64 : IntKind.i64.wrap vi = vi := Go.Proofs.YtjfpfbagckckkaaGreatDoor.wrap64 (by omega) (by omega)
 have qe : (ei == ei) = true := beq_self_eq_true ei
 have qz : (zi == zi) = true := beq_self_eq_true zi
 clear htk hrt hop hro hss hsz hq hz hwz hei hzi hzn hv hv256 hr hb hT hlb h15 hn6
 go_enter Tryz.func4, Tryz.ntmps4
 go_wp2_with fail
 refine (HTK.out _ HC.out).mono ?_
 rintro e u1 ⟨V1, k1, c1, rfl, hrs1, hb1⟩
 as_aux_lemma =>
  have hcx := bel_alloc (bel_trans HC.out hb1) (.cells #[.int .i64 aM, .int .i64 aR, .int .i64 aN, .int .i64 aB, .int .i64 aC, .int .i64 aT, .int .i64 aU, .int .i64 aS, .int .i64 aK, .int .i64 aL, .int .i64 aQ, .string aY, .string aV, .int .i64 aZ, .slice V1 k1 c1, .int .i64 aE, .int .i64 aG, .int .i64 aW] 32)
  have hkx := Blk.new u1 32 #[.int .i64 aM, .int .i64 aR, .int .i64 aN, .int .i64 aB, .int .i64 aC, .int .i64 aT, .int .i64 aU, .int .i64 aS, .int .i64 aK, .int .i64 aL, .int .i64 aQ, .string aY, .string aV, .int .i64 aZ, .slice V1 k1 c1, .int .i64 aE, .int .i64 aG, .int .i64 aW]
  have hrx := hrs1.alloc (.cells #[.int .i64 aM, .int .i64 aR, .int .i64 aN, .int .i64 aB, .int .i64 aC, .int .i64 aT, .int .i64 aU, .int .i64 aS, .int .i64 aK, .int .i64 aL, .int .i64 aQ, .string aY, .string aV, .int .i64 aZ, .slice V1 k1 c1, .int .i64 aE, .int .i64 aG, .int .i64 aW] 32)
  obtain ⟨g1, hg⟩ : ∃ g, u1.heap.size = g := ⟨_, rfl⟩
  obtain ⟨U1, hU⟩ : ∃ v, u1.alloc (.cells #[.int .i64 aM, .int .i64 aR, .int .i64 aN, .int .i64 aB, .int .i64 aC, .int .i64 aT, .int .i64 aU, .int .i64 aS, .int .i64 aK, .int .i64 aL, .int .i64 aQ, .string aY, .string aV, .int .i64 aZ, .slice V1 k1 c1, .int .i64 aE, .int .i64 aG, .int .i64 aW] 32) = v := ⟨_, rfl⟩
  rw [hU] at hcx hkx hrx
  rw [hg] at hkx
  have HU1 := Lib.hid hU
  have HG1 := Lib.hid hg
  replace HC := Lib.hid hcx
  have HK1 := Lib.hid hkx
  have HR1 := Lib.hid hrx
  clear hcx hkx hrx hU hg hb1 hrs1
  go_upto_region 4 with fail
  rw [HU1.out, HG1.out]
  as_aux_lemma =>
   go_wp2_with fail
   refine (HRT.out _ HC.out).mono ?_
   rintro e u2 ⟨V2, k2, c2, rfl, hrs2, hb1⟩
   have hcx := bel_alloc (bel_trans HC.out hb1) (.cells #[.int .i64 aM, .int .i64 aR, .int .i64 aN, .int .i64 aB, .int .i64 aC, .int .i64 aT, .int .i64 aU, .int .i64 aS, .int .i64 aK, .int .i64 aL, .int .i64 aQ, .string aY, .string aV, .int .i64 aZ, .slice V2 k2 c2, .int .i64 aE, .int .i64 aG, .int .i64 aW] 32)
   have hkx := Blk.new u2 32 #[.int .i64 aM, .int .i64 aR, .int .i64 aN, .int .i64 aB, .int .i64 aC, .int .i64 aT, .int .i64 aU, .int .i64 aS, .int .i64 aK, .int .i64 aL, .int .i64 aQ, .string aY, .string aV, .int .i64 aZ, .slice V2 k2 c2, .int .i64 aE, .int .i64 aG, .int .i64 aW]
   have hrx := hrs2.alloc (.cells #[.int .i64 aM, .int .i64 aR, .int .i64 aN, .int .i64 aB, .int .i64 aC, .int .i64 aT, .int .i64 aU, .int .i64 aS, .int .i64 aK, .int .i64 aL, .int .i64 aQ, .string aY, .string aV, .int .i64 aZ, .slice V2 k2 c2, .int .i64 aE, .int .i64 aG, .int .i64 aW] 32)
   replace HK1 := Lib.hid (HK1.out.bel (bel_alloc hb1 (.cells #[.int .i64 aM, .int .i64 aR, .int .i64 aN, .int .i64 aB, .int .i64 aC, .int .i64 aT, .int .i64 aU, .int .i64 aS, .int .i64 aK, .int .i64 aL, .int .i64 aQ, .string aY, .string aV, .int .i64 aZ, .slice V2 k2 c2, .int .i64 aE, .int .i64 aG, .int .i64 aW] 32)))
   replace HR1 := Lib.hid (HR1.out.below (bel_alloc hb1 (.cells #[.int .i64 aM, .int .i64 aR, .int .i64 aN, .int .i64 aB, .int .i64 aC, .int .i64 aT, .int .i64 aU, .int .i64 aS, .int .i64 aK, .int .i64 aL, .int .i64 aQ, .string aY, .string aV, .int .i64 aZ, .slice V2 k2 c2, .int .i64 aE, .int .i64 aG, .int .i64 aW] 32)))
   obtain ⟨g2, hg⟩ : ∃ g, u2.heap.size = g := ⟨_, rfl⟩
   obtain ⟨U2, hU⟩ : ∃ v, u2.alloc (.cells #[.int .i64 aM, .int .i64 aR, .int .i64 aN, .int .i64 aB, .int .i64 aC, .int .i64 aT, .int .i64 aU, .int .i64 aS, .int .i64 aK, .int .i64 aL, .int .i64 aQ, .string aY, .string aV, .int .i64 aZ, .slice V2 k2 c2, .int .i64 aE, .int .i64 aG, .int .i64 aW] 32) = v := ⟨_, rfl⟩
   rw [hU] at hcx hkx hrx HK1 HR1
   rw [hg] at hkx
   have HU2 := Lib.hid hU
   have HG2 := Lib.hid hg
   replace HC := Lib.hid hcx
   have HK2 := Lib.hid hkx
   have HR2 := Lib.hid hrx
   clear hcx hkx hrx hU hg hb1 hrs2
   go_upto_region 5 with fail
   rw [HU2.out, HG2.out]
   as_aux_lemma =>
    go_wp2_with fail
    refine (HOP.out _ HC.out).mono ?_
    rintro e u3 ⟨D1, d1, rfl, hl3, hb1⟩
    have hcx := bel_alloc (bel_trans HC.out hb1) (.cells #[.int .i64 z.kind, .int .u64 (z.num : Int), .string z.str, .slice D1 zn d1] 48)
    have hkx := Blk.new u3 48 #[.int .i64 z.kind, .int .u64 (z.num : Int), .string z.str, .slice D1 zn d1]
    have hlx := (hl3.more (S' := fun b => b < u3.heap.size) (fun b _ h => h)).alloc (.cells #[.int .i64 z.kind, .int .u64 (z.num : Int), .string z.str, .slice D1 zn d1] 48)
    replace HK1 := Lib.hid (HK1.out.bel (bel_alloc hb1 (.cells #[.int .i64 z.kind, .int .u64 (z.num : Int), .string z.str, .slice D1 zn d1] 48)))
    replace HR1 := Lib.hid (HR1.out.below (bel_alloc hb1 (.cells #[.int .i64 z.kind, .int .u64 (z.num : Int), .string z.str, .slice D1 zn d1] 48)))
    replace HK2 := Lib.hid (HK2.out.bel (bel_alloc hb1 (.cells #[.int .i64 z.kind, .int .u64 (z.num : Int), .string z.str, .slice D1 zn d1] 48)))
    replace HR2 := Lib.hid (HR2.out.below (bel_alloc hb1 (.cells #[.int .i64 z.kind, .int .u64 (z.num : Int), .string z.str, .slice D1 zn d1] 48)))
    obtain ⟨g3, hg⟩ : ∃ g, u3.heap.size = g := ⟨_, rfl⟩
    obtain ⟨U3, hU⟩ : ∃ v, u3.alloc (.cells #[.int .i64 z.kind, .int .u64 (z.num : Int), .string z.str, .slice D1 zn d1] 48) = v := ⟨_, rfl⟩
    rw [hU] at hcx hkx hlx HK1 HR1 HK2 HR2
    rw [hg] at hkx hlx
    have HU3 := Lib.hid hU
    have HG3 := Lib.hid hg
    replace HC := Lib.hid hcx
    have HK3 := Lib.hid hkx
    have HL3 := Lib.hid (hlx.more (S' := fun b => b < U3.heap.size) (fun b _ h => h))
    clear hcx hkx hlx hU hg hb1 hl3
    go_upto_region 6 with fail
    rw [HU3.out, HG3.out]
    as_aux_lemma =>
     go_wp2_with fail
     refine (HRO.out _ HC.out).mono ?_
     rintro e u4 ⟨D2, d2, rfl, hl4, hb1⟩
     have HL3' := Lib.hid (HL3.out.below (bel_alloc hb1 (.cells #[.int .i64 z.kind, .int .u64 (z.num : Int), .string z.str, .slice D2 zn d2] 48)) (fun b h => h))
     have hcx := bel_alloc (bel_trans HC.out hb1) (.cells #[.int .i64 z.kind, .int .u64 (z.num : Int), .string z.str, .slice D2 zn d2] 48)
     have hkx := Blk.new u4 48 #[.int .i64 z.kind, .int .u64 (z.num : Int), .string z.str, .slice D2 zn d2]
     have hlx := (hl4.more (S' := fun b => b < u4.heap.size) (fun b _ h => h)).alloc (.cells #[.int .i64 z.kind, .int .u64 (z.num : Int), .string z.str, .slice D2 zn d2] 48)
     replace HK1 := Lib.hid (HK1.out.bel (bel_alloc hb1 (.cells #[.int .i64 z.kind, .int .u64 (z.num : Int), .string z.str, .slice D2 zn d2] 48)))
     replace HR1 := Lib.hid (HR1.out.below (bel_alloc hb1 (.cells #[.int .i64 z.kind, .int .u64 (z.num : Int), .string z.str, .slice D2 zn d2] 48)))
     replace HK2 := Lib.hid (HK2.out.bel (bel_alloc hb1 (.cells #[.int .i64 z.kind, .int .u64 (z.num : Int), .string z.str, .slice D2 zn d2] 48)))
     replace HR2 := Lib.hid (HR2.out.below (bel_alloc hb1 (.cells #[.int .i64 z.kind, .int .u64 (z.num : Int), .string z.str, .slice D2 zn d2] 48)))
     replace HK3 := Lib.hid (HK3.out.bel (bel_alloc hb1 (.cells #[.int .i64 z.kind, .int .u64 (z.num : Int), .string z.str, .slice D2 zn d2] 48)))
     obtain ⟨g4, hg⟩ : ∃ g, u4.heap.size = g := ⟨_, rfl⟩
     obtain ⟨U4, hU⟩ : ∃ v, u4.alloc (.cells #[.int .i64 z.kind, .int .u64 (z.num : Int), .string z.str, .slice D2 zn d2] 48) = v := ⟨_, rfl⟩
     rw [hU] at HL3' hcx hkx hlx HK1 HR1 HK2 HR2 HK3
     rw [hg] at hkx hlx
     have HU4 := Lib.hid hU
     have HG4 := Lib.hid hg
     replace HC := Lib.hid hcx
     have HK4 := Lib.hid hkx
     have HL4 := Lib.hid (hlx.more (S' := fun b => b < U4.heap.size) (fun b _ h => h))
     clear hcx hkx hlx hU hg hb1 hl4
     go_upto_region 7 with fail
     rw [HU4.out, HG4.out]
     as_aux_lemma =>
      have HC4 := HC
      have HLA := Lib.hid (HL3'.out.more (S' := fun b => b < U4.heap.size) fun b _ h => h)
      clear HC HL3'
      have HC := Lib.hid (Below.refl U4.heap.size U4)
      go_wp2_with (first | ((with_reducible refine wpList_load_blk_w 32 _ rfl g1 32 #[.int .i64 aM, .int .i64 aR, .int .i64 aN, .int .i64 aB, .int .i64 aC, .int .i64 aT, .int .i64 aU, .int .i64 aS, .int .i64 aK, .int .i64 aL, .int .i64 aQ, .string aY, .string aV, .int .i64 aZ, .slice V1 k1 c1, .int .i64 aE, .int .i64 aG, .int .i64 aW] _ ?_ ?_ HK1.out Tryz.underlying32 ?_ ?_ ?_); (focus rfl); (focus kernel_rfl); (focus rfl); (focus kernel_rfl)) | ((with_reducible refine wpList_load_blk_w 32 _ rfl g2 32 #[.int .i64 aM, .int .i64 aR, .int .i64 aN, .int .i64 aB, .int .i64 aC, .int .i64 aT, .int .i64 aU, .int .i64 aS, .int .i64 aK, .int .i64 aL, .int .i64 aQ, .string aY, .string aV, .int .i64 aZ, .slice V2 k2 c2, .int .i64 aE, .int .i64 aG, .int .i64 aW] _ ?_ ?_ HK2.out Tryz.underlying32 ?_ ?_ ?_); (focus rfl); (focus kernel_rfl); (focus rfl); (focus kernel_rfl)))
      refine (HSS.out V1 k1 c1 V2 k2 c2 _ HR1.out HR2.out).mono ?_
      rintro e u5 ⟨rfl, hb1⟩
      replace HC := Lib.hid (bel_trans HC.out hb1)
      clear hb1
      obtain ⟨x0, x1, x2, x3⟩ := blk4 (HK3.out.bel HC.out)
      obtain ⟨y0, y1, y2, y3⟩ := blk4 (HK4.out.bel HC.out)
      go_wp2_with fail
      refine (HSZ.out D1 d1 D2 d2 _ ((HLA.out.below HC.out (fun b h => h)).more fun b _ h => h) ((HL4.out.below HC.out (fun b h => h)).more fun b _ h => h) (by have := HWZ.out; omega)).mono ?_
      rintro e u6 ⟨rfl, hb1⟩
      replace HC := Lib.hid (bel_trans HC.out hb1)
      clear hb1 x0 x1 x2 x3 y0 y1 y2 y3
      go_wp2_with fail
      refine (HAW.out _ (HC4.out.trans (HC.out.mono HC4.out.size))).mono ?_
      rintro e uz ⟨rfl, hb1⟩
      replace HC := Lib.hid (bel_trans HC.out hb1)
      clear hb1
      go_wp2_with fail
      go_ret
      exact ⟨rfl, HC4.out.trans (HC.out.mono HC4.out.size)⟩
end Go.Proofs.YtjfpfbagckckkaaGreatDoor.Mg
