/-
  Texts of earlier layers, as one.
-/
import Derived.Test.YthlhchaoedcdbaaGreatDoorMsgQ
import Derived.Test.YthlhchaoedcdbaaGreatDoorMsgFO
import Derived.Test.YthlhchaoedcdbaaGreatDoorMsgOwnForm
import Derived.Test.YthlhchaoedcdbaaGreatDoorMsgCP
import Derived.Test.YthlhchaoedcdbaaGreatDoorMsgPl
import Derived.Test.YthlhchaoedcdbaaGreatDoorRCodS
import Derived.Test.YthlhchaoedcdbaaGreatDoorRBase
import Derived.Deep.RegionHeld
import Derived.Deep.Cut
/- The program's Take of bytes. -/
namespace Go.Proofs.YthlhchaoedcdbaaGreatDoor.Mg
open Go.RowKit Mem Ids Att Rk Cod
def TakesMg (w : World) (r : Mg × Nat) (e : Ending) (w' : World) : Prop :=
 ∃ V n c, e = .returned (.tuple #[.agg #[.int .i64 r.1.kd, .int .i64 r.1.id.1, .int .i64 r.1.id.2, .int .i64 r.1.bl.1, .int .i64 r.1.bl.2, .int .i64 r.1.tk.1, .int .i64 r.1.tk.2, .int .i64 r.1.st, .int .i64 r.1.cm.kd, .int .i64 r.1.cm.cl, .int .i64 r.1.cm.sq, .string r.1.cm.ky, .string r.1.cm.vl, .int .i64 r.1.cm.rv, .slice V n c, .int .i64 r.1.at_.sq, .int .i64 r.1.at_.tg, .int .i64 r.1.vn], .int .i64 (r.2 : Int)]) ∧ Rs w' V n c r.1.at_.dp ∧ Below w.heap.size w w'
def TakesNw (w : World) (r : Mg × Nat) (e : Ending) (w' : World) : Prop :=
 ∃ V n c, e = .returned (.tuple #[.agg #[.int .i64 r.1.kd, .int .i64 r.1.id.1, .int .i64 r.1.id.2, .int .i64 r.1.bl.1, .int .i64 r.1.bl.2, .int .i64 r.1.tk.1, .int .i64 r.1.tk.2, .int .i64 r.1.st, .int .i64 r.1.cm.kd, .int .i64 r.1.cm.cl, .int .i64 r.1.cm.sq, .string r.1.cm.ky, .string r.1.cm.vl, .int .i64 r.1.cm.rv, .slice V n c, .int .i64 r.1.at_.sq, .int .i64 r.1.at_.tg, .int .i64 r.1.vn], .int .i64 (r.2 : Int)]) ∧ Rs w' V n c r.1.at_.dp ∧ (∀ g o, V = some ⟨g, o, none⟩ → w.heap.size ≤ g) ∧ Below w.heap.size w w'
theorem TakesNw.mg {w : World} {r : Mg × Nat} {e : Ending} {w' : World} (h : TakesNw w r e w') : TakesMg w r e w' := by
 obtain ⟨V, n, c, h1, h2, _, h3⟩ := h
 exact ⟨V, n, c, h1, h2, h3⟩
theorem ownTake_zero (x : It) : ownTake (x, 0) = if (mright (readOwn x.kids) && same (mgIt (readOwn x.kids)) x) = true then (readOwn x.kids, 0) else (zeroMg, 4) := by
 unfold ownTake
 rw [if_pos rfl]
theorem ownTake_bad (x : It) {e : Nat} (h : ¬ e = 0) : ownTake (x, e) = (zeroMg, e) := by
 unfold ownTake
 rw [if_neg h]
set_option maxRecDepth 100000 in
set_option maxHeartbeats 8000000 in
theorem mtake_new (b : List Nat) (A : Option Addr) (m c : Nat) (w : World) (hN : Nam w) (ht : Cr.Tab w) (hr : Rd w A m c (cs b)) (hb : ∀ x ∈ b, x < 256) (hm : m ≤ 1000000) :
 Calls Tryz.prog 31 #[.slice A m c] w (TakesNw w (ownTake (openX 2 b))) := by
 have hz0 := Blk.new w 32 #[.int .i64 0, .int .i64 0, .int .i64 0, .int .i64 0, .int .i64 0, .int .i64 0, .int .i64 0, .int .i64 0, .int .i64 0, .int .i64 0, .int .i64 0, .string ⟨#[]⟩, .string ⟨#[]⟩, .int .i64 0, .slice none 0 0, .int .i64 0, .int .i64 0, .int .i64 0]
 have hbz := bel_alloc (Below.refl w.heap.size w) (.cells #[.int .i64 0, .int .i64 0, .int .i64 0, .int .i64 0, .int .i64 0, .int .i64 0, .int .i64 0, .int .i64 0, .int .i64 0, .int .i64 0, .int .i64 0, .string ⟨#[]⟩, .string ⟨#[]⟩, .int .i64 0, .slice none 0 0, .int .i64 0, .int .i64 0, .int .i64 0] 32)
 have hNz := hN.below hbz
 have hop := fun (W : World) (h : Below w.heap.size w W) => ownopen_any 2 b A m c W (by decide) (ht.below h) (hr.below h) hb hm
 obtain ⟨W, hW⟩ : ∃ W, w.alloc (.cells #[.int .i64 0, .int .i64 0, .int .i64 0, .int .i64 0, .int .i64 0, .int .i64 0, .int .i64 0, .int .i64 0, .int .i64 0, .int .i64 0, .int .i64 0, .string ⟨#[]⟩, .string ⟨#[]⟩, .int .i64 0, .slice none 0 0, .int .i64 0, .int .i64 0, .int .i64 0] 32) = W := ⟨_, rfl⟩
 rw [hW] at hz0 hbz hNz
 have HOP := Lib.hid (hop W hbz)
 have HZ := Lib.hid hz0
 have HB := Lib.hid hbz
 have HNM := Lib.hid hNz
 have HW := Lib.hid hW
 clear hz0 hbz hNz hW hop hN ht hr hb
 obtain ⟨⟨x, e0⟩, hx⟩ : ∃ r, openX 2 b = r := ⟨_, rfl⟩
 rw [hx] at HOP ⊢
 clear hx
 go_enter Tryz.func31, Tryz.ntmps31
 go_upto_region 1 with fail
 rw [HW.out]
 go_wp2_with fail
 refine HOP.out.mono ?_
 rintro e u ⟨D, d, rfl, hl, hb1⟩
 simp only
 obtain ⟨n, hn⟩ : ∃ n, x.kids.length = n := ⟨_, rfl⟩
 have hxb := hl.bounds
 have hrow := (hl.more (S' := fun b => b < u.heap.size) (fun b _ h => h)).alloc (.cells #[.int .i64 x.kind, .int .u64 (x.num : Int), .string x.str, .slice D x.kids.length d] 57)
 rw [hn] at hxb hrow ⊢
 have hbu := bel_alloc hb1 (.cells #[.int .i64 x.kind, .int .u64 (x.num : Int), .string x.str, .slice D n d] 57)
 have hkx := Blk.new u 57 #[.int .i64 x.kind, .int .u64 (x.num : Int), .string x.str, .slice D n d]
 obtain ⟨g, hg⟩ : ∃ g, u.heap.size = g := ⟨_, rfl⟩
 obtain ⟨U, hU⟩ : ∃ U, u.alloc (.cells #[.int .i64 x.kind, .int .u64 (x.num : Int), .string x.str, .slice D n d] 57) = U := ⟨_, rfl⟩
 rw [hU] at hrow hbu hkx
 rw [hg] at hrow hkx
 have HLX := Lib.hid hrow
 have HBU := Lib.hid hbu
 have HKX := Lib.hid hkx
 have HG := Lib.hid hg
 have HU := Lib.hid hU
 have HXN := Lib.hid hn
 have HXB := Lib.hid hxb
 clear hrow hbu hkx hg hU hn hxb hb1 hl
 go_upto_region 2 with fail
 rw [HU.out, HG.out]
 by_cases he : e0 = 0
 case neg =>
  have b1 : ((e0 : Int) != 0) = true := bne_iff_ne.2 (by omega)
  have HZU := Lib.hid (HZ.out.bel HBU.out)
  have HBW := Lib.hid (HB.out.trans (HBU.out.mono HB.out.size))
  go_wp2_with (first | fail | ((with_reducible refine wpList_store_blk rfl 32 _ _ rfl w.heap.size 32 #[.int .i64 0, .int .i64 0, .int .i64 0, .int .i64 0, .int .i64 0, .int .i64 0, .int .i64 0, .int .i64 0, .int .i64 0, .int .i64 0, .int .i64 0, .string ⟨#[]⟩, .string ⟨#[]⟩, .int .i64 0, .slice none 0 0, .int .i64 0, .int .i64 0, .int .i64 0] #[.int .i64 0, .int .i64 0, .int .i64 0, .int .i64 0, .int .i64 0, .int .i64 0, .int .i64 0, .int .i64 0, .int .i64 0, .int .i64 0, .int .i64 0, .string ⟨#[]⟩, .string ⟨#[]⟩, .int .i64 0, .slice none 0 0, .int .i64 0, .int .i64 0, .int .i64 0] ?_ ?_ HZU.out ?_ ?_ ?_ ?_); (focus rfl); (focus rfl); (focus kernel_rfl); (focus rfl); (focus kernel_rfl); intro w9 hblk2 hgr))
  refine bodyPost_ret (v := .tuple #[.agg #[.int .i64 0, .int .i64 0, .int .i64 0, .int .i64 0, .int .i64 0, .int .i64 0, .int .i64 0, .int .i64 0, .int .i64 0, .int .i64 0, .int .i64 0, .string ⟨#[]⟩, .string ⟨#[]⟩, .int .i64 0, .slice none 0 0, .int .i64 0, .int .i64 0, .int .i64 0], .int .i64 (e0 : Int)]) (results_blk_tmp Tryz.results31 _ _ w.heap.size 32 _ _ _ rfl rfl hblk2 Tryz.underlying32 rfl (by kernel_rfl)) rfl ?_
  rw [ownTake_bad x he]
  exact ⟨none, 0, 0, rfl, Rs.nil_ _, (fun _ _ e => by cases e), HBW.out.trans (gr_below hgr HBW.out.size fun b hb => by injection hb with hb; omega)⟩
 subst he
 obtain ⟨x0, x1, x2, x3⟩ := blk4 HKX.out
 obtain ⟨T, hT⟩ : ∃ T, ownTake (x, 0) = T := ⟨_, rfl⟩
 have HTE := Lib.hid hT
 rw [ownTake_zero] at hT
 have hlow : ∀ b, b < g → b < U.heap.size := fun b hb => by have := HKX.out.lt; omega
 have hrd := ownread_any D n d x.kids (fun b => b < g) U (by have h := HLX.out.row; rw [HXN.out] at h; exact h) (by have := HXB.out; omega) (HNM.out.below HBU.out) hlow
 generalize hq : readOwn x.kids = q at hT hrd
 clear hq
 obtain ⟨aM, ⟨aR, aN⟩, ⟨aB, aC⟩, ⟨aT, aU⟩, aS, ⟨aK, aL, aQ, aY, aV, aZ⟩, ⟨al, aE, aG⟩, aW⟩ := q
 have HRD := Lib.hid hrd
 have HT := Lib.hid hT
 clear hT hrd hlow
 go_wp2_with fail
 refine HRD.out.mono ?_
 rintro e u2 ⟨aA, an, ac, rfl, hrs, hnew, hb2⟩
 simp only at hrs ⊢
 have hbm := bel_alloc hb2 (.cells #[.int .i64 aM, .int .i64 aR, .int .i64 aN, .int .i64 aB, .int .i64 aC, .int .i64 aT, .int .i64 aU, .int .i64 aS, .int .i64 aK, .int .i64 aL, .int .i64 aQ, .string aY, .string aV, .int .i64 aZ, .slice aA an ac, .int .i64 aE, .int .i64 aG, .int .i64 aW] 32)
 have hkm := Blk.new u2 32 #[.int .i64 aM, .int .i64 aR, .int .i64 aN, .int .i64 aB, .int .i64 aC, .int .i64 aT, .int .i64 aU, .int .i64 aS, .int .i64 aK, .int .i64 aL, .int .i64 aQ, .string aY, .string aV, .int .i64 aZ, .slice aA an ac, .int .i64 aE, .int .i64 aG, .int .i64 aW]
 have hrm := hrs.alloc (.cells #[.int .i64 aM, .int .i64 aR, .int .i64 aN, .int .i64 aB, .int .i64 aC, .int .i64 aT, .int .i64 aU, .int .i64 aS, .int .i64 aK, .int .i64 aL, .int .i64 aQ, .string aY, .string aV, .int .i64 aZ, .slice aA an ac, .int .i64 aE, .int .i64 aG, .int .i64 aW] 32)
 obtain ⟨p, hp⟩ : ∃ p, u2.heap.size = p := ⟨_, rfl⟩
 obtain ⟨M, hM⟩ : ∃ M, u2.alloc (.cells #[.int .i64 aM, .int .i64 aR, .int .i64 aN, .int .i64 aB, .int .i64 aC, .int .i64 aT, .int .i64 aU, .int .i64 aS, .int .i64 aK, .int .i64 aL, .int .i64 aQ, .string aY, .string aV, .int .i64 aZ, .slice aA an ac, .int .i64 aE, .int .i64 aG, .int .i64 aW] 32) = M := ⟨_, rfl⟩
 rw [hM] at hbm hkm hrm
 rw [hp] at hkm
 have HKm := Lib.hid hkm
 have HRa := Lib.hid hrm
 have HBM := Lib.hid hbm
 have HP := Lib.hid hp
 have HMM := Lib.hid hM
 have HNW := Lib.hid hnew
 clear hbm hkm hrm hp hM hb2 hrs hnew x0 x1 x2 x3 HRD
 go_upto_region 5 with fail
 rw [HMM.out, HP.out]
 have HKx := Lib.hid (HKX.out.bel HBM.out)
 have HRN := Lib.hid ((HNM.out.below HBU.out).below HBM.out)
 have HC := Lib.hid (Below.drew (Below.refl M.heap.size M))
 have HZM := Lib.hid (HZ.out.bel (bel_trans HBU.out HBM.out))
 have HBW := Lib.hid (HB.out.trans ((bel_trans HBU.out HBM.out).mono HB.out.size))
 have HLM := Lib.hid (fun (v : World) (h : Below M.heap.size M v) => show Lies v (fun b => b < v.heap.size) x D d from ((HLX.out.below HBM.out (fun b hb => by have := HKX.out.lt; omega)).below h (fun b hb => by have := HKX.out.lt; have := HBM.out.size; omega)).more fun b _ h => h)
 have HCK := fun (w : World) (h : Rs w aA an ac al) hn => mcheck_any aM aR aN aB aC aT aU aS aK aL aQ aY aV aZ aA an ac aE aG aW al w h hn
 have HFM := fun (w : World) (h : Rs w aA an ac al) hn hr => form_any aM aR aN aB aC aT aU aS aK aL aQ aY aV aZ aA an ac aE aG aW al w h hn hr
 have hwt := fun (h : mright ⟨aM, (aR, aN), (aB, aC), (aT, aU), aS, ⟨aK, aL, aQ, aY, aV, aZ⟩, ⟨al, aE, aG⟩, aW⟩ = true) => wt_mg h
 unfold mchk at HCK
 generalize hy : mgIt ⟨aM, (aR, aN), (aB, aC), (aT, aU), aS, ⟨aK, aL, aQ, aY, aV, aZ⟩, ⟨al, aE, aG⟩, aW⟩ = y at HT HFM hwt
 clear hy
 generalize mright ⟨aM, (aR, aN), (aB, aC), (aT, aU), aS, ⟨aK, aL, aQ, aY, aV, aZ⟩, ⟨al, aE, aG⟩, aW⟩ = tr at HT HCK HFM hwt
 generalize hs : same y x = s at HT
 have HS := Lib.hid hs
 clear hs
 cases tr with
 | false =>
   simp only [Bool.false_eq_true, if_false] at HCK
   have HCH := Lib.hid HCK
   clear HCK HFM hwt
   refine wp_region_held_drew (S := (fun w' => Blk w' p 32 #[.int .i64 aM, .int .i64 aR, .int .i64 aN, .int .i64 aB, .int .i64 aC, .int .i64 aT, .int .i64 aU, .int .i64 aS, .int .i64 aK, .int .i64 aL, .int .i64 aQ, .string aY, .string aV, .int .i64 aZ, .slice aA an ac, .int .i64 aE, .int .i64 aG, .int .i64 aW] ∧ Blk w' g 57 #[.int .i64 x.kind, .int .u64 (x.num : Int), .string x.str, .slice D n d])) (by kernel_rfl) (by with_reducible exact ⟨HKm.out.bel HC.out, HKx.out.bel HC.out⟩) (fun hHeld => ?_)
   refine held_take (i := 0) (d := 19) (v := (.agg #[.int .i64 aM, .int .i64 aR, .int .i64 aN, .int .i64 aB, .int .i64 aC, .int .i64 aT, .int .i64 aU, .int .i64 aS, .int .i64 aK, .int .i64 aL, .int .i64 aQ, .string aY, .string aV, .int .i64 aZ, .slice aA an ac, .int .i64 aE, .int .i64 aG, .int .i64 aW])) rfl rfl (by kernel_rfl) (by kernel_rfl) (by kernel_rfl) (fun _ _ _ h => h) (by kernel_rfl) (run_load_blk 32 (.tmp 6) rfl p 32 #[.int .i64 aM, .int .i64 aR, .int .i64 aN, .int .i64 aB, .int .i64 aC, .int .i64 aT, .int .i64 aU, .int .i64 aS, .int .i64 aK, .int .i64 aL, .int .i64 aQ, .string aY, .string aV, .int .i64 aZ, .slice aA an ac, .int .i64 aE, .int .i64 aG, .int .i64 aW] _ rfl (fun _ h => h.1) Tryz.underlying32 rfl (by kernel_rfl)) hHeld ?_
   try simp only [List.setIfInBounds_toArray, List.set_cons_zero, List.set_cons_succ]
   refine wpAnyH_ready (rs := [1]) (by kernel_rfl) (by simp) ?_
   refine AllReadyH.cons rfl (fun K hK => ?_) AllReadyH.nil
   go_simp
   go_at_call 19
   refine (HCH.out _ (HRa.out.below HC.out) (HRN.out.below HC.out)).mono ?_
   rintro e u9 ⟨rfl, hb1⟩
   replace HC := Lib.hid (bel_trans HC.out hb1)
   clear hb1
   refine hK.out _ _ (by with_reducible exact ⟨HKm.out.bel HC.out, HKx.out.bel HC.out⟩) (fun hHeld => ?_)
   clear hK K
   refine held_take (i := 2) (d := 21) (v := (.bool true)) rfl rfl (by kernel_rfl) (by kernel_rfl) (by kernel_rfl) (fun _ _ _ h => h) (by kernel_rfl) (fun w hSw => by (obtain hS := hSw); go_simp) hHeld ?_
   try simp only [List.setIfInBounds_toArray, List.set_cons_zero, List.set_cons_succ]
   refine held_take (i := 3) (d := 22) (v := (.bool true)) rfl rfl (by kernel_rfl) (by kernel_rfl) (by kernel_rfl) (fun _ _ _ h => h) (by kernel_rfl) (fun w hSw => by (obtain hS := hSw); go_simp) hHeld ?_
   try simp only [List.setIfInBounds_toArray, List.set_cons_zero, List.set_cons_succ]
   refine held_skip (i := 4) (d := 23) rfl rfl (by kernel_rfl) (by kernel_rfl) (by kernel_rfl) (fun _ _ _ h => h) (by kernel_rfl) hHeld ?_
   try simp only [List.setIfInBounds_toArray, List.set_cons_zero, List.set_cons_succ]
   refine held_skip (i := 5) (d := 24) rfl rfl (by kernel_rfl) (by kernel_rfl) (by kernel_rfl) (fun _ _ _ h => h) (by kernel_rfl) hHeld ?_
   try simp only [List.setIfInBounds_toArray, List.set_cons_zero, List.set_cons_succ]
   refine held_skip (i := 6) (d := 25) rfl rfl (by kernel_rfl) (by kernel_rfl) (by kernel_rfl) (fun _ _ _ h => h) (by kernel_rfl) hHeld ?_
   try simp only [List.setIfInBounds_toArray, List.set_cons_zero, List.set_cons_succ]
   refine held_skip (i := 7) (d := 26) rfl rfl (by kernel_rfl) (by kernel_rfl) (by kernel_rfl) (fun _ _ _ h => h) (by kernel_rfl) hHeld ?_
   try simp only [List.setIfInBounds_toArray, List.set_cons_zero, List.set_cons_succ]
   refine held_skip (i := 8) (d := 27) rfl rfl (by kernel_rfl) (by kernel_rfl) (by kernel_rfl) (fun _ _ _ h => h) (by kernel_rfl) hHeld ?_
   try simp only [List.setIfInBounds_toArray, List.set_cons_zero, List.set_cons_succ]
   refine held_take (i := 9) (d := 28) (v := (.bool true)) rfl rfl (by kernel_rfl) (by kernel_rfl) (by kernel_rfl) (fun _ _ _ h => h) (by kernel_rfl) (fun w hSw => by (obtain hS := hSw); go_simp) hHeld ?_
   try simp only [List.setIfInBounds_toArray, List.set_cons_zero, List.set_cons_succ]
   refine wpAnyH_done (by kernel_rfl) ?_ _
   skip
   have HZN := Lib.hid (HZM.out.bel HC.out)
   have HBN := Lib.hid (HBW.out.trans (HC.out.mono HBW.out.size))
   go_wp2_with (first | fail | ((with_reducible refine wpList_store_blk rfl 32 _ _ rfl w.heap.size 32 #[.int .i64 0, .int .i64 0, .int .i64 0, .int .i64 0, .int .i64 0, .int .i64 0, .int .i64 0, .int .i64 0, .int .i64 0, .int .i64 0, .int .i64 0, .string ⟨#[]⟩, .string ⟨#[]⟩, .int .i64 0, .slice none 0 0, .int .i64 0, .int .i64 0, .int .i64 0] #[.int .i64 0, .int .i64 0, .int .i64 0, .int .i64 0, .int .i64 0, .int .i64 0, .int .i64 0, .int .i64 0, .int .i64 0, .int .i64 0, .int .i64 0, .string ⟨#[]⟩, .string ⟨#[]⟩, .int .i64 0, .slice none 0 0, .int .i64 0, .int .i64 0, .int .i64 0] ?_ ?_ HZN.out ?_ ?_ ?_ ?_); (focus rfl); (focus rfl); (focus kernel_rfl); (focus rfl); (focus kernel_rfl); intro w9 hblk2 hgr))
   refine bodyPost_ret (v := .tuple #[.agg #[.int .i64 0, .int .i64 0, .int .i64 0, .int .i64 0, .int .i64 0, .int .i64 0, .int .i64 0, .int .i64 0, .int .i64 0, .int .i64 0, .int .i64 0, .string ⟨#[]⟩, .string ⟨#[]⟩, .int .i64 0, .slice none 0 0, .int .i64 0, .int .i64 0, .int .i64 0], .int .i64 4]) (results_blk_tmp Tryz.results31 _ _ w.heap.size 32 _ _ _ rfl rfl hblk2 Tryz.underlying32 rfl (by kernel_rfl)) rfl ?_
   have hTT := HT.out
   simp only [Bool.false_and, Bool.false_eq_true, if_false] at hTT
   rw [HTE.out, ← hTT]
   exact ⟨none, 0, 0, rfl, Rs.nil_ _, (fun _ _ e => by cases e), HBN.out.trans (gr_below hgr HBN.out.size fun b hb => by injection hb with hb; omega)⟩
 | true =>
   simp only [if_true] at HCK
   have HCH := Lib.hid HCK
   have HFH := Lib.hid (fun w h hn => HFM w h hn rfl)
   have HWT := Lib.hid (show wt y ≤ 100000 from by have := hwt rfl; omega)
   clear HCK HFM hwt
   cases s with
   | false =>
     refine wp_region_held_drew (S := (fun w' => Blk w' p 32 #[.int .i64 aM, .int .i64 aR, .int .i64 aN, .int .i64 aB, .int .i64 aC, .int .i64 aT, .int .i64 aU, .int .i64 aS, .int .i64 aK, .int .i64 aL, .int .i64 aQ, .string aY, .string aV, .int .i64 aZ, .slice aA an ac, .int .i64 aE, .int .i64 aG, .int .i64 aW] ∧ Blk w' g 57 #[.int .i64 x.kind, .int .u64 (x.num : Int), .string x.str, .slice D n d])) (by kernel_rfl) (by with_reducible exact ⟨HKm.out.bel HC.out, HKx.out.bel HC.out⟩) (fun hHeld => ?_)
     refine held_take (i := 0) (d := 19) (v := (.agg #[.int .i64 aM, .int .i64 aR, .int .i64 aN, .int .i64 aB, .int .i64 aC, .int .i64 aT, .int .i64 aU, .int .i64 aS, .int .i64 aK, .int .i64 aL, .int .i64 aQ, .string aY, .string aV, .int .i64 aZ, .slice aA an ac, .int .i64 aE, .int .i64 aG, .int .i64 aW])) rfl rfl (by kernel_rfl) (by kernel_rfl) (by kernel_rfl) (fun _ _ _ h => h) (by kernel_rfl) (run_load_blk 32 (.tmp 6) rfl p 32 #[.int .i64 aM, .int .i64 aR, .int .i64 aN, .int .i64 aB, .int .i64 aC, .int .i64 aT, .int .i64 aU, .int .i64 aS, .int .i64 aK, .int .i64 aL, .int .i64 aQ, .string aY, .string aV, .int .i64 aZ, .slice aA an ac, .int .i64 aE, .int .i64 aG, .int .i64 aW] _ rfl (fun _ h => h.1) Tryz.underlying32 rfl (by kernel_rfl)) hHeld ?_
     try simp only [List.setIfInBounds_toArray, List.set_cons_zero, List.set_cons_succ]
     refine wpAnyH_ready (rs := [1]) (by kernel_rfl) (by simp) ?_
     refine AllReadyH.cons rfl (fun K hK => ?_) AllReadyH.nil
     go_simp
     go_at_call 19
     refine (HCH.out _ (HRa.out.below HC.out) (HRN.out.below HC.out)).mono ?_
     rintro e u9 ⟨rfl, hb1⟩
     replace HC := Lib.hid (bel_trans HC.out hb1)
     clear hb1
     refine hK.out _ _ (by with_reducible exact ⟨HKm.out.bel HC.out, HKx.out.bel HC.out⟩) (fun hHeld => ?_)
     clear hK K
     refine held_take (i := 2) (d := 21) (v := (.bool false)) rfl rfl (by kernel_rfl) (by kernel_rfl) (by kernel_rfl) (fun _ _ _ h => h) (by kernel_rfl) (fun w hSw => by (obtain hS := hSw); go_simp) hHeld ?_
     try simp only [List.setIfInBounds_toArray, List.set_cons_zero, List.set_cons_succ]
     refine held_take (i := 3) (d := 22) (v := (.bool false)) rfl rfl (by kernel_rfl) (by kernel_rfl) (by kernel_rfl) (fun _ _ _ h => h) (by kernel_rfl) (fun w hSw => by (obtain hS := hSw); go_simp) hHeld ?_
     try simp only [List.setIfInBounds_toArray, List.set_cons_zero, List.set_cons_succ]
     refine held_take (i := 4) (d := 23) (v := (.agg #[.int .i64 aM, .int .i64 aR, .int .i64 aN, .int .i64 aB, .int .i64 aC, .int .i64 aT, .int .i64 aU, .int .i64 aS, .int .i64 aK, .int .i64 aL, .int .i64 aQ, .string aY, .string aV, .int .i64 aZ, .slice aA an ac, .int .i64 aE, .int .i64 aG, .int .i64 aW])) rfl rfl (by kernel_rfl) (by kernel_rfl) (by kernel_rfl) (fun _ _ _ h => h) (by kernel_rfl) (run_load_blk 32 (.tmp 6) rfl p 32 #[.int .i64 aM, .int .i64 aR, .int .i64 aN, .int .i64 aB, .int .i64 aC, .int .i64 aT, .int .i64 aU, .int .i64 aS, .int .i64 aK, .int .i64 aL, .int .i64 aQ, .string aY, .string aV, .int .i64 aZ, .slice aA an ac, .int .i64 aE, .int .i64 aG, .int .i64 aW] _ rfl (fun _ h => h.1) Tryz.underlying32 rfl (by kernel_rfl)) hHeld ?_
     try simp only [List.setIfInBounds_toArray, List.set_cons_zero, List.set_cons_succ]
     refine held_take (i := 6) (d := 25) (v := (.agg #[.int .i64 x.kind, .int .u64 (x.num : Int), .string x.str, .slice D n d])) rfl rfl (by kernel_rfl) (by kernel_rfl) (by kernel_rfl) (fun _ _ _ h => h) (by kernel_rfl) (run_load_blk 57 (.tmp 4) rfl g 57 #[.int .i64 x.kind, .int .u64 (x.num : Int), .string x.str, .slice D n d] _ rfl (fun _ h => h.2) Tryz.underlying57 rfl (by kernel_rfl)) hHeld ?_
     try simp only [List.setIfInBounds_toArray, List.set_cons_zero, List.set_cons_succ]
     refine wpAnyH_ready (rs := [5]) (by kernel_rfl) (by simp) ?_
     refine AllReadyH.cons rfl (fun K hK => ?_) AllReadyH.nil
     go_simp
     go_at_call 28
     refine (HFH.out _ (HRa.out.below HC.out) (HRN.out.below HC.out)).mono ?_
     rintro e u9 ⟨F9, f9, rfl, hl9, hb1⟩
     have HL9 := Lib.hid hl9
     replace HC := Lib.hid (bel_trans HC.out hb1)
     clear hb1 hl9
     refine hK.out _ _ (by with_reducible exact ⟨HKm.out.bel HC.out, HKx.out.bel HC.out⟩) (fun hHeld => ?_)
     clear hK K
     refine wpAnyH_ready (rs := [7]) (by kernel_rfl) (by simp) ?_
     refine AllReadyH.cons rfl (fun K hK => ?_) AllReadyH.nil
     go_simp
     go_at_call 74
     have hsm := same_item y x F9 D f9 d _ _ (HL9.out.more (S' := fun b => b < _) fun b _ h => h) (HLM.out _ HC.out) (fun b hb => hb) HWT.out
     rw [HS.out, HXN.out] at hsm
     refine hsm.mono ?_
     rintro e u9 ⟨rfl, hb1⟩
     replace HC := Lib.hid (bel_trans HC.out hb1)
     clear hb1 hsm HL9
     refine hK.out _ _ (by with_reducible exact ⟨HKm.out.bel HC.out, HKx.out.bel HC.out⟩) (fun hHeld => ?_)
     clear hK K
     refine held_take (i := 8) (d := 27) (v := (.bool true)) rfl rfl (by kernel_rfl) (by kernel_rfl) (by kernel_rfl) (fun _ _ _ h => h) (by kernel_rfl) (fun w hSw => by (obtain hS := hSw); go_simp) hHeld ?_
     try simp only [List.setIfInBounds_toArray, List.set_cons_zero, List.set_cons_succ]
     refine held_take (i := 9) (d := 28) (v := (.bool true)) rfl rfl (by kernel_rfl) (by kernel_rfl) (by kernel_rfl) (fun _ _ _ h => h) (by kernel_rfl) (fun w hSw => by (obtain hS := hSw); go_simp) hHeld ?_
     try simp only [List.setIfInBounds_toArray, List.set_cons_zero, List.set_cons_succ]
     refine wpAnyH_done (by kernel_rfl) ?_ _
     skip
     have HZN := Lib.hid (HZM.out.bel HC.out)
     have HBN := Lib.hid (HBW.out.trans (HC.out.mono HBW.out.size))
     go_wp2_with (first | fail | ((with_reducible refine wpList_store_blk rfl 32 _ _ rfl w.heap.size 32 #[.int .i64 0, .int .i64 0, .int .i64 0, .int .i64 0, .int .i64 0, .int .i64 0, .int .i64 0, .int .i64 0, .int .i64 0, .int .i64 0, .int .i64 0, .string ⟨#[]⟩, .string ⟨#[]⟩, .int .i64 0, .slice none 0 0, .int .i64 0, .int .i64 0, .int .i64 0] #[.int .i64 0, .int .i64 0, .int .i64 0, .int .i64 0, .int .i64 0, .int .i64 0, .int .i64 0, .int .i64 0, .int .i64 0, .int .i64 0, .int .i64 0, .string ⟨#[]⟩, .string ⟨#[]⟩, .int .i64 0, .slice none 0 0, .int .i64 0, .int .i64 0, .int .i64 0] ?_ ?_ HZN.out ?_ ?_ ?_ ?_); (focus rfl); (focus rfl); (focus kernel_rfl); (focus rfl); (focus kernel_rfl); intro w9 hblk2 hgr))
     refine bodyPost_ret (v := .tuple #[.agg #[.int .i64 0, .int .i64 0, .int .i64 0, .int .i64 0, .int .i64 0, .int .i64 0, .int .i64 0, .int .i64 0, .int .i64 0, .int .i64 0, .int .i64 0, .string ⟨#[]⟩, .string ⟨#[]⟩, .int .i64 0, .slice none 0 0, .int .i64 0, .int .i64 0, .int .i64 0], .int .i64 4]) (results_blk_tmp Tryz.results31 _ _ w.heap.size 32 _ _ _ rfl rfl hblk2 Tryz.underlying32 rfl (by kernel_rfl)) rfl ?_
     have hTT := HT.out
     simp only [Bool.true_and, Bool.false_eq_true, if_false] at hTT
     rw [HTE.out, ← hTT]
     exact ⟨none, 0, 0, rfl, Rs.nil_ _, (fun _ _ e => by cases e), HBN.out.trans (gr_below hgr HBN.out.size fun b hb => by injection hb with hb; omega)⟩
   | true =>
     refine wp_region_held_drew (S := (fun w' => Blk w' p 32 #[.int .i64 aM, .int .i64 aR, .int .i64 aN, .int .i64 aB, .int .i64 aC, .int .i64 aT, .int .i64 aU, .int .i64 aS, .int .i64 aK, .int .i64 aL, .int .i64 aQ, .string aY, .string aV, .int .i64 aZ, .slice aA an ac, .int .i64 aE, .int .i64 aG, .int .i64 aW] ∧ Blk w' g 57 #[.int .i64 x.kind, .int .u64 (x.num : Int), .string x.str, .slice D n d])) (by kernel_rfl) (by with_reducible exact ⟨HKm.out.bel HC.out, HKx.out.bel HC.out⟩) (fun hHeld => ?_)
     refine held_take (i := 0) (d := 19) (v := (.agg #[.int .i64 aM, .int .i64 aR, .int .i64 aN, .int .i64 aB, .int .i64 aC, .int .i64 aT, .int .i64 aU, .int .i64 aS, .int .i64 aK, .int .i64 aL, .int .i64 aQ, .string aY, .string aV, .int .i64 aZ, .slice aA an ac, .int .i64 aE, .int .i64 aG, .int .i64 aW])) rfl rfl (by kernel_rfl) (by kernel_rfl) (by kernel_rfl) (fun _ _ _ h => h) (by kernel_rfl) (run_load_blk 32 (.tmp 6) rfl p 32 #[.int .i64 aM, .int .i64 aR, .int .i64 aN, .int .i64 aB, .int .i64 aC, .int .i64 aT, .int .i64 aU, .int .i64 aS, .int .i64 aK, .int .i64 aL, .int .i64 aQ, .string aY, .string aV, .int .i64 aZ, .slice aA an ac, .int .i64 aE, .int .i64 aG, .int .i64 aW] _ rfl (fun _ h => h.1) Tryz.underlying32 rfl (by kernel_rfl)) hHeld ?_
     try simp only [List.setIfInBounds_toArray, List.set_cons_zero, List.set_cons_succ]
     refine wpAnyH_ready (rs := [1]) (by kernel_rfl) (by simp) ?_
     refine AllReadyH.cons rfl (fun K hK => ?_) AllReadyH.nil
     go_simp
     go_at_call 19
     refine (HCH.out _ (HRa.out.below HC.out) (HRN.out.below HC.out)).mono ?_
     rintro e u9 ⟨rfl, hb1⟩
     replace HC := Lib.hid (bel_trans HC.out hb1)
     clear hb1
     refine hK.out _ _ (by with_reducible exact ⟨HKm.out.bel HC.out, HKx.out.bel HC.out⟩) (fun hHeld => ?_)
     clear hK K
     refine held_take (i := 2) (d := 21) (v := (.bool false)) rfl rfl (by kernel_rfl) (by kernel_rfl) (by kernel_rfl) (fun _ _ _ h => h) (by kernel_rfl) (fun w hSw => by (obtain hS := hSw); go_simp) hHeld ?_
     try simp only [List.setIfInBounds_toArray, List.set_cons_zero, List.set_cons_succ]
     refine held_take (i := 3) (d := 22) (v := (.bool false)) rfl rfl (by kernel_rfl) (by kernel_rfl) (by kernel_rfl) (fun _ _ _ h => h) (by kernel_rfl) (fun w hSw => by (obtain hS := hSw); go_simp) hHeld ?_
     try simp only [List.setIfInBounds_toArray, List.set_cons_zero, List.set_cons_succ]
     refine held_take (i := 4) (d := 23) (v := (.agg #[.int .i64 aM, .int .i64 aR, .int .i64 aN, .int .i64 aB, .int .i64 aC, .int .i64 aT, .int .i64 aU, .int .i64 aS, .int .i64 aK, .int .i64 aL, .int .i64 aQ, .string aY, .string aV, .int .i64 aZ, .slice aA an ac, .int .i64 aE, .int .i64 aG, .int .i64 aW])) rfl rfl (by kernel_rfl) (by kernel_rfl) (by kernel_rfl) (fun _ _ _ h => h) (by kernel_rfl) (run_load_blk 32 (.tmp 6) rfl p 32 #[.int .i64 aM, .int .i64 aR, .int .i64 aN, .int .i64 aB, .int .i64 aC, .int .i64 aT, .int .i64 aU, .int .i64 aS, .int .i64 aK, .int .i64 aL, .int .i64 aQ, .string aY, .string aV, .int .i64 aZ, .slice aA an ac, .int .i64 aE, .int .i64 aG, .int .i64 aW] _ rfl (fun _ h => h.1) Tryz.underlying32 rfl (by kernel_rfl)) hHeld ?_
     try simp only [List.setIfInBounds_toArray, List.set_cons_zero, List.set_cons_succ]
     refine held_take (i := 6) (d := 25) (v := (.agg #[.int .i64 x.kind, .int .u64 (x.num : Int), .string x.str, .slice D n d])) rfl rfl (by kernel_rfl) (by kernel_rfl) (by kernel_rfl) (fun _ _ _ h => h) (by kernel_rfl) (run_load_blk 57 (.tmp 4) rfl g 57 #[.int .i64 x.kind, .int .u64 (x.num : Int), .string x.str, .slice D n d] _ rfl (fun _ h => h.2) Tryz.underlying57 rfl (by kernel_rfl)) hHeld ?_
     try simp only [List.setIfInBounds_toArray, List.set_cons_zero, List.set_cons_succ]
     refine wpAnyH_ready (rs := [5]) (by kernel_rfl) (by simp) ?_
     refine AllReadyH.cons rfl (fun K hK => ?_) AllReadyH.nil
     go_simp
     go_at_call 28
     refine (HFH.out _ (HRa.out.below HC.out) (HRN.out.below HC.out)).mono ?_
     rintro e u9 ⟨F9, f9, rfl, hl9, hb1⟩
     have HL9 := Lib.hid hl9
     replace HC := Lib.hid (bel_trans HC.out hb1)
     clear hb1 hl9
     refine hK.out _ _ (by with_reducible exact ⟨HKm.out.bel HC.out, HKx.out.bel HC.out⟩) (fun hHeld => ?_)
     clear hK K
     refine wpAnyH_ready (rs := [7]) (by kernel_rfl) (by simp) ?_
     refine AllReadyH.cons rfl (fun K hK => ?_) AllReadyH.nil
     go_simp
     go_at_call 74
     have hsm := same_item y x F9 D f9 d _ _ (HL9.out.more (S' := fun b => b < _) fun b _ h => h) (HLM.out _ HC.out) (fun b hb => hb) HWT.out
     rw [HS.out, HXN.out] at hsm
     refine hsm.mono ?_
     rintro e u9 ⟨rfl, hb1⟩
     replace HC := Lib.hid (bel_trans HC.out hb1)
     clear hb1 hsm HL9
     refine hK.out _ _ (by with_reducible exact ⟨HKm.out.bel HC.out, HKx.out.bel HC.out⟩) (fun hHeld => ?_)
     clear hK K
     refine held_take (i := 8) (d := 27) (v := (.bool false)) rfl rfl (by kernel_rfl) (by kernel_rfl) (by kernel_rfl) (fun _ _ _ h => h) (by kernel_rfl) (fun w hSw => by (obtain hS := hSw); go_simp) hHeld ?_
     try simp only [List.setIfInBounds_toArray, List.set_cons_zero, List.set_cons_succ]
     refine held_take (i := 9) (d := 28) (v := (.bool false)) rfl rfl (by kernel_rfl) (by kernel_rfl) (by kernel_rfl) (fun _ _ _ h => h) (by kernel_rfl) (fun w hSw => by (obtain hS := hSw); go_simp) hHeld ?_
     try simp only [List.setIfInBounds_toArray, List.set_cons_zero, List.set_cons_succ]
     refine wpAnyH_done (by kernel_rfl) ?_ _
     skip
     have HZN := Lib.hid (HZM.out.bel HC.out)
     have HBN := Lib.hid (HBW.out.trans (HC.out.mono HBW.out.size))
     have HKN := Lib.hid (HKm.out.bel HC.out)
     go_wp2_with (first | (with_reducible refine wpList_load_blk_w 32 _ rfl p 32 _ _ ?_ ?_ HKN.out Tryz.underlying32 ?_ ?_ ?_; (focus kernel_rfl); (focus kernel_rfl); (focus rfl); (focus kernel_rfl)) | ((with_reducible refine wpList_store_blk rfl 32 _ _ rfl w.heap.size 32 #[.int .i64 0, .int .i64 0, .int .i64 0, .int .i64 0, .int .i64 0, .int .i64 0, .int .i64 0, .int .i64 0, .int .i64 0, .int .i64 0, .int .i64 0, .string ⟨#[]⟩, .string ⟨#[]⟩, .int .i64 0, .slice none 0 0, .int .i64 0, .int .i64 0, .int .i64 0] #[.int .i64 aM, .int .i64 aR, .int .i64 aN, .int .i64 aB, .int .i64 aC, .int .i64 aT, .int .i64 aU, .int .i64 aS, .int .i64 aK, .int .i64 aL, .int .i64 aQ, .string aY, .string aV, .int .i64 aZ, .slice aA an ac, .int .i64 aE, .int .i64 aG, .int .i64 aW] ?_ ?_ HZN.out ?_ ?_ ?_ ?_); (focus rfl); (focus rfl); (focus kernel_rfl); (focus rfl); (focus kernel_rfl); intro w9 hblk2 hgr))
     refine bodyPost_ret (v := .tuple #[.agg #[.int .i64 aM, .int .i64 aR, .int .i64 aN, .int .i64 aB, .int .i64 aC, .int .i64 aT, .int .i64 aU, .int .i64 aS, .int .i64 aK, .int .i64 aL, .int .i64 aQ, .string aY, .string aV, .int .i64 aZ, .slice aA an ac, .int .i64 aE, .int .i64 aG, .int .i64 aW], .int .i64 0]) (results_blk_tmp Tryz.results31 _ _ w.heap.size 32 _ _ _ rfl rfl hblk2 Tryz.underlying32 rfl (by kernel_rfl)) rfl ?_
     have hTT := HT.out
     simp only [Bool.and_self, if_true] at hTT
     rw [HTE.out, ← hTT]
     have hlt := HZ.out.lt
     have hus := HBU.out.size
     refine ⟨aA, an, ac, rfl, (HRa.out.below HC.out).grown hgr (fun g o e h => by injection h with h; have := HNW.out g o e; omega), (fun g o e => by have := HNW.out g o e; omega), HBN.out.trans (gr_below hgr HBN.out.size fun b hb => by injection hb with hb; omega)⟩
end Go.Proofs.YthlhchaoedcdbaaGreatDoor.Mg
