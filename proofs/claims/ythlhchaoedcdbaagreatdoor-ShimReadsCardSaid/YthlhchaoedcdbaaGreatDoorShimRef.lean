/-
  Texts of earlier layers, as one.
-/
import Derived.Test.YthlhchaoedcdbaaGreatDoorMsgRefTake
/- Messages in the old form, plainly: what goes down, what comes up, and that what goes down comes up as it was; plain mathematics, of no program. -/
namespace Go.Proofs.YthlhchaoedcdbaaGreatDoor.Mg
open Lib (hid)
open Cod Rk
def oldMg (m : Mg) : It := laidMg m (Att.oldIt m.at_)
def noOld (m : Mg) : Bool := decide (m.at_.tg = 2) || decide (m.cm.kd = 6)
noncomputable def refDown (m : Mg) : List Nat × Nat := if mright m = true then (if noOld m = true then ([], 17) else (frame 1 (form (oldMg m)), 0)) else ([], 4)
noncomputable def refUp (r : It × Nat) : Mg × Nat :=
 if r.2 = 0 then (if (mright (readMg Att.oldTake r.1) && (!decide ((readMg Att.oldTake r.1).cm.kd = 6) && same r.1 (oldMg (readMg Att.oldTake r.1)))) = true then (readMg Att.oldTake r.1, 0) else (zeroMg, 4)) else (zeroMg, r.2)
noncomputable def refReads (v : Int) (b : List Nat) : Mg × Nat :=
 if v = 1 ∨ v = 2 then (if v = 1 ∨ b.getD 0 0 = 1 then refUp (openX 1 b) else refTake (openX 2 b)) else (zeroMg, 1)
theorem chk_old (m : Mg) : chk (oldMg m) 0 = 0 := chk_laid m (chk_oldAtt _ (by omega))
theorem right_att {m : Mg} (h : mright m = true) (e : hAt m = true) : Att.achk m.at_ = 0 := ((mright_parts h).2.2.2.2.2.2.2.2.2.2.1 e).1
theorem wt_old {m : Mg} (h : mright m = true) : wt (oldMg m) ≤ 60000 := wt_laid h fun e => (wt_att (right_att h e)).2
theorem tag_one {m : Mg} (h : mright m = true) (hn : noOld m = false) (e : hAt m = true) : m.at_.tg = 1 := by
 have h1 := Att.achk_sq (right_att h e);unfold noOld at hn;have h2 := of_decide_eq_false (Bool.or_eq_false_iff.1 hn).1;omega
theorem old_back {m : Mg} (h : mright m = true) (hn : noOld m = false) : readMg Att.oldTake (oldMg m) = m :=
 read_laid h _ _ fun e => Att.old_put (right_att h e) (tag_one h hn e)
theorem front_att (x : It) (kd : Int) : (readFront x kd).1.at_ = Att.zeroAt := by
 unfold readFront;simp only
 (repeat' split) <;> rfl
theorem old_tag {y : It} : ((Att.oldTake y).getD Att.zeroAt).tg ≠ 2 := by
 cases h : Att.oldTake y with
 | none => decide
 | some a =>
   have e : a.tg = 1 := by
    unfold Att.oldTake at h;split at h
    · split at h
      · unfold Att.takenOf at h
        split at h
        · injection h with h
          rw [← h]
        · cases h
      · cases h
    · cases h
   rw [Option.getD_some, e];decide
theorem read_tag (x : It) : (readMg Att.oldTake x).at_.tg ≠ 2 := by
 have hf := front_att x (Cmd.cap (atOf x 0).num);unfold readMg readRest;simp only;generalize readFront x (Cmd.cap (atOf x 0).num) = r at hf ⊢;have h0 : r.1.at_.tg ≠ 2 := by rw [hf]; decide
 (repeat' split) <;> first | exact old_tag | exact h0
theorem noOld_read (x : It) : noOld (readMg Att.oldTake x) = decide ((readMg Att.oldTake x).cm.kd = 6) := by
 unfold noOld;rw [decide_eq_false (read_tag x), Bool.false_or]
theorem refUp_zero (x : It) : refUp (x, 0) = if (mright (readMg Att.oldTake x) && (!decide ((readMg Att.oldTake x).cm.kd = 6) && same x (oldMg (readMg Att.oldTake x)))) = true then (readMg Att.oldTake x, 0) else (zeroMg, 4) := by
 unfold refUp;rw [if_pos rfl]
theorem refUp_bad (x : It) {e : Nat} (h : ¬ e = 0) : refUp (x, e) = (zeroMg, e) := by
 unfold refUp;rw [if_neg h]
theorem refUp_iff {x : It} {m : Mg} : refUp (x, 0) = (m, 0) ↔ mright m = true ∧ noOld m = false ∧ oldMg m = x := by
 rw [refUp_zero, ← noOld_read];constructor
 · intro h
   split at h
   · rename_i hc
     injection h with h _;rw [h, Bool.and_eq_true, Bool.and_eq_true, Bool.not_eq_true'] at hc;exact ⟨hc.1, hc.2.1, ((same_iff _ _).1 hc.2.2).symm⟩
   · injection h with _ h
     cases h
 · rintro ⟨h, hn, rfl⟩
   rw [old_back h hn, if_pos (by rw [h, hn, (same_iff _ _).2 rfl]; rfl)]
theorem refUp_no {x : It} (h : ∀ m, mright m = true → noOld m = false → oldMg m ≠ x) : refUp (x, 0) = (zeroMg, 4) := by
 rw [refUp_zero, ← noOld_read, if_neg];intro hc;rw [Bool.and_eq_true, Bool.and_eq_true, Bool.not_eq_true'] at hc;exact h _ hc.1 hc.2.1 ((same_iff _ _).1 hc.2.2).symm
theorem up_down {m : Mg} (h : mright m = true) (hn : noOld m = false) (fx : Fit (oldMg m)) : refUp (openX 1 (frame 1 (form (oldMg m)))) = (m, 0) := by
 have h1 := length_form_le (oldMg m) fx;have h2 := wt_old h;rw [open_item 1 (chk_old m) fx (by omega)];exact refUp_iff.2 ⟨h, hn, rfl⟩
theorem open_short (v : Nat) {b : List Nat} (h : b.length < 5) : openX v b = (Cmd.zeroIt, 2) := by
 unfold openX;rw [if_pos h]
end Go.Proofs.YthlhchaoedcdbaaGreatDoor.Mg
/- The document's Down: the old form of a message. -/
namespace Go.Proofs.YthlhchaoedcdbaaGreatDoor.Mg
open Lib (hid)
open Go.RowKit Mem Ids Att Rk Cod
def DownIs (m : Mg) (w : World) (e : Ending) (w' : World) : Prop :=
 ∃ A n c, e = .returned (.tuple #[.slice A n c, .int .i64 ((refDown m).2 : Int)]) ∧ Rd w' A n c (cs (refDown m).1) ∧ Below w.heap.size w w' ∧ ((refDown m).2 = 0 → Fit (oldMg m))
theorem down_no {m : Mg} (h : mright m = false) : refDown m = ([], 4) := if_neg (by simp [h])
theorem down_none {m : Mg} (h : mright m = true) (hn : noOld m = true) : refDown m = ([], 17) := by
 unfold refDown;rw [if_pos h, if_pos hn]
theorem down_yes {m : Mg} (h : mright m = true) (hn : noOld m = false) : refDown m = (frame 1 (form (oldMg m)), 0) := by
 unfold refDown;rw [if_pos h, if_neg (by simp [hn])]
end Go.Proofs.YthlhchaoedcdbaaGreatDoor.Mg
/- The document's Up: the message whose old form bytes are. -/
namespace Go.Proofs.YthlhchaoedcdbaaGreatDoor.Mg
open Lib (hid)
open Go.RowKit Mem Ids Att Rk Cod
theorem read_key_old {x : It} {N : Nat} (h : ∀ i, (Cmd.kid (atOf x i) 3).str.size ≤ N) : (readMg oldTake x).cm.ky.size ≤ N := by
 have hf := front_cm x (Cmd.cap (atOf x 0).num);unfold readMg readRest;simp only;generalize readFront x (Cmd.cap (atOf x 0).num) = r at hf ⊢;have h0 : r.1.cm.ky.size ≤ N := by rw [hf]; exact Nat.zero_le _
 have h1 := Nat.le_trans (take_key (atOf x r.2)) (h r.2)
 (repeat' split) <;> first | exact h1 | exact h0
set_option maxRecDepth 100000 in
set_option maxHeartbeats 8000000 in
theorem refup_new (b : List Nat) (A : Option Addr) (m c : Nat) (w : World) (hr : Rd w A m c (cs b)) (hb : ∀ x ∈ b, x < 256) (hm : m ≤ 1000000) :
 Calls Tryz.prog 14 #[.slice A m c] w (TakesNw w (refUp (openX 1 b))) := by
 have hz0 := Blk.new w 32 #[.int .i64 0, .int .i64 0, .int .i64 0, .int .i64 0, .int .i64 0, .int .i64 0, .int .i64 0, .int .i64 0, .int .i64 0, .int .i64 0, .int .i64 0, .string ⟨#[]⟩, .string ⟨#[]⟩, .int .i64 0, .slice none 0 0, .int .i64 0, .int .i64 0, .int .i64 0];have hbz := bel_alloc (Below.refl w.heap.size w) (.cells #[.int .i64 0, .int .i64 0, .int .i64 0, .int .i64 0, .int .i64 0, .int .i64 0, .int .i64 0, .int .i64 0, .int .i64 0, .int .i64 0, .int .i64 0, .string ⟨#[]⟩, .string ⟨#[]⟩, .int .i64 0, .slice none 0 0, .int .i64 0, .int .i64 0, .int .i64 0] 32);have hop := fun (W : World) (h : Below w.heap.size w W) => refopen_any 1 b A m c W (by decide) (hr.below h) hb hm;obtain ⟨W, hW⟩ : ∃ W, w.alloc (.cells #[.int .i64 0, .int .i64 0, .int .i64 0, .int .i64 0, .int .i64 0, .int .i64 0, .int .i64 0, .int .i64 0, .int .i64 0, .int .i64 0, .int .i64 0, .string ⟨#[]⟩, .string ⟨#[]⟩, .int .i64 0, .slice none 0 0, .int .i64 0, .int .i64 0, .int .i64 0] 32) = W := ⟨_, rfl⟩
 rw [hW] at hz0 hbz;have HOP := hid (hop W hbz);have HZ := hid hz0;have HB := hid hbz;have HW := hid hW;have hlb : b.length ≤ 1000000 := by have h := hr.len; rw [length_cs] at h; omega
 have hbb := hb;clear hz0 hbz hW hop hr hb;obtain ⟨⟨x, e0⟩, hx⟩ : ∃ r, openX 1 b = r := ⟨_, rfl⟩
 rw [hx] at HOP ⊢;have hwx := open_small hbb hlb (by decide) hx;have HWX := hid hwx;clear hx hwx hbb hlb;go_enter Tryz.func14, Tryz.ntmps14
 go_upto_region 1 with fail
 rw [HW.out];go_wp2_with fail
 refine HOP.out.mono ?_;rintro e u ⟨D, d, rfl, hl, hb1⟩;simp only;obtain ⟨n, hn⟩ : ∃ n, x.kids.length = n := ⟨_, rfl⟩
 have hxb := hl.bounds;have hrow := (hl.more (S' := fun b => b < u.heap.size) (fun b _ h => h)).alloc (.cells #[.int .i64 x.kind, .int .u64 (x.num : Int), .string x.str, .slice D x.kids.length d] 57);rw [hn] at hxb hrow ⊢;have hbu := bel_alloc hb1 (.cells #[.int .i64 x.kind, .int .u64 (x.num : Int), .string x.str, .slice D n d] 57);have hkx := Blk.new u 57 #[.int .i64 x.kind, .int .u64 (x.num : Int), .string x.str, .slice D n d];obtain ⟨g, hg⟩ : ∃ g, u.heap.size = g := ⟨_, rfl⟩
 obtain ⟨U, hU⟩ : ∃ U, u.alloc (.cells #[.int .i64 x.kind, .int .u64 (x.num : Int), .string x.str, .slice D n d] 57) = U := ⟨_, rfl⟩
 rw [hU] at hrow hbu hkx;rw [hg] at hrow hkx;have HLX := hid hrow;have HBU := hid hbu;have HKX := hid hkx;have HG := hid hg;have HU := hid hU;have HXN := hid hn;have HXB := hid hxb;clear hrow hbu hkx hg hU hn hxb hb1 hl;go_upto_region 2 with fail
 rw [HU.out, HG.out];by_cases he : e0 = 0
 case neg =>
  have b1 : ((e0 : Int) != 0) = true := bne_iff_ne.2 (by omega);have HZU := hid (HZ.out.bel HBU.out);have HBW := hid (HB.out.trans (HBU.out.mono HB.out.size));go_wp2_with (first | fail | ((with_reducible refine wpList_store_blk rfl 32 _ _ rfl w.heap.size 32 _ #[.int .i64 0, .int .i64 0, .int .i64 0, .int .i64 0, .int .i64 0, .int .i64 0, .int .i64 0, .int .i64 0, .int .i64 0, .int .i64 0, .int .i64 0, .string ⟨#[]⟩, .string ⟨#[]⟩, .int .i64 0, .slice none 0 0, .int .i64 0, .int .i64 0, .int .i64 0] ?_ ?_ HZU.out ?_ ?_ ?_ ?_); (focus rfl); (focus rfl); (focus kernel_rfl); (focus rfl); (focus kernel_rfl); intro w9 hblk2 hgr))
  refine bodyPost_ret (v := .tuple #[.agg _, .int .i64 (e0 : Int)]) (results_blk_tmp Tryz.results14 _ _ w.heap.size 32 _ _ _ rfl rfl hblk2 Tryz.underlying32 rfl (by kernel_rfl)) rfl ?_;rw [refUp_bad x he];exact ⟨none, 0, 0, rfl, Rs.nil_ _, (fun _ _ e => by cases e), HBW.out.trans (gr_below hgr HBW.out.size fun b hb => by injection hb with hb; omega)⟩
 subst he;obtain ⟨x0, x1, x2, x3⟩ := blk4 HKX.out;obtain ⟨T, hT⟩ : ∃ T, refUp (x, 0) = T := ⟨_, rfl⟩
 have HTE := hid hT;rw [refUp_zero] at hT;have hlow : ∀ b, b < g → b < U.heap.size := fun b hb => by have := HKX.out.lt; omega
 have hrd := refreadold_any x D d (fun b => b < g) U (HLX.out) hlow (fun i => Nat.le_trans (at_small HWX.out i) (by decide));rw [HXN.out] at hrd;have hky := read_key_old (x := x) (N := 1073741824) (fun i => Nat.le_trans (at_small HWX.out i) (by decide));generalize hq : readMg oldTake x = q at hT hrd hky;clear hq;obtain ⟨aM, ⟨aR, aN⟩, ⟨aB, aC⟩, ⟨aT, aU⟩, aS, ⟨aK, aL, aQ, aY, aV, aZ⟩, ⟨al, aE, aG⟩, aW⟩ := q;have HRD := hid hrd;have HT := hid hT;clear hT hrd hlow;go_wp2_with fail
 refine HRD.out.mono ?_;rintro e u2 ⟨aA, an, ac, rfl, hrs, hnew, hb2⟩;simp only at hrs ⊢;have hbm := bel_alloc hb2 (.cells #[.int .i64 aM, .int .i64 aR, .int .i64 aN, .int .i64 aB, .int .i64 aC, .int .i64 aT, .int .i64 aU, .int .i64 aS, .int .i64 aK, .int .i64 aL, .int .i64 aQ, .string aY, .string aV, .int .i64 aZ, .slice aA an ac, .int .i64 aE, .int .i64 aG, .int .i64 aW] 32);have hkm := Blk.new u2 32 #[.int .i64 aM, .int .i64 aR, .int .i64 aN, .int .i64 aB, .int .i64 aC, .int .i64 aT, .int .i64 aU, .int .i64 aS, .int .i64 aK, .int .i64 aL, .int .i64 aQ, .string aY, .string aV, .int .i64 aZ, .slice aA an ac, .int .i64 aE, .int .i64 aG, .int .i64 aW];have hrm := hrs.alloc (.cells #[.int .i64 aM, .int .i64 aR, .int .i64 aN, .int .i64 aB, .int .i64 aC, .int .i64 aT, .int .i64 aU, .int .i64 aS, .int .i64 aK, .int .i64 aL, .int .i64 aQ, .string aY, .string aV, .int .i64 aZ, .slice aA an ac, .int .i64 aE, .int .i64 aG, .int .i64 aW] 32);obtain ⟨p, hp⟩ : ∃ p, u2.heap.size = p := ⟨_, rfl⟩
 obtain ⟨M, hM⟩ : ∃ M, u2.alloc (.cells #[.int .i64 aM, .int .i64 aR, .int .i64 aN, .int .i64 aB, .int .i64 aC, .int .i64 aT, .int .i64 aU, .int .i64 aS, .int .i64 aK, .int .i64 aL, .int .i64 aQ, .string aY, .string aV, .int .i64 aZ, .slice aA an ac, .int .i64 aE, .int .i64 aG, .int .i64 aW] 32) = M := ⟨_, rfl⟩
 rw [hM] at hbm hkm hrm;rw [hp] at hkm;have HKm := hid hkm;have HRa := hid hrm;have HBM := hid hbm;have HP := hid hp;have HMM := hid hM;have HNW := hid hnew;clear hbm hkm hrm hp hM hb2 hrs hnew x0 x1 x2 x3 HRD;go_upto_region 5 with fail
 rw [HMM.out, HP.out];have HKx := hid (HKX.out.bel HBM.out);have HC := hid (Below.drew (Below.refl M.heap.size M));have HZM := hid (HZ.out.bel (bel_trans HBU.out HBM.out));have HBW := hid (HB.out.trans ((bel_trans HBU.out HBM.out).mono HB.out.size));have HLM := hid (fun (v : World) (h : Below M.heap.size M v) => show Lies v (fun b => b < v.heap.size) x D d from ((HLX.out.below HBM.out (fun b hb => by have := HKX.out.lt; omega)).below h (fun b hb => by have := HKX.out.lt; have := HBM.out.size; omega)).more fun b _ h => h);have HCK := fun (w : World) (h : Rs w aA an ac al) => refmright_any aM aR aN aB aC aT aU aS aK aL aQ aY aV aZ aA an ac aE aG aW al w h hky;have HFM := fun (w : World) (h : Rs w aA an ac al) hr => refmitemold_any aM aR aN aB aC aT aU aS aK aL aQ aY aV aZ aA an ac aE aG aW al w h hr;have hwt := fun (h : mright ⟨aM, (aR, aN), (aB, aC), (aT, aU), aS, ⟨aK, aL, aQ, aY, aV, aZ⟩, ⟨al, aE, aG⟩, aW⟩ = true) => wt_old h;clear hky;have hoy : oldMg ⟨aM, (aR, aN), (aB, aC), (aT, aU), aS, ⟨aK, aL, aQ, aY, aV, aZ⟩, ⟨al, aE, aG⟩, aW⟩ = laidMg ⟨aM, (aR, aN), (aB, aC), (aT, aU), aS, ⟨aK, aL, aQ, aY, aV, aZ⟩, ⟨al, aE, aG⟩, aW⟩ (oldIt ⟨al, aE, aG⟩) := rfl;rw [hoy] at HT hwt;clear hoy;generalize hy : laidMg ⟨aM, (aR, aN), (aB, aC), (aT, aU), aS, ⟨aK, aL, aQ, aY, aV, aZ⟩, ⟨al, aE, aG⟩, aW⟩ (oldIt ⟨al, aE, aG⟩) = y at HT HFM hwt;clear hy;generalize mright ⟨aM, (aR, aN), (aB, aC), (aT, aU), aS, ⟨aK, aL, aQ, aY, aV, aZ⟩, ⟨al, aE, aG⟩, aW⟩ = tr at HT HCK HFM hwt;generalize hs : same x y = s at HT;have HS := hid hs;clear hs;have q6 : (aK == 6) = decide (aK = 6) := rfl;generalize decide (aK = 6) = k6 at HT q6;cases tr with
 | false =>
   have HCH := hid HCK;clear HCK HFM hwt;refine wp_region_held_drew (S := (fun w' => Blk w' p 32 #[.int .i64 aM, .int .i64 aR, .int .i64 aN, .int .i64 aB, .int .i64 aC, .int .i64 aT, .int .i64 aU, .int .i64 aS, .int .i64 aK, .int .i64 aL, .int .i64 aQ, .string aY, .string aV, .int .i64 aZ, .slice aA an ac, .int .i64 aE, .int .i64 aG, .int .i64 aW] ∧ Blk w' g 57 #[.int .i64 x.kind, .int .u64 (x.num : Int), .string x.str, .slice D n d])) (by kernel_rfl) (by with_reducible exact ⟨HKm.out.bel HC.out, HKx.out.bel HC.out⟩) (fun hHeld => ?_);refine hs_take 0 18 (.agg #[.int .i64 aM, .int .i64 aR, .int .i64 aN, .int .i64 aB, .int .i64 aC, .int .i64 aT, .int .i64 aU, .int .i64 aS, .int .i64 aK, .int .i64 aL, .int .i64 aQ, .string aY, .string aV, .int .i64 aZ, .slice aA an ac, .int .i64 aE, .int .i64 aG, .int .i64 aW]) rfl rfl (by kernel_rfl) (fun _ _ _ h => h) (run_load_blk 32 (.tmp 6) rfl p 32 #[.int .i64 aM, .int .i64 aR, .int .i64 aN, .int .i64 aB, .int .i64 aC, .int .i64 aT, .int .i64 aU, .int .i64 aS, .int .i64 aK, .int .i64 aL, .int .i64 aQ, .string aY, .string aV, .int .i64 aZ, .slice aA an ac, .int .i64 aE, .int .i64 aG, .int .i64 aW] _ rfl (fun _ h => h.1) Tryz.underlying32 rfl (by kernel_rfl)) hHeld ?_;try simp only [n0, n1, n2]
   refine wpAnyH_ready (rs := [1]) (by kernel_rfl) (by simp) ?_;refine AllReadyH.cons rfl (fun K hK => ?_) AllReadyH.nil;go_simp;go_at_call 25
   refine (HCH.out _ (HRa.out.below HC.out)).mono ?_;rintro e u9 ⟨rfl, hb1⟩;replace HC := hid (bel_trans HC.out hb1);clear hb1;refine hK.out _ _ (by with_reducible exact ⟨HKm.out.bel HC.out, HKx.out.bel HC.out⟩) (fun hHeld => ?_);clear hK K;refine hs_take 2 20 (.bool true) rfl rfl (by kernel_rfl) (fun _ _ _ h => h) (fun w hS => by go_simp) hHeld ?_;try simp only [n0, n1, n2]
   refine hs_take 3 21 (.bool true) rfl rfl (by kernel_rfl) (fun _ _ _ h => h) (fun w hS => by go_simp) hHeld ?_;try simp only [n0, n1, n2]
   refine held_skip (i := 4) (d := 22) rfl rfl (by kernel_rfl) (by kernel_rfl) (by kernel_rfl) (fun _ _ _ h => h) (by kernel_rfl) hHeld ?_;try simp only [n0, n1, n2]
   refine held_skip (i := 5) (d := 23) rfl rfl (by kernel_rfl) (by kernel_rfl) (by kernel_rfl) (fun _ _ _ h => h) (by kernel_rfl) hHeld ?_;try simp only [n0, n1, n2]
   refine held_skip (i := 6) (d := 24) rfl rfl (by kernel_rfl) (by kernel_rfl) (by kernel_rfl) (fun _ _ _ h => h) (by kernel_rfl) hHeld ?_;try simp only [n0, n1, n2]
   refine held_skip (i := 7) (d := 25) rfl rfl (by kernel_rfl) (by kernel_rfl) (by kernel_rfl) (fun _ _ _ h => h) (by kernel_rfl) hHeld ?_;try simp only [n0, n1, n2]
   refine hs_take 8 26 (.bool true) rfl rfl (by kernel_rfl) (fun _ _ _ h => h) (fun w hS => by go_simp) hHeld ?_;try simp only [n0, n1, n2]
   refine hs_take 9 27 (.bool true) rfl rfl (by kernel_rfl) (fun _ _ _ h => h) (fun w hS => by go_simp) hHeld ?_;try simp only [n0, n1, n2]
   refine held_skip (i := 10) (d := 28) rfl rfl (by kernel_rfl) (by kernel_rfl) (by kernel_rfl) (fun _ _ _ h => h) (by kernel_rfl) hHeld ?_;try simp only [n0, n1, n2]
   refine held_skip (i := 11) (d := 29) rfl rfl (by kernel_rfl) (by kernel_rfl) (by kernel_rfl) (fun _ _ _ h => h) (by kernel_rfl) hHeld ?_;try simp only [n0, n1, n2]
   refine held_skip (i := 12) (d := 30) rfl rfl (by kernel_rfl) (by kernel_rfl) (by kernel_rfl) (fun _ _ _ h => h) (by kernel_rfl) hHeld ?_;try simp only [n0, n1, n2]
   refine held_skip (i := 13) (d := 31) rfl rfl (by kernel_rfl) (by kernel_rfl) (by kernel_rfl) (fun _ _ _ h => h) (by kernel_rfl) hHeld ?_;try simp only [n0, n1, n2]
   refine held_skip (i := 14) (d := 32) rfl rfl (by kernel_rfl) (by kernel_rfl) (by kernel_rfl) (fun _ _ _ h => h) (by kernel_rfl) hHeld ?_;try simp only [n0, n1, n2]
   refine hs_take 15 33 (.bool true) rfl rfl (by kernel_rfl) (fun _ _ _ h => h) (fun w hS => by go_simp) hHeld ?_;try simp only [n0, n1, n2]
   refine wpAnyH_done (by kernel_rfl) ?_ _;skip;have HZN := hid (HZM.out.bel HC.out);have HBN := hid (HBW.out.trans (HC.out.mono HBW.out.size));go_wp2_with (first | fail | ((with_reducible refine wpList_store_blk rfl 32 _ _ rfl w.heap.size 32 _ #[.int .i64 0, .int .i64 0, .int .i64 0, .int .i64 0, .int .i64 0, .int .i64 0, .int .i64 0, .int .i64 0, .int .i64 0, .int .i64 0, .int .i64 0, .string ⟨#[]⟩, .string ⟨#[]⟩, .int .i64 0, .slice none 0 0, .int .i64 0, .int .i64 0, .int .i64 0] ?_ ?_ HZN.out ?_ ?_ ?_ ?_); (focus rfl); (focus rfl); (focus kernel_rfl); (focus rfl); (focus kernel_rfl); intro w9 hblk2 hgr))
   refine bodyPost_ret (v := .tuple #[.agg _, .int .i64 4]) (results_blk_tmp Tryz.results14 _ _ w.heap.size 32 _ _ _ rfl rfl hblk2 Tryz.underlying32 rfl (by kernel_rfl)) rfl ?_;have hTT := HT.out;simp only [Bool.false_and, Bool.false_eq_true, if_false] at hTT;rw [HTE.out, ← hTT];exact ⟨none, 0, 0, rfl, Rs.nil_ _, (fun _ _ e => by cases e), HBN.out.trans (gr_below hgr HBN.out.size fun b hb => by injection hb with hb; omega)⟩
 | true =>
   have HCH := hid HCK;have HFH := hid (fun w h => HFM w h rfl);clear HCK HFM hwt;cases k6 with
   | true =>
     refine wp_region_held_drew (S := (fun w' => Blk w' p 32 #[.int .i64 aM, .int .i64 aR, .int .i64 aN, .int .i64 aB, .int .i64 aC, .int .i64 aT, .int .i64 aU, .int .i64 aS, .int .i64 aK, .int .i64 aL, .int .i64 aQ, .string aY, .string aV, .int .i64 aZ, .slice aA an ac, .int .i64 aE, .int .i64 aG, .int .i64 aW] ∧ Blk w' g 57 #[.int .i64 x.kind, .int .u64 (x.num : Int), .string x.str, .slice D n d])) (by kernel_rfl) (by with_reducible exact ⟨HKm.out.bel HC.out, HKx.out.bel HC.out⟩) (fun hHeld => ?_);refine hs_take 0 18 (.agg #[.int .i64 aM, .int .i64 aR, .int .i64 aN, .int .i64 aB, .int .i64 aC, .int .i64 aT, .int .i64 aU, .int .i64 aS, .int .i64 aK, .int .i64 aL, .int .i64 aQ, .string aY, .string aV, .int .i64 aZ, .slice aA an ac, .int .i64 aE, .int .i64 aG, .int .i64 aW]) rfl rfl (by kernel_rfl) (fun _ _ _ h => h) (run_load_blk 32 (.tmp 6) rfl p 32 #[.int .i64 aM, .int .i64 aR, .int .i64 aN, .int .i64 aB, .int .i64 aC, .int .i64 aT, .int .i64 aU, .int .i64 aS, .int .i64 aK, .int .i64 aL, .int .i64 aQ, .string aY, .string aV, .int .i64 aZ, .slice aA an ac, .int .i64 aE, .int .i64 aG, .int .i64 aW] _ rfl (fun _ h => h.1) Tryz.underlying32 rfl (by kernel_rfl)) hHeld ?_;try simp only [n0, n1, n2]
     refine wpAnyH_ready (rs := [1]) (by kernel_rfl) (by simp) ?_;refine AllReadyH.cons rfl (fun K hK => ?_) AllReadyH.nil;go_simp;go_at_call 25
     refine (HCH.out _ (HRa.out.below HC.out)).mono ?_;rintro e u9 ⟨rfl, hb1⟩;replace HC := hid (bel_trans HC.out hb1);clear hb1;refine hK.out _ _ (by with_reducible exact ⟨HKm.out.bel HC.out, HKx.out.bel HC.out⟩) (fun hHeld => ?_);clear hK K;refine hs_take 2 20 (.bool false) rfl rfl (by kernel_rfl) (fun _ _ _ h => h) (fun w hS => by go_simp) hHeld ?_;try simp only [n0, n1, n2]
     refine hs_take 3 21 (.bool false) rfl rfl (by kernel_rfl) (fun _ _ _ h => h) (fun w hS => by go_simp) hHeld ?_;try simp only [n0, n1, n2]
     refine hs_take 4 22 (.pointer (some ⟨p, 8, none⟩)) rfl rfl (by kernel_rfl) (fun _ _ _ h => h) (fun w hS => by go_simp) hHeld ?_;try simp only [n0, n1, n2]
     refine hs_take 5 23 (.pointer (some ⟨p, 8, none⟩)) rfl rfl (by kernel_rfl) (fun _ _ _ h => h) (fun w hS => by go_simp) hHeld ?_;try simp only [n0, n1, n2]
     refine hs_take 6 24 (.int .i64 aK) rfl rfl (by kernel_rfl) (fun _ _ _ h => h) (fun w' hS => by (have hh := hS.1.cell 8; simp at hh; go_simp)) hHeld ?_;try simp only [n0, n1, n2]
     refine hs_take 7 25 (.bool true) rfl rfl (by kernel_rfl) (fun _ _ _ h => h) (fun w hS => by go_simp) hHeld ?_;try simp only [n0, n1, n2]
     refine hs_take 8 26 (.bool true) rfl rfl (by kernel_rfl) (fun _ _ _ h => h) (fun w hS => by go_simp) hHeld ?_;try simp only [n0, n1, n2]
     refine hs_take 9 27 (.bool true) rfl rfl (by kernel_rfl) (fun _ _ _ h => h) (fun w hS => by go_simp) hHeld ?_;try simp only [n0, n1, n2]
     refine held_skip (i := 10) (d := 28) rfl rfl (by kernel_rfl) (by kernel_rfl) (by kernel_rfl) (fun _ _ _ h => h) (by kernel_rfl) hHeld ?_;try simp only [n0, n1, n2]
     refine held_skip (i := 11) (d := 29) rfl rfl (by kernel_rfl) (by kernel_rfl) (by kernel_rfl) (fun _ _ _ h => h) (by kernel_rfl) hHeld ?_;try simp only [n0, n1, n2]
     refine held_skip (i := 12) (d := 30) rfl rfl (by kernel_rfl) (by kernel_rfl) (by kernel_rfl) (fun _ _ _ h => h) (by kernel_rfl) hHeld ?_;try simp only [n0, n1, n2]
     refine held_skip (i := 13) (d := 31) rfl rfl (by kernel_rfl) (by kernel_rfl) (by kernel_rfl) (fun _ _ _ h => h) (by kernel_rfl) hHeld ?_;try simp only [n0, n1, n2]
     refine held_skip (i := 14) (d := 32) rfl rfl (by kernel_rfl) (by kernel_rfl) (by kernel_rfl) (fun _ _ _ h => h) (by kernel_rfl) hHeld ?_;try simp only [n0, n1, n2]
     refine hs_take 15 33 (.bool true) rfl rfl (by kernel_rfl) (fun _ _ _ h => h) (fun w hS => by go_simp) hHeld ?_;try simp only [n0, n1, n2]
     refine wpAnyH_done (by kernel_rfl) ?_ _;skip;have HZN := hid (HZM.out.bel HC.out);have HBN := hid (HBW.out.trans (HC.out.mono HBW.out.size));go_wp2_with (first | fail | ((with_reducible refine wpList_store_blk rfl 32 _ _ rfl w.heap.size 32 _ #[.int .i64 0, .int .i64 0, .int .i64 0, .int .i64 0, .int .i64 0, .int .i64 0, .int .i64 0, .int .i64 0, .int .i64 0, .int .i64 0, .int .i64 0, .string ⟨#[]⟩, .string ⟨#[]⟩, .int .i64 0, .slice none 0 0, .int .i64 0, .int .i64 0, .int .i64 0] ?_ ?_ HZN.out ?_ ?_ ?_ ?_); (focus rfl); (focus rfl); (focus kernel_rfl); (focus rfl); (focus kernel_rfl); intro w9 hblk2 hgr))
     refine bodyPost_ret (v := .tuple #[.agg _, .int .i64 4]) (results_blk_tmp Tryz.results14 _ _ w.heap.size 32 _ _ _ rfl rfl hblk2 Tryz.underlying32 rfl (by kernel_rfl)) rfl ?_;have hTT := HT.out;simp only [Bool.false_and, Bool.not_true, Bool.false_eq_true, Bool.and_false, if_false] at hTT;rw [HTE.out, ← hTT];exact ⟨none, 0, 0, rfl, Rs.nil_ _, (fun _ _ e => by cases e), HBN.out.trans (gr_below hgr HBN.out.size fun b hb => by injection hb with hb; omega)⟩
   | false =>
     cases s with
     | false =>
       refine wp_region_held_drew (S := (fun w' => Blk w' p 32 #[.int .i64 aM, .int .i64 aR, .int .i64 aN, .int .i64 aB, .int .i64 aC, .int .i64 aT, .int .i64 aU, .int .i64 aS, .int .i64 aK, .int .i64 aL, .int .i64 aQ, .string aY, .string aV, .int .i64 aZ, .slice aA an ac, .int .i64 aE, .int .i64 aG, .int .i64 aW] ∧ Blk w' g 57 #[.int .i64 x.kind, .int .u64 (x.num : Int), .string x.str, .slice D n d])) (by kernel_rfl) (by with_reducible exact ⟨HKm.out.bel HC.out, HKx.out.bel HC.out⟩) (fun hHeld => ?_);refine hs_take 0 18 (.agg #[.int .i64 aM, .int .i64 aR, .int .i64 aN, .int .i64 aB, .int .i64 aC, .int .i64 aT, .int .i64 aU, .int .i64 aS, .int .i64 aK, .int .i64 aL, .int .i64 aQ, .string aY, .string aV, .int .i64 aZ, .slice aA an ac, .int .i64 aE, .int .i64 aG, .int .i64 aW]) rfl rfl (by kernel_rfl) (fun _ _ _ h => h) (run_load_blk 32 (.tmp 6) rfl p 32 #[.int .i64 aM, .int .i64 aR, .int .i64 aN, .int .i64 aB, .int .i64 aC, .int .i64 aT, .int .i64 aU, .int .i64 aS, .int .i64 aK, .int .i64 aL, .int .i64 aQ, .string aY, .string aV, .int .i64 aZ, .slice aA an ac, .int .i64 aE, .int .i64 aG, .int .i64 aW] _ rfl (fun _ h => h.1) Tryz.underlying32 rfl (by kernel_rfl)) hHeld ?_;try simp only [n0, n1, n2]
       refine wpAnyH_ready (rs := [1]) (by kernel_rfl) (by simp) ?_;refine AllReadyH.cons rfl (fun K hK => ?_) AllReadyH.nil;go_simp;go_at_call 25
       refine (HCH.out _ (HRa.out.below HC.out)).mono ?_;rintro e u9 ⟨rfl, hb1⟩;replace HC := hid (bel_trans HC.out hb1);clear hb1;refine hK.out _ _ (by with_reducible exact ⟨HKm.out.bel HC.out, HKx.out.bel HC.out⟩) (fun hHeld => ?_);clear hK K;refine hs_take 2 20 (.bool false) rfl rfl (by kernel_rfl) (fun _ _ _ h => h) (fun w hS => by go_simp) hHeld ?_;try simp only [n0, n1, n2]
       refine hs_take 3 21 (.bool false) rfl rfl (by kernel_rfl) (fun _ _ _ h => h) (fun w hS => by go_simp) hHeld ?_;try simp only [n0, n1, n2]
       refine hs_take 4 22 (.pointer (some ⟨p, 8, none⟩)) rfl rfl (by kernel_rfl) (fun _ _ _ h => h) (fun w hS => by go_simp) hHeld ?_;try simp only [n0, n1, n2]
       refine hs_take 5 23 (.pointer (some ⟨p, 8, none⟩)) rfl rfl (by kernel_rfl) (fun _ _ _ h => h) (fun w hS => by go_simp) hHeld ?_;try simp only [n0, n1, n2]
       refine hs_take 6 24 (.int .i64 aK) rfl rfl (by kernel_rfl) (fun _ _ _ h => h) (fun w' hS => by (have hh := hS.1.cell 8; simp at hh; go_simp)) hHeld ?_;try simp only [n0, n1, n2]
       refine hs_take 7 25 (.bool false) rfl rfl (by kernel_rfl) (fun _ _ _ h => h) (fun w hS => by go_simp) hHeld ?_;try simp only [n0, n1, n2]
       refine hs_take 8 26 (.bool false) rfl rfl (by kernel_rfl) (fun _ _ _ h => h) (fun w hS => by go_simp) hHeld ?_;try simp only [n0, n1, n2]
       refine hs_take 9 27 (.bool false) rfl rfl (by kernel_rfl) (fun _ _ _ h => h) (fun w hS => by go_simp) hHeld ?_;try simp only [n0, n1, n2]
       refine hs_take 10 28 (.agg #[.int .i64 x.kind, .int .u64 (x.num : Int), .string x.str, .slice D n d]) rfl rfl (by kernel_rfl) (fun _ _ _ h => h) (run_load_blk 57 (.tmp 4) rfl g 57 #[.int .i64 x.kind, .int .u64 (x.num : Int), .string x.str, .slice D n d] _ rfl (fun _ h => h.2) Tryz.underlying57 rfl (by kernel_rfl)) hHeld ?_;try simp only [n0, n1, n2]
       refine hs_take 11 29 (.agg #[.int .i64 aM, .int .i64 aR, .int .i64 aN, .int .i64 aB, .int .i64 aC, .int .i64 aT, .int .i64 aU, .int .i64 aS, .int .i64 aK, .int .i64 aL, .int .i64 aQ, .string aY, .string aV, .int .i64 aZ, .slice aA an ac, .int .i64 aE, .int .i64 aG, .int .i64 aW]) rfl rfl (by kernel_rfl) (fun _ _ _ h => h) (run_load_blk 32 (.tmp 6) rfl p 32 #[.int .i64 aM, .int .i64 aR, .int .i64 aN, .int .i64 aB, .int .i64 aC, .int .i64 aT, .int .i64 aU, .int .i64 aS, .int .i64 aK, .int .i64 aL, .int .i64 aQ, .string aY, .string aV, .int .i64 aZ, .slice aA an ac, .int .i64 aE, .int .i64 aG, .int .i64 aW] _ rfl (fun _ h => h.1) Tryz.underlying32 rfl (by kernel_rfl)) hHeld ?_;try simp only [n0, n1, n2]
       refine wpAnyH_ready (rs := [12]) (by kernel_rfl) (by simp) ?_;refine AllReadyH.cons rfl (fun K hK => ?_) AllReadyH.nil;go_simp;go_at_call 27
       refine (HFH.out _ (HRa.out.below HC.out)).mono ?_;rintro e u9 ⟨F9, f9, rfl, hl9, hb1⟩;have HL9 := hid hl9;replace HC := hid (bel_trans HC.out hb1);clear hb1 hl9;refine hK.out _ _ (by with_reducible exact ⟨HKm.out.bel HC.out, HKx.out.bel HC.out⟩) (fun hHeld => ?_);clear hK K;refine wpAnyH_ready (rs := [13]) (by kernel_rfl) (by simp) ?_;refine AllReadyH.cons rfl (fun K hK => ?_) AllReadyH.nil;go_simp;go_at_call 35
       have hsm := refsame_item x y D F9 d f9 (fun b => b < _) _ (HLM.out _ HC.out) (HL9.out.more (S' := fun b => b < _) fun b _ h => h) (fun b hb => hb);rw [HS.out, HXN.out] at hsm;refine hsm.mono ?_;rintro e u9 ⟨rfl, hb1⟩;replace HC := hid (bel_trans HC.out hb1);clear hb1 hsm HL9;refine hK.out _ _ (by with_reducible exact ⟨HKm.out.bel HC.out, HKx.out.bel HC.out⟩) (fun hHeld => ?_);clear hK K;refine hs_take 14 32 (.bool true) rfl rfl (by kernel_rfl) (fun _ _ _ h => h) (fun w hS => by go_simp) hHeld ?_;try simp only [n0, n1, n2]
       refine hs_take 15 33 (.bool true) rfl rfl (by kernel_rfl) (fun _ _ _ h => h) (fun w hS => by go_simp) hHeld ?_;try simp only [n0, n1, n2]
       refine wpAnyH_done (by kernel_rfl) ?_ _;skip;have HZN := hid (HZM.out.bel HC.out);have HBN := hid (HBW.out.trans (HC.out.mono HBW.out.size));go_wp2_with (first | fail | ((with_reducible refine wpList_store_blk rfl 32 _ _ rfl w.heap.size 32 _ #[.int .i64 0, .int .i64 0, .int .i64 0, .int .i64 0, .int .i64 0, .int .i64 0, .int .i64 0, .int .i64 0, .int .i64 0, .int .i64 0, .int .i64 0, .string ⟨#[]⟩, .string ⟨#[]⟩, .int .i64 0, .slice none 0 0, .int .i64 0, .int .i64 0, .int .i64 0] ?_ ?_ HZN.out ?_ ?_ ?_ ?_); (focus rfl); (focus rfl); (focus kernel_rfl); (focus rfl); (focus kernel_rfl); intro w9 hblk2 hgr))
       refine bodyPost_ret (v := .tuple #[.agg _, .int .i64 4]) (results_blk_tmp Tryz.results14 _ _ w.heap.size 32 _ _ _ rfl rfl hblk2 Tryz.underlying32 rfl (by kernel_rfl)) rfl ?_;have hTT := HT.out;simp only [Bool.not_false, Bool.false_eq_true, Bool.and_false, if_false] at hTT;rw [HTE.out, ← hTT];exact ⟨none, 0, 0, rfl, Rs.nil_ _, (fun _ _ e => by cases e), HBN.out.trans (gr_below hgr HBN.out.size fun b hb => by injection hb with hb; omega)⟩
     | true =>
       refine wp_region_held_drew (S := (fun w' => Blk w' p 32 #[.int .i64 aM, .int .i64 aR, .int .i64 aN, .int .i64 aB, .int .i64 aC, .int .i64 aT, .int .i64 aU, .int .i64 aS, .int .i64 aK, .int .i64 aL, .int .i64 aQ, .string aY, .string aV, .int .i64 aZ, .slice aA an ac, .int .i64 aE, .int .i64 aG, .int .i64 aW] ∧ Blk w' g 57 #[.int .i64 x.kind, .int .u64 (x.num : Int), .string x.str, .slice D n d])) (by kernel_rfl) (by with_reducible exact ⟨HKm.out.bel HC.out, HKx.out.bel HC.out⟩) (fun hHeld => ?_);refine hs_take 0 18 (.agg #[.int .i64 aM, .int .i64 aR, .int .i64 aN, .int .i64 aB, .int .i64 aC, .int .i64 aT, .int .i64 aU, .int .i64 aS, .int .i64 aK, .int .i64 aL, .int .i64 aQ, .string aY, .string aV, .int .i64 aZ, .slice aA an ac, .int .i64 aE, .int .i64 aG, .int .i64 aW]) rfl rfl (by kernel_rfl) (fun _ _ _ h => h) (run_load_blk 32 (.tmp 6) rfl p 32 #[.int .i64 aM, .int .i64 aR, .int .i64 aN, .int .i64 aB, .int .i64 aC, .int .i64 aT, .int .i64 aU, .int .i64 aS, .int .i64 aK, .int .i64 aL, .int .i64 aQ, .string aY, .string aV, .int .i64 aZ, .slice aA an ac, .int .i64 aE, .int .i64 aG, .int .i64 aW] _ rfl (fun _ h => h.1) Tryz.underlying32 rfl (by kernel_rfl)) hHeld ?_;try simp only [n0, n1, n2]
       refine wpAnyH_ready (rs := [1]) (by kernel_rfl) (by simp) ?_;refine AllReadyH.cons rfl (fun K hK => ?_) AllReadyH.nil;go_simp;go_at_call 25
       refine (HCH.out _ (HRa.out.below HC.out)).mono ?_;rintro e u9 ⟨rfl, hb1⟩;replace HC := hid (bel_trans HC.out hb1);clear hb1;refine hK.out _ _ (by with_reducible exact ⟨HKm.out.bel HC.out, HKx.out.bel HC.out⟩) (fun hHeld => ?_);clear hK K;refine hs_take 2 20 (.bool false) rfl rfl (by kernel_rfl) (fun _ _ _ h => h) (fun w hS => by go_simp) hHeld ?_;try simp only [n0, n1, n2]
       refine hs_take 3 21 (.bool false) rfl rfl (by kernel_rfl) (fun _ _ _ h => h) (fun w hS => by go_simp) hHeld ?_;try simp only [n0, n1, n2]
       refine hs_take 4 22 (.pointer (some ⟨p, 8, none⟩)) rfl rfl (by kernel_rfl) (fun _ _ _ h => h) (fun w hS => by go_simp) hHeld ?_;try simp only [n0, n1, n2]
       refine hs_take 5 23 (.pointer (some ⟨p, 8, none⟩)) rfl rfl (by kernel_rfl) (fun _ _ _ h => h) (fun w hS => by go_simp) hHeld ?_;try simp only [n0, n1, n2]
       refine hs_take 6 24 (.int .i64 aK) rfl rfl (by kernel_rfl) (fun _ _ _ h => h) (fun w' hS => by (have hh := hS.1.cell 8; simp at hh; go_simp)) hHeld ?_;try simp only [n0, n1, n2]
       refine hs_take 7 25 (.bool false) rfl rfl (by kernel_rfl) (fun _ _ _ h => h) (fun w hS => by go_simp) hHeld ?_;try simp only [n0, n1, n2]
       refine hs_take 8 26 (.bool false) rfl rfl (by kernel_rfl) (fun _ _ _ h => h) (fun w hS => by go_simp) hHeld ?_;try simp only [n0, n1, n2]
       refine hs_take 9 27 (.bool false) rfl rfl (by kernel_rfl) (fun _ _ _ h => h) (fun w hS => by go_simp) hHeld ?_;try simp only [n0, n1, n2]
       refine hs_take 10 28 (.agg #[.int .i64 x.kind, .int .u64 (x.num : Int), .string x.str, .slice D n d]) rfl rfl (by kernel_rfl) (fun _ _ _ h => h) (run_load_blk 57 (.tmp 4) rfl g 57 #[.int .i64 x.kind, .int .u64 (x.num : Int), .string x.str, .slice D n d] _ rfl (fun _ h => h.2) Tryz.underlying57 rfl (by kernel_rfl)) hHeld ?_;try simp only [n0, n1, n2]
       refine hs_take 11 29 (.agg #[.int .i64 aM, .int .i64 aR, .int .i64 aN, .int .i64 aB, .int .i64 aC, .int .i64 aT, .int .i64 aU, .int .i64 aS, .int .i64 aK, .int .i64 aL, .int .i64 aQ, .string aY, .string aV, .int .i64 aZ, .slice aA an ac, .int .i64 aE, .int .i64 aG, .int .i64 aW]) rfl rfl (by kernel_rfl) (fun _ _ _ h => h) (run_load_blk 32 (.tmp 6) rfl p 32 #[.int .i64 aM, .int .i64 aR, .int .i64 aN, .int .i64 aB, .int .i64 aC, .int .i64 aT, .int .i64 aU, .int .i64 aS, .int .i64 aK, .int .i64 aL, .int .i64 aQ, .string aY, .string aV, .int .i64 aZ, .slice aA an ac, .int .i64 aE, .int .i64 aG, .int .i64 aW] _ rfl (fun _ h => h.1) Tryz.underlying32 rfl (by kernel_rfl)) hHeld ?_;try simp only [n0, n1, n2]
       refine wpAnyH_ready (rs := [12]) (by kernel_rfl) (by simp) ?_;refine AllReadyH.cons rfl (fun K hK => ?_) AllReadyH.nil;go_simp;go_at_call 27
       refine (HFH.out _ (HRa.out.below HC.out)).mono ?_;rintro e u9 ⟨F9, f9, rfl, hl9, hb1⟩;have HL9 := hid hl9;replace HC := hid (bel_trans HC.out hb1);clear hb1 hl9;refine hK.out _ _ (by with_reducible exact ⟨HKm.out.bel HC.out, HKx.out.bel HC.out⟩) (fun hHeld => ?_);clear hK K;refine wpAnyH_ready (rs := [13]) (by kernel_rfl) (by simp) ?_;refine AllReadyH.cons rfl (fun K hK => ?_) AllReadyH.nil;go_simp;go_at_call 35
       have hsm := refsame_item x y D F9 d f9 (fun b => b < _) _ (HLM.out _ HC.out) (HL9.out.more (S' := fun b => b < _) fun b _ h => h) (fun b hb => hb);rw [HS.out, HXN.out] at hsm;refine hsm.mono ?_;rintro e u9 ⟨rfl, hb1⟩;replace HC := hid (bel_trans HC.out hb1);clear hb1 hsm HL9;refine hK.out _ _ (by with_reducible exact ⟨HKm.out.bel HC.out, HKx.out.bel HC.out⟩) (fun hHeld => ?_);clear hK K;refine hs_take 14 32 (.bool false) rfl rfl (by kernel_rfl) (fun _ _ _ h => h) (fun w hS => by go_simp) hHeld ?_;try simp only [n0, n1, n2]
       refine hs_take 15 33 (.bool false) rfl rfl (by kernel_rfl) (fun _ _ _ h => h) (fun w hS => by go_simp) hHeld ?_;try simp only [n0, n1, n2]
       refine wpAnyH_done (by kernel_rfl) ?_ _;skip;have HZN := hid (HZM.out.bel HC.out);have HBN := hid (HBW.out.trans (HC.out.mono HBW.out.size));have HKN := hid (HKm.out.bel HC.out);go_wp2_with (first | (with_reducible refine wpList_load_blk_w 32 _ rfl p 32 _ _ ?_ ?_ HKN.out Tryz.underlying32 ?_ ?_ ?_; (focus kernel_rfl); (focus kernel_rfl); (focus rfl); (focus kernel_rfl)) | ((with_reducible refine wpList_store_blk rfl 32 _ _ rfl w.heap.size 32 _ #[.int .i64 aM, .int .i64 aR, .int .i64 aN, .int .i64 aB, .int .i64 aC, .int .i64 aT, .int .i64 aU, .int .i64 aS, .int .i64 aK, .int .i64 aL, .int .i64 aQ, .string aY, .string aV, .int .i64 aZ, .slice aA an ac, .int .i64 aE, .int .i64 aG, .int .i64 aW] ?_ ?_ HZN.out ?_ ?_ ?_ ?_); (focus rfl); (focus rfl); (focus kernel_rfl); (focus rfl); (focus kernel_rfl); intro w9 hblk2 hgr))
       refine bodyPost_ret (v := .tuple #[.agg _, .int .i64 0]) (results_blk_tmp Tryz.results14 _ _ w.heap.size 32 _ _ _ rfl rfl hblk2 Tryz.underlying32 rfl (by kernel_rfl)) rfl ?_;have hTT := HT.out;simp only [Bool.not_false, Bool.and_true, if_true] at hTT;rw [HTE.out, ← hTT];have hlt := HZ.out.lt;have hus := HBU.out.size;refine ⟨aA, an, ac, rfl, (HRa.out.below HC.out).grown hgr (fun g o e h => by injection h with h; have := HNW.out g o e; omega), (fun g o e => by have := HNW.out g o e; omega), HBN.out.trans (gr_below hgr HBN.out.size fun b hb => by injection hb with hb; omega)⟩
end Go.Proofs.YthlhchaoedcdbaaGreatDoor.Mg
/- The document's Read: what a program of a version reads of bytes. -/
namespace Go.Proofs.YthlhchaoedcdbaaGreatDoor.Mg
open Lib (hid)
open Go.RowKit Mem Ids Att Rk Cod
theorem reads_none {v : Int} {b : List Nat} (h1 : ¬ v = 1) (h2 : ¬ v = 2) : refReads v b = (zeroMg, 1) := if_neg (by omega)
theorem reads_one {b : List Nat} : refReads 1 b = refUp (openX 1 b) := by
 unfold refReads;rw [if_pos (.inl rfl), if_pos (.inl rfl)]
theorem reads_up {b : List Nat} (h : b.getD 0 0 = 1) : refReads 2 b = refUp (openX 1 b) := by
 unfold refReads;rw [if_pos (.inr rfl), if_pos (.inr h)]
theorem reads_take {b : List Nat} (h : ¬ b.getD 0 0 = 1) : refReads 2 b = refTake (openX 2 b) := by
 unfold refReads;rw [if_pos (.inr rfl), if_neg (by omega)]
set_option maxRecDepth 100000 in
set_option maxHeartbeats 8000000 in
theorem refreads_new (v : Int) (b : List Nat) (A : Option Addr) (m c : Nat) (w : World) (hr : Rd w A m c (cs b)) (hb : ∀ x ∈ b, x < 256) (hm : m ≤ 1000000) :
 Calls Tryz.prog 16 #[.slice A m c, .int .i64 v] w (TakesNw w (refReads v b)) := by
 have hz0 := Blk.new w 32 #[.int .i64 0, .int .i64 0, .int .i64 0, .int .i64 0, .int .i64 0, .int .i64 0, .int .i64 0, .int .i64 0, .int .i64 0, .int .i64 0, .int .i64 0, .string ⟨#[]⟩, .string ⟨#[]⟩, .int .i64 0, .slice none 0 0, .int .i64 0, .int .i64 0, .int .i64 0];have hbz := bel_alloc (Below.refl w.heap.size w) (.cells #[.int .i64 0, .int .i64 0, .int .i64 0, .int .i64 0, .int .i64 0, .int .i64 0, .int .i64 0, .int .i64 0, .int .i64 0, .int .i64 0, .int .i64 0, .string ⟨#[]⟩, .string ⟨#[]⟩, .int .i64 0, .slice none 0 0, .int .i64 0, .int .i64 0, .int .i64 0] 32);have hrW := hr.below hbz;have hlb := hr.len;rw [length_cs] at hlb;obtain ⟨W, hW⟩ : ∃ W, w.alloc (.cells #[.int .i64 0, .int .i64 0, .int .i64 0, .int .i64 0, .int .i64 0, .int .i64 0, .int .i64 0, .int .i64 0, .int .i64 0, .int .i64 0, .int .i64 0, .string ⟨#[]⟩, .string ⟨#[]⟩, .int .i64 0, .slice none 0 0, .int .i64 0, .int .i64 0, .int .i64 0] 32) = W := ⟨_, rfl⟩
 rw [hW] at hz0 hbz hrW;have hup := fun (u : World) (h : Below W.heap.size W u) => refup_new b A m c u (hrW.below h) hb hm;have htk := fun (u : World) (h : Below W.heap.size W u) => reftake_new b A m c u (hrW.below h) hb hm;have HZ := hid hz0;have HB := hid hbz;have HW := hid hW;clear hz0 hbz hW hr hm;by_cases h1 : v = 1
 · subst h1
   rw [reads_one];obtain ⟨⟨q, er⟩, hq⟩ : ∃ r, refUp (openX 1 b) = r := ⟨_, rfl⟩
   rw [hq] at hup ⊢;clear hq;obtain ⟨aM, ⟨aR, aN⟩, ⟨aB, aC⟩, ⟨aT, aU⟩, aS, ⟨aK, aL, aQ, aY, aV, aZ⟩, ⟨al, aE, aG⟩, aW⟩ := q;unfold TakesNw at hup ⊢;simp only at hup ⊢;obtain ⟨ei, hei⟩ : ∃ ei : Int, (er : Int) = ei := ⟨_, rfl⟩
   rw [hei] at hup ⊢;clear hei;have HCL := hid hup;clear hup htk;clear hrW hlb hb;go_enter Tryz.func16, Tryz.ntmps16
   go_upto_region 1 with fail
   rw [HW.out];go_wp2_with fail
   refine (HCL.out _ (Below.refl _ _)).mono ?_;rintro e u ⟨V, k, d, rfl, hrs, hnew, hb1⟩;simp only at hrs ⊢;have HZU := hid (HZ.out.bel hb1);have HBU := hid (HB.out.trans (hb1.mono HB.out.size));go_wp2_with (first | fail | ((with_reducible refine wpList_store_blk rfl 32 _ _ rfl w.heap.size 32 _ #[.int .i64 aM, .int .i64 aR, .int .i64 aN, .int .i64 aB, .int .i64 aC, .int .i64 aT, .int .i64 aU, .int .i64 aS, .int .i64 aK, .int .i64 aL, .int .i64 aQ, .string aY, .string aV, .int .i64 aZ, .slice V k d, .int .i64 aE, .int .i64 aG, .int .i64 aW] ?_ ?_ HZU.out ?_ ?_ ?_ ?_); (focus rfl); (focus rfl); (focus kernel_rfl); (focus rfl); (focus kernel_rfl); intro w9 hblk2 hgr))
   refine bodyPost_ret (v := .tuple #[.agg _, .int .i64 ei]) (results_blk_tmp Tryz.results16 _ _ w.heap.size 32 _ _ _ rfl rfl hblk2 Tryz.underlying32 rfl (by kernel_rfl)) rfl ?_;have hlt := HZ.out.lt;exact ⟨V, k, d, rfl, hrs.grown hgr (fun g o e h => by injection h with h; have := hnew g o e; omega), (fun g o e => by have := hnew g o e; omega), HBU.out.trans (gr_below hgr HBU.out.size fun b hb => by injection hb with hb; omega)⟩
 by_cases h2 : v = 2
 · subst h2
   by_cases hd : b.getD 0 0 = 1
   · have hfirst : ∃ ad, A = some ad ∧ 0 < m ∧ W.cell? ad = some (.int .u8 1) := by
      cases b with
      | nil => cases hd
      | cons x l =>
        obtain ⟨ad, rfl, hc0⟩ := Cp.head_cell hrW;have hx : x = 1 := hd;subst hx;exact ⟨ad, rfl, by simp only [List.length_cons] at hlb; omega, hc0⟩
     have hle := hrW.le;rw [reads_up hd];obtain ⟨⟨q, er⟩, hq⟩ : ∃ r, refUp (openX 1 b) = r := ⟨_, rfl⟩
     rw [hq] at hup ⊢;clear hq;obtain ⟨aM, ⟨aR, aN⟩, ⟨aB, aC⟩, ⟨aT, aU⟩, aS, ⟨aK, aL, aQ, aY, aV, aZ⟩, ⟨al, aE, aG⟩, aW⟩ := q;unfold TakesNw at hup ⊢;simp only at hup ⊢;obtain ⟨ei, hei⟩ : ∃ ei : Int, (er : Int) = ei := ⟨_, rfl⟩
     rw [hei] at hup ⊢;clear hei;have HCL := hid hup;clear hup htk;clear hrW hlb hb hd;obtain ⟨ad, hA, hm0, hc0⟩ := hfirst;subst hA;have qn : decide ((0 : Int) < (m : Int)) = true := decide_eq_true (by omega);go_enter Tryz.func16, Tryz.ntmps16
     go_upto_region 1 with fail
     rw [HW.out];go_wp2_with fail
     refine (HCL.out _ (Below.refl _ _)).mono ?_;rintro e u ⟨V, k, d, rfl, hrs, hnew, hb1⟩;simp only at hrs ⊢;have HZU := hid (HZ.out.bel hb1);have HBU := hid (HB.out.trans (hb1.mono HB.out.size));go_wp2_with (first | fail | ((with_reducible refine wpList_store_blk rfl 32 _ _ rfl w.heap.size 32 _ #[.int .i64 aM, .int .i64 aR, .int .i64 aN, .int .i64 aB, .int .i64 aC, .int .i64 aT, .int .i64 aU, .int .i64 aS, .int .i64 aK, .int .i64 aL, .int .i64 aQ, .string aY, .string aV, .int .i64 aZ, .slice V k d, .int .i64 aE, .int .i64 aG, .int .i64 aW] ?_ ?_ HZU.out ?_ ?_ ?_ ?_); (focus rfl); (focus rfl); (focus kernel_rfl); (focus rfl); (focus kernel_rfl); intro w9 hblk2 hgr))
     refine bodyPost_ret (v := .tuple #[.agg _, .int .i64 ei]) (results_blk_tmp Tryz.results16 _ _ w.heap.size 32 _ _ _ rfl rfl hblk2 Tryz.underlying32 rfl (by kernel_rfl)) rfl ?_;have hlt := HZ.out.lt;exact ⟨V, k, d, rfl, hrs.grown hgr (fun g o e h => by injection h with h; have := hnew g o e; omega), (fun g o e => by have := hnew g o e; omega), HBU.out.trans (gr_below hgr HBU.out.size fun b hb => by injection hb with hb; omega)⟩
   · have hfirst : m = 0 ∨ ∃ ad b0, A = some ad ∧ 0 < m ∧ W.cell? ad = some (.int .u8 b0) ∧ (b0 == 1) = false := by
      cases b with
      | nil => exact .inl (by simpa using hlb.symm)
      | cons x l =>
        obtain ⟨ad, rfl, hc0⟩ := Cp.head_cell hrW;refine .inr ⟨ad, (x : Int), rfl, by simp only [List.length_cons] at hlb; omega, hc0, ?_⟩;have hx : ¬ x = 1 := hd;exact beq_eq_false_iff_ne.2 (by omega)
     have hle := hrW.le;rw [reads_take hd];obtain ⟨⟨q, er⟩, hq⟩ : ∃ r, refTake (openX 2 b) = r := ⟨_, rfl⟩
     rw [hq] at htk ⊢;clear hq;obtain ⟨aM, ⟨aR, aN⟩, ⟨aB, aC⟩, ⟨aT, aU⟩, aS, ⟨aK, aL, aQ, aY, aV, aZ⟩, ⟨al, aE, aG⟩, aW⟩ := q;unfold TakesNw at htk ⊢;simp only at htk ⊢;obtain ⟨ei, hei⟩ : ∃ ei : Int, (er : Int) = ei := ⟨_, rfl⟩
     rw [hei] at htk ⊢;clear hei;have HCL := hid htk;clear hup htk;clear hrW hlb hb hd;rcases hfirst with hm0 | ⟨ad, b0, hA, hm0, hc0, hx0⟩
     · subst hm0
       clear hle;go_enter Tryz.func16, Tryz.ntmps16
       go_upto_region 1 with fail
       rw [HW.out];go_wp2_with fail
       refine (HCL.out _ (Below.refl _ _)).mono ?_;rintro e u ⟨V, k, d, rfl, hrs, hnew, hb1⟩;simp only at hrs ⊢;have HZU := hid (HZ.out.bel hb1);have HBU := hid (HB.out.trans (hb1.mono HB.out.size));go_wp2_with (first | fail | ((with_reducible refine wpList_store_blk rfl 32 _ _ rfl w.heap.size 32 _ #[.int .i64 aM, .int .i64 aR, .int .i64 aN, .int .i64 aB, .int .i64 aC, .int .i64 aT, .int .i64 aU, .int .i64 aS, .int .i64 aK, .int .i64 aL, .int .i64 aQ, .string aY, .string aV, .int .i64 aZ, .slice V k d, .int .i64 aE, .int .i64 aG, .int .i64 aW] ?_ ?_ HZU.out ?_ ?_ ?_ ?_); (focus rfl); (focus rfl); (focus kernel_rfl); (focus rfl); (focus kernel_rfl); intro w9 hblk2 hgr))
       refine bodyPost_ret (v := .tuple #[.agg _, .int .i64 ei]) (results_blk_tmp Tryz.results16 _ _ w.heap.size 32 _ _ _ rfl rfl hblk2 Tryz.underlying32 rfl (by kernel_rfl)) rfl ?_;have hlt := HZ.out.lt;exact ⟨V, k, d, rfl, hrs.grown hgr (fun g o e h => by injection h with h; have := hnew g o e; omega), (fun g o e => by have := hnew g o e; omega), HBU.out.trans (gr_below hgr HBU.out.size fun b hb => by injection hb with hb; omega)⟩
     · subst hA
       have qn : decide ((0 : Int) < (m : Int)) = true := decide_eq_true (by omega);go_enter Tryz.func16, Tryz.ntmps16
       go_upto_region 1 with fail
       rw [HW.out];go_wp2_with fail
       refine (HCL.out _ (Below.refl _ _)).mono ?_;rintro e u ⟨V, k, d, rfl, hrs, hnew, hb1⟩;simp only at hrs ⊢;have HZU := hid (HZ.out.bel hb1);have HBU := hid (HB.out.trans (hb1.mono HB.out.size));go_wp2_with (first | fail | ((with_reducible refine wpList_store_blk rfl 32 _ _ rfl w.heap.size 32 _ #[.int .i64 aM, .int .i64 aR, .int .i64 aN, .int .i64 aB, .int .i64 aC, .int .i64 aT, .int .i64 aU, .int .i64 aS, .int .i64 aK, .int .i64 aL, .int .i64 aQ, .string aY, .string aV, .int .i64 aZ, .slice V k d, .int .i64 aE, .int .i64 aG, .int .i64 aW] ?_ ?_ HZU.out ?_ ?_ ?_ ?_); (focus rfl); (focus rfl); (focus kernel_rfl); (focus rfl); (focus kernel_rfl); intro w9 hblk2 hgr))
       refine bodyPost_ret (v := .tuple #[.agg _, .int .i64 ei]) (results_blk_tmp Tryz.results16 _ _ w.heap.size 32 _ _ _ rfl rfl hblk2 Tryz.underlying32 rfl (by kernel_rfl)) rfl ?_;have hlt := HZ.out.lt;exact ⟨V, k, d, rfl, hrs.grown hgr (fun g o e h => by injection h with h; have := hnew g o e; omega), (fun g o e => by have := hnew g o e; omega), HBU.out.trans (gr_below hgr HBU.out.size fun b hb => by injection hb with hb; omega)⟩
 rw [reads_none h1 h2];have q1 : (v != 1) = true := bne_iff_ne.2 h1;have q2 : (v != 2) = true := bne_iff_ne.2 h2;clear hup htk hrW hlb hb h1 h2;go_enter Tryz.func16, Tryz.ntmps16
 go_upto_region 1 with fail
 rw [HW.out];go_wp2_with (first | fail | ((with_reducible refine wpList_store_blk rfl 32 _ _ rfl w.heap.size 32 _ #[.int .i64 0, .int .i64 0, .int .i64 0, .int .i64 0, .int .i64 0, .int .i64 0, .int .i64 0, .int .i64 0, .int .i64 0, .int .i64 0, .int .i64 0, .string ⟨#[]⟩, .string ⟨#[]⟩, .int .i64 0, .slice none 0 0, .int .i64 0, .int .i64 0, .int .i64 0] ?_ ?_ HZ.out ?_ ?_ ?_ ?_); (focus rfl); (focus rfl); (focus kernel_rfl); (focus rfl); (focus kernel_rfl); intro w9 hblk2 hgr))
 refine bodyPost_ret (v := .tuple #[.agg _, .int .i64 1]) (results_blk_tmp Tryz.results16 _ _ w.heap.size 32 _ _ _ rfl rfl hblk2 Tryz.underlying32 rfl (by kernel_rfl)) rfl ?_;exact ⟨none, 0, 0, rfl, Rs.nil_ _, (fun _ _ e => by cases e), HB.out.trans (gr_below hgr HB.out.size fun b hb => by injection hb with hb; omega)⟩
end Go.Proofs.YthlhchaoedcdbaaGreatDoor.Mg
