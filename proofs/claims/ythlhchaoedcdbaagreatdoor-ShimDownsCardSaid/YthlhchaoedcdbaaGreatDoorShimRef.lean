/-
  Texts of earlier layers, as one.
-/
import Derived.Test.YthlhchaoedcdbaaGreatDoorMsgPl
import Derived.Test.YthlhchaoedcdbaaGreatDoorMsgOw
import Derived.Test.YthlhchaoedcdbaaGreatDoorRecItemPlain
import Derived.Test.YthlhchaoedcdbaaGreatDoorMsgRight
import Derived.Test.YthlhchaoedcdbaaGreatDoorMsgItem
import Derived.Test.YthlhchaoedcdbaaGreatDoorMsgFr
import Derived.Deep.RegionHeld
import Derived.Deep.Cut
import Derived.Test.YthlhchaoedcdbaaGreatDoorMsgReads
import Derived.Test.YthlhchaoedcdbaaGreatDoorMsgOwnTake
import Derived.Test.YthlhchaoedcdbaaGreatDoorMsgRefTake
import Derived.Test.YthlhchaoedcdbaaGreatDoorRCodS
/- Messages in the old form, plainly: what goes down, what comes up, and that what goes down comes up as it was; plain mathematics, of no program. -/
namespace Go.Proofs.YthlhchaoedcdbaaGreatDoor.Mg
open Cod Rk
def oldMg (m : Mg) : It := laidMg m (Att.oldIt m.at_)
def noOld (m : Mg) : Bool := decide (m.at_.tg = 2) || decide (m.cm.kd = 6)
noncomputable def refDown (m : Mg) : List Nat × Nat := if mright m = true then (if noOld m = true then ([], 17) else (frame 1 (form (oldMg m)), 0)) else ([], 4)
noncomputable def refUp (r : It × Nat) : Mg × Nat :=
 if r.2 = 0 then (if (mright (readMg Att.oldTake r.1) && (!decide ((readMg Att.oldTake r.1).cm.kd = 6) && same r.1 (oldMg (readMg Att.oldTake r.1)))) = true then (readMg Att.oldTake r.1, 0) else (zeroMg, 4)) else (zeroMg, r.2)
theorem chk_old (m : Mg) : chk (oldMg m) 0 = 0 := chk_laid m (chk_oldAtt _ (by omega))
theorem right_att {m : Mg} (h : mright m = true) (e : hAt m = true) : Att.achk m.at_ = 0 := ((mright_parts h).2.2.2.2.2.2.2.2.2.2.1 e).1
theorem wt_old {m : Mg} (h : mright m = true) : wt (oldMg m) ≤ 60000 := wt_laid h fun e => (wt_att (right_att h e)).2
theorem tag_one {m : Mg} (h : mright m = true) (hn : noOld m = false) (e : hAt m = true) : m.at_.tg = 1 := by
 have h1 := Att.achk_sq (right_att h e)
 unfold noOld at hn
 have h2 := of_decide_eq_false (Bool.or_eq_false_iff.1 hn).1
 omega
theorem old_back {m : Mg} (h : mright m = true) (hn : noOld m = false) : readMg Att.oldTake (oldMg m) = m :=
 read_laid h _ _ fun e => Att.old_put (right_att h e) (tag_one h hn e)
theorem front_att (x : It) (kd : Int) : (readFront x kd).1.at_ = Att.zeroAt := by
 unfold readFront
 simp only
 (repeat' split) <;> rfl
theorem old_tag {y : It} : ((Att.oldTake y).getD Att.zeroAt).tg ≠ 2 := by
 cases h : Att.oldTake y with
 | none => decide
 | some a =>
   have e : a.tg = 1 := by
    unfold Att.oldTake at h
    split at h
    · split at h
      · unfold Att.takenOf at h
        split at h
        · injection h with h
          rw [← h]
        · cases h
      · cases h
    · cases h
   rw [Option.getD_some, e]
   decide
theorem read_tag (x : It) : (readMg Att.oldTake x).at_.tg ≠ 2 := by
 have hf := front_att x (Cmd.cap (atOf x 0).num)
 unfold readMg readRest
 simp only
 generalize readFront x (Cmd.cap (atOf x 0).num) = r at hf ⊢
 have h0 : r.1.at_.tg ≠ 2 := by rw [hf]; decide
 (repeat' split) <;> first | exact old_tag | exact h0
theorem noOld_read (x : It) : noOld (readMg Att.oldTake x) = decide ((readMg Att.oldTake x).cm.kd = 6) := by
 unfold noOld
 rw [decide_eq_false (read_tag x), Bool.false_or]
theorem refUp_zero (x : It) : refUp (x, 0) = if (mright (readMg Att.oldTake x) && (!decide ((readMg Att.oldTake x).cm.kd = 6) && same x (oldMg (readMg Att.oldTake x)))) = true then (readMg Att.oldTake x, 0) else (zeroMg, 4) := by
 unfold refUp
 rw [if_pos rfl]
theorem refUp_bad (x : It) {e : Nat} (h : ¬ e = 0) : refUp (x, e) = (zeroMg, e) := by
 unfold refUp
 rw [if_neg h]
theorem refUp_iff {x : It} {m : Mg} : refUp (x, 0) = (m, 0) ↔ mright m = true ∧ noOld m = false ∧ oldMg m = x := by
 rw [refUp_zero, ← noOld_read]
 constructor
 · intro h
   split at h
   · rename_i hc
     injection h with h _
     rw [h, Bool.and_eq_true, Bool.and_eq_true, Bool.not_eq_true'] at hc
     exact ⟨hc.1, hc.2.1, ((same_iff _ _).1 hc.2.2).symm⟩
   · injection h with _ h
     cases h
 · rintro ⟨h, hn, rfl⟩
   rw [old_back h hn, if_pos (by rw [h, hn, (same_iff _ _).2 rfl]; rfl)]
theorem refUp_no {x : It} (h : ∀ m, mright m = true → noOld m = false → oldMg m ≠ x) : refUp (x, 0) = (zeroMg, 4) := by
 rw [refUp_zero, ← noOld_read, if_neg]
 intro hc
 rw [Bool.and_eq_true, Bool.and_eq_true, Bool.not_eq_true'] at hc
 exact h _ hc.1 hc.2.1 ((same_iff _ _).1 hc.2.2).symm
theorem up_down {m : Mg} (h : mright m = true) (hn : noOld m = false) (fx : Fit (oldMg m)) : refUp (openX 1 (frame 1 (form (oldMg m)))) = (m, 0) := by
 have h1 := length_form_le (oldMg m) fx
 have h2 := wt_old h
 rw [open_item 1 (chk_old m) fx (by omega)]
 exact refUp_iff.2 ⟨h, hn, rfl⟩
theorem open_short (v : Nat) {b : List Nat} (h : b.length < 5) : openX v b = (Cmd.zeroIt, 2) := by
 unfold openX
 rw [if_pos h]
end Go.Proofs.YthlhchaoedcdbaaGreatDoor.Mg
/- The document's Down: the old form of a message. -/
namespace Go.Proofs.YthlhchaoedcdbaaGreatDoor.Mg
open Go.RowKit Mem Ids Att Rk Cod
def DownIs (m : Mg) (w : World) (e : Ending) (w' : World) : Prop :=
 ∃ A n c, e = .returned (.tuple #[.slice A n c, .int .i64 ((refDown m).2 : Int)]) ∧ Rd w' A n c (cs (refDown m).1) ∧ Below w.heap.size w w' ∧ ((refDown m).2 = 0 → Fit (oldMg m))
theorem down_no {m : Mg} (h : mright m = false) : refDown m = ([], 4) := if_neg (by simp [h])
theorem down_none {m : Mg} (h : mright m = true) (hn : noOld m = true) : refDown m = ([], 17) := by
 unfold refDown
 rw [if_pos h, if_pos hn]
theorem down_yes {m : Mg} (h : mright m = true) (hn : noOld m = false) : refDown m = (frame 1 (form (oldMg m)), 0) := by
 unfold refDown
 rw [if_pos h, if_neg (by simp [hn])]
set_option maxRecDepth 100000 in
set_option maxHeartbeats 4000000 in
theorem refdown_any (aM aR aN aB aC aT aU aS aK aL aQ : Int) (aY aV : ByteArray) (aZ : Int) (aA : Option Addr) (an ac : Nat) (aE aG aW : Int) (al : List (Int × Int)) (w : World) (ha : Rs w aA an ac al) (hy : aY.size ≤ 1073741824) :
 Calls Tryz.prog 8 #[.agg #[.int .i64 aM, .int .i64 aR, .int .i64 aN, .int .i64 aB, .int .i64 aC, .int .i64 aT, .int .i64 aU, .int .i64 aS, .int .i64 aK, .int .i64 aL, .int .i64 aQ, .string aY, .string aV, .int .i64 aZ, .slice aA an ac, .int .i64 aE, .int .i64 aG, .int .i64 aW]] w (DownIs ⟨aM, (aR, aN), (aB, aC), (aT, aU), aS, ⟨aK, aL, aQ, aY, aV, aZ⟩, ⟨al, aE, aG⟩, aW⟩ w) := by
 obtain ⟨k1, hbb⟩ := box1 w 32 #[.int .i64 aM, .int .i64 aR, .int .i64 aN, .int .i64 aB, .int .i64 aC, .int .i64 aT, .int .i64 aU, .int .i64 aS, .int .i64 aK, .int .i64 aL, .int .i64 aQ, .string aY, .string aV, .int .i64 aZ, .slice aA an ac, .int .i64 aE, .int .i64 aG, .int .i64 aW]
 obtain ⟨W, hW⟩ : ∃ v, w.alloc (.cells #[.int .i64 aM, .int .i64 aR, .int .i64 aN, .int .i64 aB, .int .i64 aC, .int .i64 aT, .int .i64 aU, .int .i64 aS, .int .i64 aK, .int .i64 aL, .int .i64 aQ, .string aY, .string aV, .int .i64 aZ, .slice aA an ac, .int .i64 aE, .int .i64 aG, .int .i64 aW] 32) = v := ⟨_, rfl⟩
 rw [hW] at k1 hbb
 have HKa := Lib.hid k1
 have HB := Lib.hid hbb
 have HW := Lib.hid hW
 have HC := Lib.hid (Below.refl W.heap.size W)
 have HRa := Lib.hid (ha.below hbb)
 clear hbb hW k1 ha
 have h1 := fun w h => refmright_any aM aR aN aB aC aT aU aS aK aL aQ aY aV aZ aA an ac aE aG aW al w h hy
 have h2 := fun w h hr => refmitemold_any aM aR aN aB aC aT aU aS aK aL aQ aY aV aZ aA an ac aE aG aW al w h hr
 have hwt : mright ⟨aM, (aR, aN), (aB, aC), (aT, aU), aS, ⟨aK, aL, aQ, aY, aV, aZ⟩, ⟨al, aE, aG⟩, aW⟩ = true → Fit (oldMg ⟨aM, (aR, aN), (aB, aC), (aT, aU), aS, ⟨aK, aL, aQ, aY, aV, aZ⟩, ⟨al, aE, aG⟩, aW⟩) → (form (oldMg ⟨aM, (aR, aN), (aB, aC), (aT, aU), aS, ⟨aK, aL, aQ, aY, aV, aZ⟩, ⟨al, aE, aG⟩, aW⟩)).length ≤ 1000000 := fun h hfx => by
  have h1 := length_form_le (oldMg ⟨aM, (aR, aN), (aB, aC), (aT, aU), aS, ⟨aK, aL, aQ, aY, aV, aZ⟩, ⟨al, aE, aG⟩, aW⟩) hfx
  have h2 := wt_old h
  omega
 have hck := chk_old ⟨aM, (aR, aN), (aB, aC), (aT, aU), aS, ⟨aK, aL, aQ, aY, aV, aZ⟩, ⟨al, aE, aG⟩, aW⟩
 have hno := down_no (m := ⟨aM, (aR, aN), (aB, aC), (aT, aU), aS, ⟨aK, aL, aQ, aY, aV, aZ⟩, ⟨al, aE, aG⟩, aW⟩)
 have hnn := down_none (m := ⟨aM, (aR, aN), (aB, aC), (aT, aU), aS, ⟨aK, aL, aQ, aY, aV, aZ⟩, ⟨al, aE, aG⟩, aW⟩)
 have hyes := down_yes (m := ⟨aM, (aR, aN), (aB, aC), (aT, aU), aS, ⟨aK, aL, aQ, aY, aV, aZ⟩, ⟨al, aE, aG⟩, aW⟩)
 obtain ⟨X, hX⟩ : ∃ X, oldMg ⟨aM, (aR, aN), (aB, aC), (aT, aU), aS, ⟨aK, aL, aQ, aY, aV, aZ⟩, ⟨al, aE, aG⟩, aW⟩ = X := ⟨_, rfl⟩
 have hX' := hX
 unfold oldMg at hX'
 simp only at hX'
 unfold DownIs
 rw [hX] at hwt hck hyes ⊢
 rw [hX'] at h2
 clear hX hX'
 have hnd : noOld ⟨aM, (aR, aN), (aB, aC), (aT, aU), aS, ⟨aK, aL, aQ, aY, aV, aZ⟩, ⟨al, aE, aG⟩, aW⟩ = (decide (aG = 2) || decide (aK = 6)) := rfl
 rw [hnd] at hnn hyes
 clear hnd
 obtain ⟨D, hD⟩ : ∃ D, refDown ⟨aM, (aR, aN), (aB, aC), (aT, aU), aS, ⟨aK, aL, aQ, aY, aV, aZ⟩, ⟨al, aE, aG⟩, aW⟩ = D := ⟨_, rfl⟩
 rw [hD] at hno hnn hyes ⊢
 clear hD
 generalize mright ⟨aM, (aR, aN), (aB, aC), (aT, aU), aS, ⟨aK, aL, aQ, aY, aV, aZ⟩, ⟨al, aE, aG⟩, aW⟩ = t at h1 h2 hwt hno hnn hyes
 have q2 : (aG == 2) = decide (aG = 2) := rfl
 have q6 : (aK == 6) = decide (aK = 6) := rfl
 generalize decide (aG = 2) = g2 at q2 hnn hyes
 generalize decide (aK = 6) = g6 at q6 hnn hyes
 have H1 := Lib.hid h1
 have H2 := Lib.hid h2
 have HWT := Lib.hid hwt
 have HCK := Lib.hid hck
 have HNO := Lib.hid hno
 have HNN := Lib.hid hnn
 have HYES := Lib.hid hyes
 clear h1 h2 hwt hck hno hnn hyes
 go_enter Tryz.func8, Tryz.ntmps8
 go_upto_region 1 with fail
 rw [HW.out]
 go_wp2_with (with_reducible refine wpList_load_blk_w 32 _ rfl w.heap.size 32 _ _ ?_ ?_ (HKa.out.bel HC.out) Tryz.underlying32 ?_ ?_ ?_; (focus kernel_rfl); (focus kernel_rfl); (focus rfl); (focus kernel_rfl))
 refine (H1.out _ (HRa.out.below HC.out)).mono ?_
 rintro e u1 ⟨rfl, hb1⟩
 replace HC := Lib.hid (bel_trans HC.out hb1)
 clear hb1
 cases t with
 | false =>
   go_wp2_with fail
   refine bodyPost_ret (v := .tuple #[.slice none 0 0, .int .i64 4]) (by simp [results, Tryz.results8, go_sem]) rfl ?_
   rw [HNO.out (by simp)]
   exact ⟨none, 0, 0, rfl, Rd.nil_ _, HB.out.trans (HC.out.mono HB.out.size), fun h => by cases h⟩
 | true =>
   have x8 := (HKa.out.bel HC.out).cell 8
   have x16 := (HKa.out.bel HC.out).cell 16
   simp at x8 x16
   cases g2 with
   | true =>
     go_wp2_with fail
     refine bodyPost_ret (v := .tuple #[.slice none 0 0, .int .i64 17]) (by simp [results, Tryz.results8, go_sem]) rfl ?_
     rw [HNN.out (by simp) (by simp)]
     exact ⟨none, 0, 0, rfl, Rd.nil_ _, HB.out.trans (HC.out.mono HB.out.size), fun h => by cases h⟩
   | false =>
     cases g6 with
     | true =>
       go_wp2_with fail
       refine bodyPost_ret (v := .tuple #[.slice none 0 0, .int .i64 17]) (by simp [results, Tryz.results8, go_sem]) rfl ?_
       rw [HNN.out (by simp) (by simp)]
       exact ⟨none, 0, 0, rfl, Rd.nil_ _, HB.out.trans (HC.out.mono HB.out.size), fun h => by cases h⟩
     | false =>
       go_wp2_with (with_reducible refine wpList_load_blk_w 32 _ rfl w.heap.size 32 _ _ ?_ ?_ (HKa.out.bel HC.out) Tryz.underlying32 ?_ ?_ ?_; (focus kernel_rfl); (focus kernel_rfl); (focus rfl); (focus kernel_rfl))
       refine (H2.out _ (HRa.out.below HC.out) (by simp)).mono ?_
       rintro e u2 ⟨V, d, rfl, hl, hb1⟩
       replace HC := Lib.hid (bel_trans HC.out hb1)
       have HF := Lib.hid (refframe_any 1 X V d _ u2 (by decide) HCK.out (HWT.out (by simp) hl.fit) hl (fun b hb => hb.2))
       have HFX := Lib.hid hl.fit
       clear hb1 hl x8 x16
       go_wp2_with fail
       refine HF.out.mono ?_
       rintro e u3 ⟨A, c, rfl, hr, hb1⟩
       replace HC := Lib.hid (bel_trans HC.out hb1)
       have HR := Lib.hid hr
       clear hr hb1
       go_wp2_with fail
       refine bodyPost_ret (v := .tuple #[.slice A (5 + (form X).length) c, .int .i64 0]) (by simp [results, Tryz.results8, go_sem]) rfl ?_
       rw [HYES.out (by simp) (by simp)]
       exact ⟨A, _, c, rfl, HR.out, HB.out.trans (HC.out.mono HB.out.size), fun _ => HFX.out⟩
end Go.Proofs.YthlhchaoedcdbaaGreatDoor.Mg
/- The document's Up: the message whose old form bytes are. -/
namespace Go.Proofs.YthlhchaoedcdbaaGreatDoor.Mg
open Go.RowKit Mem Ids Att Rk Cod
end Go.Proofs.YthlhchaoedcdbaaGreatDoor.Mg
/- The document's Read: what a program of a version reads of bytes. -/
namespace Go.Proofs.YthlhchaoedcdbaaGreatDoor.Mg
open Go.RowKit Mem Ids Att Rk Cod
end Go.Proofs.YthlhchaoedcdbaaGreatDoor.Mg
