/-
  Texts of earlier layers, as one.
-/
import Derived.Test.YthlhchaoedcdbaaGreatDoorRecSmall
import Derived.Test.YthlhchaoedcdbaaGreatDoorRStore
/- Messages, plainly: what each has by its kind, when one is right, when two are the same; plain mathematics, of no program. -/
namespace Go.Proofs.YthlhchaoedcdbaaGreatDoor.Mg
open Lib (hid)
open Rk
theorem blk18 {w : World} {g : Nat} {t : TypeId} {v0 v1 v2 v3 v4 v5 v6 v7 v8 v9 v10 v11 v12 v13 v14 v15 v16 v17 : Value} (h : Mem.Blk w g t #[v0, v1, v2, v3, v4, v5, v6, v7, v8, v9, v10, v11, v12, v13, v14, v15, v16, v17]) : w.cell? ⟨g, 0, none⟩ = some v0 ∧ w.cell? ⟨g, 1, none⟩ = some v1 ∧ w.cell? ⟨g, 2, none⟩ = some v2 ∧ w.cell? ⟨g, 3, none⟩ = some v3 ∧ w.cell? ⟨g, 4, none⟩ = some v4 ∧ w.cell? ⟨g, 5, none⟩ = some v5 ∧ w.cell? ⟨g, 6, none⟩ = some v6 ∧ w.cell? ⟨g, 7, none⟩ = some v7 ∧ w.cell? ⟨g, 8, none⟩ = some v8 ∧ w.cell? ⟨g, 9, none⟩ = some v9 ∧ w.cell? ⟨g, 10, none⟩ = some v10 ∧ w.cell? ⟨g, 11, none⟩ = some v11 ∧ w.cell? ⟨g, 12, none⟩ = some v12 ∧ w.cell? ⟨g, 13, none⟩ = some v13 ∧ w.cell? ⟨g, 14, none⟩ = some v14 ∧ w.cell? ⟨g, 15, none⟩ = some v15 ∧ w.cell? ⟨g, 16, none⟩ = some v16 ∧ w.cell? ⟨g, 17, none⟩ = some v17 :=
 ⟨h.cell 0, h.cell 1, h.cell 2, h.cell 3, h.cell 4, h.cell 5, h.cell 6, h.cell 7, h.cell 8, h.cell 9, h.cell 10, h.cell 11, h.cell 12, h.cell 13, h.cell 14, h.cell 15, h.cell 16, h.cell 17⟩
structure Mg where
 kd : Int
 id : Int × Int
 bl : Int × Int
 tk : Int × Int
 st : Int
 cm : Cmd.Cm
 at_ : Att.At
 vn : Int
def zeroMg : Mg := ⟨0, (0, 0), (0, 0), (0, 0), 0, Cmd.zeroCm, Att.zeroAt, 0⟩
def hId (m : Mg) : Bool := decide (1 ≤ m.kd) && decide (m.kd ≤ 8)
def hBal (m : Mg) : Bool := hId m && !decide (m.kd = 5)
def hCmd (m : Mg) : Bool := decide (m.kd = 1) || (decide (m.kd = 3) || (decide (m.kd = 5) || (decide (m.kd = 7) && !decide (m.st = 0))))
def hAt (m : Mg) : Bool := hCmd m || decide (m.kd = 2)
def recOf (m : Mg) : Rc := ⟨m.id, m.st, m.bl, m.tk, m.cm, m.at_⟩
def more (m : Mg) : Bool :=
 (!hId m && !decide (m.id = (0, 0))) || ((!hBal m && !decide (m.bl = (0, 0))) || ((!decide (m.kd = 7) && (!decide (m.st = 0) || !decide (m.tk = (0, 0)))) || ((!hCmd m && !Cmd.eqv m.cm Cmd.zeroCm) || (!decide (m.kd = 9) && !decide (m.vn = 0)))))
def hung (m : Mg) : Bool := !hAt m && (decide (0 < m.at_.dp.length) || (!decide (m.at_.sq = 0) || !decide (m.at_.tg = 0)))
def wrong (m : Mg) : Bool := (hId m && !Ids.right m.id) || ((hBal m && !Bal.right m.bl) || (hCmd m && !decide (Cmd.chk m.cm = 0)))
def wrongAt (m : Mg) : Bool := hAt m && (!decide (Att.achk m.at_ = 0) || decide (m.id ∈ m.at_.dp))
def mright (m : Mg) : Bool :=
 if (decide (m.kd < 1) || decide (9 < m.kd)) = true then false else if more m = true then false else if hung m = true then false else if wrong m = true then false else if wrongAt m = true then false
 else if m.kd = 7 then rgt (recOf m) else !decide (m.kd = 9) || (decide (m.vn = 1) || decide (m.vn = 2))
def msame (a b : Mg) : Bool :=
 decide (a.kd = b.kd) && (decide (a.id = b.id) && (decide (a.bl = b.bl) && (decide (a.tk = b.tk) && (decide (a.st = b.st) && (Cmd.eqv a.cm b.cm && (Att.asame a.at_ b.at_ && decide (a.vn = b.vn)))))))
theorem msame_iff {a b : Mg} : msame a b = true ↔ a = b := by
 obtain ⟨ak, ai, ab, at_, aw, ac, ⟨ad, aq, ag⟩, av⟩ := a;obtain ⟨bk, bi, bb, bt, bw, bc, ⟨bd, bq, bg⟩, bv⟩ := b;simp only [msame, Bool.and_eq_true, decide_eq_true_eq, Cmd.eqv_iff, Att.asame, Mg.mk.injEq, Att.At.mk.injEq];constructor
 · rintro ⟨h1, h2, h3, h4, h5, h6, ⟨h7, h8, h9⟩, h10⟩
   exact ⟨h1, h2, h3, h4, h5, h6, ⟨h9, h8, h7⟩, h10⟩
 · rintro ⟨h1, h2, h3, h4, h5, h6, ⟨h9, h8, h7⟩, h10⟩
   exact ⟨h1, h2, h3, h4, h5, h6, ⟨h7, h8, h9⟩, h10⟩
theorem msame_refl (a : Mg) : msame a a = true := msame_iff.2 rfl
end Go.Proofs.YthlhchaoedcdbaaGreatDoor.Mg
/- The document's id, bal, command, hangs, Great and Same of messages. -/
namespace Go.Proofs.YthlhchaoedcdbaaGreatDoor.Mg
open Lib (hid)
open Go.RowKit Mem Ids Att Rk
set_option maxRecDepth 20000 in
set_option maxHeartbeats 4000000 in
theorem id_any (aM aR aN aB aC aT aU aS aK aL aQ : Int) (aY aV : ByteArray) (aZ : Int) (aA : Option Addr) (an ac : Nat) (aE aG aW : Int) (al : List (Int × Int)) (w : World) :
 Calls Tryz.prog 49 #[.agg #[.int .i64 aM, .int .i64 aR, .int .i64 aN, .int .i64 aB, .int .i64 aC, .int .i64 aT, .int .i64 aU, .int .i64 aS, .int .i64 aK, .int .i64 aL, .int .i64 aQ, .string aY, .string aV, .int .i64 aZ, .slice aA an ac, .int .i64 aE, .int .i64 aG, .int .i64 aW]] w (Tells (hId ⟨aM, (aR, aN), (aB, aC), (aT, aU), aS, ⟨aK, aL, aQ, aY, aV, aZ⟩, ⟨al, aE, aG⟩, aW⟩) w) := by
 obtain ⟨k1, hbb⟩ := box1 w 32 #[.int .i64 aM, .int .i64 aR, .int .i64 aN, .int .i64 aB, .int .i64 aC, .int .i64 aT, .int .i64 aU, .int .i64 aS, .int .i64 aK, .int .i64 aL, .int .i64 aQ, .string aY, .string aV, .int .i64 aZ, .slice aA an ac, .int .i64 aE, .int .i64 aG, .int .i64 aW];obtain ⟨W, hW⟩ : ∃ v, w.alloc (.cells #[.int .i64 aM, .int .i64 aR, .int .i64 aN, .int .i64 aB, .int .i64 aC, .int .i64 aT, .int .i64 aU, .int .i64 aS, .int .i64 aK, .int .i64 aL, .int .i64 aQ, .string aY, .string aV, .int .i64 aZ, .slice aA an ac, .int .i64 aE, .int .i64 aG, .int .i64 aW] 32) = v := ⟨_, rfl⟩
 rw [hW] at k1 hbb;have HKa := hid k1;have HB := hid hbb;have HW := hid hW;have HC := hid (Below.refl W.heap.size W);clear hbb hW k1 ;obtain ⟨T, hT⟩ : ∃ T, hId ⟨aM, (aR, aN), (aB, aC), (aT, aU), aS, ⟨aK, aL, aQ, aY, aV, aZ⟩, ⟨al, aE, aG⟩, aW⟩ = T := ⟨_, rfl⟩
 rw [hT];unfold hId at hT;simp only at hT;obtain ⟨t1, c1⟩ : ∃ t, decide (1 ≤ aM) = t := ⟨_, rfl⟩
 obtain ⟨t2, c2⟩ : ∃ t, decide (aM ≤ 8) = t := ⟨_, rfl⟩
 rw [c1, c2] at hT;have HT := hid hT;clear hT;go_enter Tryz.func49, Tryz.ntmps49
 go_upto_region 1 with fail
 rw [HW.out];cases t1 with
 | false =>
   have xa0 := (HKa.out.bel HC.out).cell 0;simp at xa0;go_wp2_with fail
   go_ret;exact ⟨congrArg (fun b => Ending.returned (.bool b)) HT.out, HB.out.trans (HC.out.mono HB.out.size)⟩
 | true =>
   cases t2 with
   | false =>
     have xa0 := (HKa.out.bel HC.out).cell 0;simp at xa0;go_wp2_with fail
     go_ret;exact ⟨congrArg (fun b => Ending.returned (.bool b)) HT.out, HB.out.trans (HC.out.mono HB.out.size)⟩
   | true =>
     have xa0 := (HKa.out.bel HC.out).cell 0;simp at xa0;go_wp2_with fail
     go_ret;exact ⟨congrArg (fun b => Ending.returned (.bool b)) HT.out, HB.out.trans (HC.out.mono HB.out.size)⟩
set_option maxRecDepth 20000 in
set_option maxHeartbeats 4000000 in
theorem bal_any (aM aR aN aB aC aT aU aS aK aL aQ : Int) (aY aV : ByteArray) (aZ : Int) (aA : Option Addr) (an ac : Nat) (aE aG aW : Int) (al : List (Int × Int)) (w : World) :
 Calls Tryz.prog 50 #[.agg #[.int .i64 aM, .int .i64 aR, .int .i64 aN, .int .i64 aB, .int .i64 aC, .int .i64 aT, .int .i64 aU, .int .i64 aS, .int .i64 aK, .int .i64 aL, .int .i64 aQ, .string aY, .string aV, .int .i64 aZ, .slice aA an ac, .int .i64 aE, .int .i64 aG, .int .i64 aW]] w (Tells (hBal ⟨aM, (aR, aN), (aB, aC), (aT, aU), aS, ⟨aK, aL, aQ, aY, aV, aZ⟩, ⟨al, aE, aG⟩, aW⟩) w) := by
 obtain ⟨k1, hbb⟩ := box1 w 32 #[.int .i64 aM, .int .i64 aR, .int .i64 aN, .int .i64 aB, .int .i64 aC, .int .i64 aT, .int .i64 aU, .int .i64 aS, .int .i64 aK, .int .i64 aL, .int .i64 aQ, .string aY, .string aV, .int .i64 aZ, .slice aA an ac, .int .i64 aE, .int .i64 aG, .int .i64 aW];obtain ⟨W, hW⟩ : ∃ v, w.alloc (.cells #[.int .i64 aM, .int .i64 aR, .int .i64 aN, .int .i64 aB, .int .i64 aC, .int .i64 aT, .int .i64 aU, .int .i64 aS, .int .i64 aK, .int .i64 aL, .int .i64 aQ, .string aY, .string aV, .int .i64 aZ, .slice aA an ac, .int .i64 aE, .int .i64 aG, .int .i64 aW] 32) = v := ⟨_, rfl⟩
 rw [hW] at k1 hbb;have HKa := hid k1;have HB := hid hbb;have HW := hid hW;have HC := hid (Below.refl W.heap.size W);clear hbb hW k1 ;obtain ⟨T, hT⟩ : ∃ T, hBal ⟨aM, (aR, aN), (aB, aC), (aT, aU), aS, ⟨aK, aL, aQ, aY, aV, aZ⟩, ⟨al, aE, aG⟩, aW⟩ = T := ⟨_, rfl⟩
 rw [hT];unfold hBal at hT;simp only at hT;have H1 := hid (fun w => id_any aM aR aN aB aC aT aU aS aK aL aQ aY aV aZ aA an ac aE aG aW al w);generalize hId ⟨aM, (aR, aN), (aB, aC), (aT, aU), aS, ⟨aK, aL, aQ, aY, aV, aZ⟩, ⟨al, aE, aG⟩, aW⟩ = ti at hT H1;have c1 : (aM != 5) = !decide (aM = 5) := rfl;generalize (!decide (aM = 5)) = t2 at hT c1;have HT := hid hT;clear hT;go_enter Tryz.func50, Tryz.ntmps50
 go_upto_region 1 with fail
 rw [HW.out];have xa0 := (HKa.out.bel HC.out).cell 0;simp at xa0;go_wp2_with (first | (with_reducible refine wpList_load_blk_w 32 _ rfl w.heap.size 32 _ _ ?_ ?_ (HKa.out.bel HC.out) Tryz.underlying32 ?_ ?_ ?_; (focus kernel_rfl); (focus kernel_rfl); (focus rfl); (focus kernel_rfl)))
 refine (H1.out _).mono ?_;rintro e u1 ⟨rfl, hb1⟩;replace HC := hid (bel_trans HC.out hb1);clear hb1;clear xa0;cases ti with
 | false =>
   have xa0 := (HKa.out.bel HC.out).cell 0;simp at xa0;go_wp2_with fail
   go_ret;exact ⟨congrArg (fun b => Ending.returned (.bool b)) HT.out, HB.out.trans (HC.out.mono HB.out.size)⟩
 | true =>
   cases t2 with
   | false =>
     have xa0 := (HKa.out.bel HC.out).cell 0;simp at xa0;go_wp2_with fail
     go_ret;exact ⟨congrArg (fun b => Ending.returned (.bool b)) HT.out, HB.out.trans (HC.out.mono HB.out.size)⟩
   | true =>
     have xa0 := (HKa.out.bel HC.out).cell 0;simp at xa0;go_wp2_with fail
     go_ret;exact ⟨congrArg (fun b => Ending.returned (.bool b)) HT.out, HB.out.trans (HC.out.mono HB.out.size)⟩
set_option maxRecDepth 20000 in
set_option maxHeartbeats 4000000 in
theorem command_any (aM aR aN aB aC aT aU aS aK aL aQ : Int) (aY aV : ByteArray) (aZ : Int) (aA : Option Addr) (an ac : Nat) (aE aG aW : Int) (al : List (Int × Int)) (w : World) :
 Calls Tryz.prog 51 #[.agg #[.int .i64 aM, .int .i64 aR, .int .i64 aN, .int .i64 aB, .int .i64 aC, .int .i64 aT, .int .i64 aU, .int .i64 aS, .int .i64 aK, .int .i64 aL, .int .i64 aQ, .string aY, .string aV, .int .i64 aZ, .slice aA an ac, .int .i64 aE, .int .i64 aG, .int .i64 aW]] w (Tells (hCmd ⟨aM, (aR, aN), (aB, aC), (aT, aU), aS, ⟨aK, aL, aQ, aY, aV, aZ⟩, ⟨al, aE, aG⟩, aW⟩) w) := by
 obtain ⟨k1, hbb⟩ := box1 w 32 #[.int .i64 aM, .int .i64 aR, .int .i64 aN, .int .i64 aB, .int .i64 aC, .int .i64 aT, .int .i64 aU, .int .i64 aS, .int .i64 aK, .int .i64 aL, .int .i64 aQ, .string aY, .string aV, .int .i64 aZ, .slice aA an ac, .int .i64 aE, .int .i64 aG, .int .i64 aW];obtain ⟨W, hW⟩ : ∃ v, w.alloc (.cells #[.int .i64 aM, .int .i64 aR, .int .i64 aN, .int .i64 aB, .int .i64 aC, .int .i64 aT, .int .i64 aU, .int .i64 aS, .int .i64 aK, .int .i64 aL, .int .i64 aQ, .string aY, .string aV, .int .i64 aZ, .slice aA an ac, .int .i64 aE, .int .i64 aG, .int .i64 aW] 32) = v := ⟨_, rfl⟩
 rw [hW] at k1 hbb;have HKa := hid k1;have HB := hid hbb;have HW := hid hW;have HC := hid (Below.refl W.heap.size W);clear hbb hW k1 ;obtain ⟨T, hT⟩ : ∃ T, hCmd ⟨aM, (aR, aN), (aB, aC), (aT, aU), aS, ⟨aK, aL, aQ, aY, aV, aZ⟩, ⟨al, aE, aG⟩, aW⟩ = T := ⟨_, rfl⟩
 rw [hT];unfold hCmd at hT;simp only at hT;have c1 : (aM == 1) = decide (aM = 1) := rfl;have c2 : (aM == 3) = decide (aM = 3) := rfl;have c3 : (aM == 5) = decide (aM = 5) := rfl;have c4 : (aM == 7) = decide (aM = 7) := rfl;have c5 : (aS != 0) = !decide (aS = 0) := rfl;generalize decide (aM = 1) = t1 at hT c1;generalize decide (aM = 3) = t2 at hT c2;generalize decide (aM = 5) = t3 at hT c3;generalize decide (aM = 7) = t4 at hT c4;generalize (!decide (aS = 0)) = t5 at hT c5;have HT := hid hT;clear hT;go_enter Tryz.func51, Tryz.ntmps51
 go_upto_region 1 with fail
 rw [HW.out];cases t1 with
 | false =>
   cases t2 with
   | false =>
     cases t3 with
     | false =>
       cases t4 with
       | false =>
         have xa0 := (HKa.out.bel HC.out).cell 0;have xa7 := (HKa.out.bel HC.out).cell 7;simp at xa0 xa7;go_wp2_with fail
         go_ret;exact ⟨congrArg (fun b => Ending.returned (.bool b)) HT.out, HB.out.trans (HC.out.mono HB.out.size)⟩
       | true =>
         cases t5 with
         | false =>
           have xa0 := (HKa.out.bel HC.out).cell 0;have xa7 := (HKa.out.bel HC.out).cell 7;simp at xa0 xa7;go_wp2_with fail
           go_ret;exact ⟨congrArg (fun b => Ending.returned (.bool b)) HT.out, HB.out.trans (HC.out.mono HB.out.size)⟩
         | true =>
           have xa0 := (HKa.out.bel HC.out).cell 0;have xa7 := (HKa.out.bel HC.out).cell 7;simp at xa0 xa7;go_wp2_with fail
           go_ret;exact ⟨congrArg (fun b => Ending.returned (.bool b)) HT.out, HB.out.trans (HC.out.mono HB.out.size)⟩
     | true =>
       have xa0 := (HKa.out.bel HC.out).cell 0;have xa7 := (HKa.out.bel HC.out).cell 7;simp at xa0 xa7;go_wp2_with fail
       go_ret;exact ⟨congrArg (fun b => Ending.returned (.bool b)) HT.out, HB.out.trans (HC.out.mono HB.out.size)⟩
   | true =>
     have xa0 := (HKa.out.bel HC.out).cell 0;have xa7 := (HKa.out.bel HC.out).cell 7;simp at xa0 xa7;go_wp2_with fail
     go_ret;exact ⟨congrArg (fun b => Ending.returned (.bool b)) HT.out, HB.out.trans (HC.out.mono HB.out.size)⟩
 | true =>
   have xa0 := (HKa.out.bel HC.out).cell 0;have xa7 := (HKa.out.bel HC.out).cell 7;simp at xa0 xa7;go_wp2_with fail
   go_ret;exact ⟨congrArg (fun b => Ending.returned (.bool b)) HT.out, HB.out.trans (HC.out.mono HB.out.size)⟩
set_option maxRecDepth 20000 in
set_option maxHeartbeats 4000000 in
theorem hangs_any (aM aR aN aB aC aT aU aS aK aL aQ : Int) (aY aV : ByteArray) (aZ : Int) (aA : Option Addr) (an ac : Nat) (aE aG aW : Int) (al : List (Int × Int)) (w : World) :
 Calls Tryz.prog 52 #[.agg #[.int .i64 aM, .int .i64 aR, .int .i64 aN, .int .i64 aB, .int .i64 aC, .int .i64 aT, .int .i64 aU, .int .i64 aS, .int .i64 aK, .int .i64 aL, .int .i64 aQ, .string aY, .string aV, .int .i64 aZ, .slice aA an ac, .int .i64 aE, .int .i64 aG, .int .i64 aW]] w (Tells (hAt ⟨aM, (aR, aN), (aB, aC), (aT, aU), aS, ⟨aK, aL, aQ, aY, aV, aZ⟩, ⟨al, aE, aG⟩, aW⟩) w) := by
 obtain ⟨k1, hbb⟩ := box1 w 32 #[.int .i64 aM, .int .i64 aR, .int .i64 aN, .int .i64 aB, .int .i64 aC, .int .i64 aT, .int .i64 aU, .int .i64 aS, .int .i64 aK, .int .i64 aL, .int .i64 aQ, .string aY, .string aV, .int .i64 aZ, .slice aA an ac, .int .i64 aE, .int .i64 aG, .int .i64 aW];obtain ⟨W, hW⟩ : ∃ v, w.alloc (.cells #[.int .i64 aM, .int .i64 aR, .int .i64 aN, .int .i64 aB, .int .i64 aC, .int .i64 aT, .int .i64 aU, .int .i64 aS, .int .i64 aK, .int .i64 aL, .int .i64 aQ, .string aY, .string aV, .int .i64 aZ, .slice aA an ac, .int .i64 aE, .int .i64 aG, .int .i64 aW] 32) = v := ⟨_, rfl⟩
 rw [hW] at k1 hbb;have HKa := hid k1;have HB := hid hbb;have HW := hid hW;have HC := hid (Below.refl W.heap.size W);clear hbb hW k1 ;obtain ⟨T, hT⟩ : ∃ T, hAt ⟨aM, (aR, aN), (aB, aC), (aT, aU), aS, ⟨aK, aL, aQ, aY, aV, aZ⟩, ⟨al, aE, aG⟩, aW⟩ = T := ⟨_, rfl⟩
 rw [hT];unfold hAt at hT;simp only at hT;have H1 := hid (fun w => command_any aM aR aN aB aC aT aU aS aK aL aQ aY aV aZ aA an ac aE aG aW al w);generalize hCmd ⟨aM, (aR, aN), (aB, aC), (aT, aU), aS, ⟨aK, aL, aQ, aY, aV, aZ⟩, ⟨al, aE, aG⟩, aW⟩ = ti at hT H1;have c1 : (aM == 2) = decide (aM = 2) := rfl;generalize decide (aM = 2) = t2 at hT c1;have HT := hid hT;clear hT;go_enter Tryz.func52, Tryz.ntmps52
 go_upto_region 1 with fail
 rw [HW.out];have xa0 := (HKa.out.bel HC.out).cell 0;simp at xa0;go_wp2_with (first | (with_reducible refine wpList_load_blk_w 32 _ rfl w.heap.size 32 _ _ ?_ ?_ (HKa.out.bel HC.out) Tryz.underlying32 ?_ ?_ ?_; (focus kernel_rfl); (focus kernel_rfl); (focus rfl); (focus kernel_rfl)))
 refine (H1.out _).mono ?_;rintro e u1 ⟨rfl, hb1⟩;replace HC := hid (bel_trans HC.out hb1);clear hb1;clear xa0;cases ti with
 | false =>
   cases t2 with
   | false =>
     have xa0 := (HKa.out.bel HC.out).cell 0;simp at xa0;go_wp2_with fail
     go_ret;exact ⟨congrArg (fun b => Ending.returned (.bool b)) HT.out, HB.out.trans (HC.out.mono HB.out.size)⟩
   | true =>
     have xa0 := (HKa.out.bel HC.out).cell 0;simp at xa0;go_wp2_with fail
     go_ret;exact ⟨congrArg (fun b => Ending.returned (.bool b)) HT.out, HB.out.trans (HC.out.mono HB.out.size)⟩
 | true =>
   have xa0 := (HKa.out.bel HC.out).cell 0;simp at xa0;go_wp2_with fail
   go_ret;exact ⟨congrArg (fun b => Ending.returned (.bool b)) HT.out, HB.out.trans (HC.out.mono HB.out.size)⟩
set_option maxRecDepth 20000 in
set_option maxHeartbeats 4000000 in
theorem refmsame_any (aM aR aN aB aC aT aU aS aK aL aQ : Int) (aY aV : ByteArray) (aZ : Int) (aA : Option Addr) (an ac : Nat) (aE aG aW : Int) (al : List (Int × Int)) (bM bR bN bB bC bT bU bS bK bL bQ : Int) (bY bV : ByteArray) (bZ : Int) (bA : Option Addr) (bn bc : Nat) (bE bG bW : Int) (bl : List (Int × Int)) (w : World) (ha : Rs w aA an ac al) (hb : Rs w bA bn bc bl) :
 Calls Tryz.prog 17 #[.agg #[.int .i64 aM, .int .i64 aR, .int .i64 aN, .int .i64 aB, .int .i64 aC, .int .i64 aT, .int .i64 aU, .int .i64 aS, .int .i64 aK, .int .i64 aL, .int .i64 aQ, .string aY, .string aV, .int .i64 aZ, .slice aA an ac, .int .i64 aE, .int .i64 aG, .int .i64 aW], .agg #[.int .i64 bM, .int .i64 bR, .int .i64 bN, .int .i64 bB, .int .i64 bC, .int .i64 bT, .int .i64 bU, .int .i64 bS, .int .i64 bK, .int .i64 bL, .int .i64 bQ, .string bY, .string bV, .int .i64 bZ, .slice bA bn bc, .int .i64 bE, .int .i64 bG, .int .i64 bW]] w (Tells (msame ⟨aM, (aR, aN), (aB, aC), (aT, aU), aS, ⟨aK, aL, aQ, aY, aV, aZ⟩, ⟨al, aE, aG⟩, aW⟩ ⟨bM, (bR, bN), (bB, bC), (bT, bU), bS, ⟨bK, bL, bQ, bY, bV, bZ⟩, ⟨bl, bE, bG⟩, bW⟩) w) := by
 obtain ⟨k1, k2, hbb⟩ := two_boxes w 32 #[.int .i64 aM, .int .i64 aR, .int .i64 aN, .int .i64 aB, .int .i64 aC, .int .i64 aT, .int .i64 aU, .int .i64 aS, .int .i64 aK, .int .i64 aL, .int .i64 aQ, .string aY, .string aV, .int .i64 aZ, .slice aA an ac, .int .i64 aE, .int .i64 aG, .int .i64 aW] #[.int .i64 bM, .int .i64 bR, .int .i64 bN, .int .i64 bB, .int .i64 bC, .int .i64 bT, .int .i64 bU, .int .i64 bS, .int .i64 bK, .int .i64 bL, .int .i64 bQ, .string bY, .string bV, .int .i64 bZ, .slice bA bn bc, .int .i64 bE, .int .i64 bG, .int .i64 bW];obtain ⟨W, hW⟩ : ∃ v, (w.alloc (.cells #[.int .i64 aM, .int .i64 aR, .int .i64 aN, .int .i64 aB, .int .i64 aC, .int .i64 aT, .int .i64 aU, .int .i64 aS, .int .i64 aK, .int .i64 aL, .int .i64 aQ, .string aY, .string aV, .int .i64 aZ, .slice aA an ac, .int .i64 aE, .int .i64 aG, .int .i64 aW] 32)).alloc (.cells #[.int .i64 bM, .int .i64 bR, .int .i64 bN, .int .i64 bB, .int .i64 bC, .int .i64 bT, .int .i64 bU, .int .i64 bS, .int .i64 bK, .int .i64 bL, .int .i64 bQ, .string bY, .string bV, .int .i64 bZ, .slice bA bn bc, .int .i64 bE, .int .i64 bG, .int .i64 bW] 32) = v := ⟨_, rfl⟩
 rw [hW] at k1 k2 hbb;have HKa := hid k1;have HKb := hid k2;have HB := hid hbb;have HW := hid hW;have HC := hid (Below.refl W.heap.size W);have HRa := hid (ha.below hbb);have HRb := hid (hb.below hbb);clear hbb hW k1 k2 ha hb;obtain ⟨T, hT⟩ : ∃ T, msame ⟨aM, (aR, aN), (aB, aC), (aT, aU), aS, ⟨aK, aL, aQ, aY, aV, aZ⟩, ⟨al, aE, aG⟩, aW⟩ ⟨bM, (bR, bN), (bB, bC), (bT, bU), bS, ⟨bK, bL, bQ, bY, bV, bZ⟩, ⟨bl, bE, bG⟩, bW⟩ = T := ⟨_, rfl⟩
 rw [hT];unfold msame at hT;simp only at hT;have c0 : (aM == bM) = decide (aM = bM) := rfl;have c4 : (aS == bS) = decide (aS = bS) := rfl;have c7 : (aW == bW) = decide (aW = bW) := rfl;have c1 := fun w => eql_id (aR, aN) (bR, bN) w;have c2 := fun w => Bal.eql_bal (aB, aC) (bB, bC) w;have c3 := fun w => Bal.eql_bal (aT, aU) (bT, bU) w;simp only at c1 c2 c3;have c5 := fun w => Cw.eql_cmd aK aL aQ aY aV aZ bK bL bQ bY bV bZ w;have H1 := hid (fun w (h : Rs w aA an ac al) (h' : Rs w bA bn bc bl) => refasame_any al aE aG aA an ac bl bE bG bA bn bc w h h');generalize decide (aM = bM) = t0 at hT c0;generalize decide (((aR, aN) : Int × Int) = (bR, bN)) = t1 at c1 hT;generalize decide (((aB, aC) : Int × Int) = (bB, bC)) = t2 at c2 hT;generalize decide (((aT, aU) : Int × Int) = (bT, bU)) = t3 at c3 hT;generalize decide (aS = bS) = t4 at hT c4;generalize Cmd.eqv ⟨aK, aL, aQ, aY, aV, aZ⟩ ⟨bK, bL, bQ, bY, bV, bZ⟩ = t5 at c5 hT;generalize asame ⟨al, aE, aG⟩ ⟨bl, bE, bG⟩ = t6 at H1 hT;generalize decide (aW = bW) = t7 at hT c7;have HT := hid hT;clear hT;go_enter Tryz.func17, Tryz.ntmps17
 go_upto_region 1 with fail
 rw [HW.out];cases t0 with
 | false =>
   obtain ⟨xa0, xa1, xa2, xa3, xa4, xa5, xa6, xa7, xa8, xa9, xa10, xa11, xa12, xa13, xa14, xa15, xa16, xa17⟩ := blk18 (HKa.out.bel HC.out);obtain ⟨xb0, xb1, xb2, xb3, xb4, xb5, xb6, xb7, xb8, xb9, xb10, xb11, xb12, xb13, xb14, xb15, xb16, xb17⟩ := blk18 (HKb.out.bel HC.out);go_wp2_with fail
   go_ret;exact ⟨congrArg (fun b => Ending.returned (.bool b)) HT.out, HB.out.trans (HC.out.mono HB.out.size)⟩
 | true =>
   cases t1 with
   | false =>
     obtain ⟨xa0, xa1, xa2, xa3, xa4, xa5, xa6, xa7, xa8, xa9, xa10, xa11, xa12, xa13, xa14, xa15, xa16, xa17⟩ := blk18 (HKa.out.bel HC.out);obtain ⟨xb0, xb1, xb2, xb3, xb4, xb5, xb6, xb7, xb8, xb9, xb10, xb11, xb12, xb13, xb14, xb15, xb16, xb17⟩ := blk18 (HKb.out.bel HC.out);go_wp2_with fail
     go_ret;exact ⟨congrArg (fun b => Ending.returned (.bool b)) HT.out, HB.out.trans (HC.out.mono HB.out.size)⟩
   | true =>
     cases t2 with
     | false =>
       obtain ⟨xa0, xa1, xa2, xa3, xa4, xa5, xa6, xa7, xa8, xa9, xa10, xa11, xa12, xa13, xa14, xa15, xa16, xa17⟩ := blk18 (HKa.out.bel HC.out);obtain ⟨xb0, xb1, xb2, xb3, xb4, xb5, xb6, xb7, xb8, xb9, xb10, xb11, xb12, xb13, xb14, xb15, xb16, xb17⟩ := blk18 (HKb.out.bel HC.out);go_wp2_with fail
       go_ret;exact ⟨congrArg (fun b => Ending.returned (.bool b)) HT.out, HB.out.trans (HC.out.mono HB.out.size)⟩
     | true =>
       cases t3 with
       | false =>
         obtain ⟨xa0, xa1, xa2, xa3, xa4, xa5, xa6, xa7, xa8, xa9, xa10, xa11, xa12, xa13, xa14, xa15, xa16, xa17⟩ := blk18 (HKa.out.bel HC.out);obtain ⟨xb0, xb1, xb2, xb3, xb4, xb5, xb6, xb7, xb8, xb9, xb10, xb11, xb12, xb13, xb14, xb15, xb16, xb17⟩ := blk18 (HKb.out.bel HC.out);go_wp2_with fail
         go_ret;exact ⟨congrArg (fun b => Ending.returned (.bool b)) HT.out, HB.out.trans (HC.out.mono HB.out.size)⟩
       | true =>
         cases t4 with
         | false =>
           obtain ⟨xa0, xa1, xa2, xa3, xa4, xa5, xa6, xa7, xa8, xa9, xa10, xa11, xa12, xa13, xa14, xa15, xa16, xa17⟩ := blk18 (HKa.out.bel HC.out);obtain ⟨xb0, xb1, xb2, xb3, xb4, xb5, xb6, xb7, xb8, xb9, xb10, xb11, xb12, xb13, xb14, xb15, xb16, xb17⟩ := blk18 (HKb.out.bel HC.out);go_wp2_with fail
           go_ret;exact ⟨congrArg (fun b => Ending.returned (.bool b)) HT.out, HB.out.trans (HC.out.mono HB.out.size)⟩
         | true =>
           cases t5 with
           | false =>
             obtain ⟨xa0, xa1, xa2, xa3, xa4, xa5, xa6, xa7, xa8, xa9, xa10, xa11, xa12, xa13, xa14, xa15, xa16, xa17⟩ := blk18 (HKa.out.bel HC.out);obtain ⟨xb0, xb1, xb2, xb3, xb4, xb5, xb6, xb7, xb8, xb9, xb10, xb11, xb12, xb13, xb14, xb15, xb16, xb17⟩ := blk18 (HKb.out.bel HC.out);go_wp2_with fail
             go_ret;exact ⟨congrArg (fun b => Ending.returned (.bool b)) HT.out, HB.out.trans (HC.out.mono HB.out.size)⟩
           | true =>
             obtain ⟨xa0, xa1, xa2, xa3, xa4, xa5, xa6, xa7, xa8, xa9, xa10, xa11, xa12, xa13, xa14, xa15, xa16, xa17⟩ := blk18 (HKa.out.bel HC.out);obtain ⟨xb0, xb1, xb2, xb3, xb4, xb5, xb6, xb7, xb8, xb9, xb10, xb11, xb12, xb13, xb14, xb15, xb16, xb17⟩ := blk18 (HKb.out.bel HC.out);go_wp2_with fail
             refine (H1.out _ (HRa.out.below HC.out) (HRb.out.below HC.out)).mono ?_;rintro e u1 ⟨rfl, hb1⟩;replace HC := hid (bel_trans HC.out hb1);clear hb1;clear xa0 xa1 xa2 xa3 xa4 xa5 xa6 xa7 xa8 xa9 xa10 xa11 xa12 xa13 xa14 xa15 xa16 xa17;clear xb0 xb1 xb2 xb3 xb4 xb5 xb6 xb7 xb8 xb9 xb10 xb11 xb12 xb13 xb14 xb15 xb16 xb17;cases t6 with
             | false =>
               obtain ⟨xa0, xa1, xa2, xa3, xa4, xa5, xa6, xa7, xa8, xa9, xa10, xa11, xa12, xa13, xa14, xa15, xa16, xa17⟩ := blk18 (HKa.out.bel HC.out);obtain ⟨xb0, xb1, xb2, xb3, xb4, xb5, xb6, xb7, xb8, xb9, xb10, xb11, xb12, xb13, xb14, xb15, xb16, xb17⟩ := blk18 (HKb.out.bel HC.out);go_wp2_with fail
               go_ret;exact ⟨congrArg (fun b => Ending.returned (.bool b)) HT.out, HB.out.trans (HC.out.mono HB.out.size)⟩
             | true =>
               cases t7 with
               | false =>
                 obtain ⟨xa0, xa1, xa2, xa3, xa4, xa5, xa6, xa7, xa8, xa9, xa10, xa11, xa12, xa13, xa14, xa15, xa16, xa17⟩ := blk18 (HKa.out.bel HC.out);obtain ⟨xb0, xb1, xb2, xb3, xb4, xb5, xb6, xb7, xb8, xb9, xb10, xb11, xb12, xb13, xb14, xb15, xb16, xb17⟩ := blk18 (HKb.out.bel HC.out);go_wp2_with fail
                 go_ret;exact ⟨congrArg (fun b => Ending.returned (.bool b)) HT.out, HB.out.trans (HC.out.mono HB.out.size)⟩
               | true =>
                 obtain ⟨xa0, xa1, xa2, xa3, xa4, xa5, xa6, xa7, xa8, xa9, xa10, xa11, xa12, xa13, xa14, xa15, xa16, xa17⟩ := blk18 (HKa.out.bel HC.out);obtain ⟨xb0, xb1, xb2, xb3, xb4, xb5, xb6, xb7, xb8, xb9, xb10, xb11, xb12, xb13, xb14, xb15, xb16, xb17⟩ := blk18 (HKb.out.bel HC.out);go_wp2_with fail
                 go_ret;exact ⟨congrArg (fun b => Ending.returned (.bool b)) HT.out, HB.out.trans (HC.out.mono HB.out.size)⟩
end Go.Proofs.YthlhchaoedcdbaaGreatDoor.Mg
