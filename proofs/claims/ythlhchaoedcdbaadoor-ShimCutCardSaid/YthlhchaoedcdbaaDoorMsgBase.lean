/-
  Texts of earlier layers, as one.
-/
import Derived.Test.YthlhchaoedcdbaaDoorRecSmall
import Derived.Test.YthlhchaoedcdbaaDoorRStore
/- Messages, plainly: what each has by its kind, when one is right, when two are the same; plain mathematics, of no program. -/
namespace Go.Proofs.YthlhchaoedcdbaaDoor.Mg
open Rk

theorem blk18 {w : World} {g : Nat} {t : TypeId} {v0 v1 v2 v3 v4 v5 v6 v7 v8 v9 v10 v11 v12 v13 v14 v15 v16 v17 : Value} (h : Mem.Blk w g t #[v0, v1, v2, v3, v4, v5, v6, v7, v8, v9, v10, v11, v12, v13, v14, v15, v16, v17]) : w.cell? ⟨g, 0, none⟩ = some v0 ∧ w.cell? ⟨g, 1, none⟩ = some v1 ∧ w.cell? ⟨g, 2, none⟩ = some v2 ∧ w.cell? ⟨g, 3, none⟩ = some v3 ∧ w.cell? ⟨g, 4, none⟩ = some v4 ∧ w.cell? ⟨g, 5, none⟩ = some v5 ∧ w.cell? ⟨g, 6, none⟩ = some v6 ∧ w.cell? ⟨g, 7, none⟩ = some v7 ∧ w.cell? ⟨g, 8, none⟩ = some v8 ∧ w.cell? ⟨g, 9, none⟩ = some v9 ∧ w.cell? ⟨g, 10, none⟩ = some v10 ∧ w.cell? ⟨g, 11, none⟩ = some v11 ∧ w.cell? ⟨g, 12, none⟩ = some v12 ∧ w.cell? ⟨g, 13, none⟩ = some v13 ∧ w.cell? ⟨g, 14, none⟩ = some v14 ∧ w.cell? ⟨g, 15, none⟩ = some v15 ∧ w.cell? ⟨g, 16, none⟩ = some v16 ∧ w.cell? ⟨g, 17, none⟩ = some v17 :=
  ⟨h.cell 0, h.cell 1, h.cell 2, h.cell 3, h.cell 4, h.cell 5, h.cell 6, h.cell 7, h.cell 8, h.cell 9, h.cell 10, h.cell 11, h.cell 12, h.cell 13, h.cell 14, h.cell 15, h.cell 16, h.cell 17⟩
/-- A message: its kind, id, what is promised and what was taken, the state, the command, what it hangs on and the version. -/
structure Mg where
  kd : Int
  id : Int × Int
  bl : Int × Int
  tk : Int × Int
  st : Int
  cm : Cmd.Cm
  at_ : Att.At
  vn : Int
def zeroMg : Mg := ⟨0, (0, 0), (0, 0), (0, 0), 0, Cmd.zeroCm, Att.zeroAt, 0⟩
def hId (m : Mg) : Bool := decide (1 ≤ m.kd) && decide (m.kd ≤ 8)
def hBal (m : Mg) : Bool := hId m && !decide (m.kd = 5)
def hCmd (m : Mg) : Bool := decide (m.kd = 1) || (decide (m.kd = 3) || (decide (m.kd = 5) || (decide (m.kd = 7) && !decide (m.st = 0))))
def hAt (m : Mg) : Bool := hCmd m || decide (m.kd = 2)
/-- The record that it has. -/
def recOf (m : Mg) : Rc := ⟨m.id, m.st, m.bl, m.tk, m.cm, m.at_⟩
/-- It has what isn't its kind's. -/
def more (m : Mg) : Bool :=
  (!hId m && !decide (m.id = (0, 0))) || ((!hBal m && !decide (m.bl = (0, 0))) || ((!decide (m.kd = 7) && (!decide (m.st = 0) || !decide (m.tk = (0, 0)))) || ((!hCmd m && !Cmd.eqv m.cm Cmd.zeroCm) || (!decide (m.kd = 9) && !decide (m.vn = 0)))))
def hung (m : Mg) : Bool := !hAt m && (decide (0 < m.at_.dp.length) || (!decide (m.at_.sq = 0) || !decide (m.at_.tg = 0)))
/-- What it has isn't right. -/
def wrong (m : Mg) : Bool := (hId m && !Ids.right m.id) || ((hBal m && !Bal.right m.bl) || (hCmd m && !decide (Cmd.chk m.cm = 0)))
def wrongAt (m : Mg) : Bool := hAt m && (!decide (Att.achk m.at_ = 0) || decide (m.id ∈ m.at_.dp))
def mright (m : Mg) : Bool :=
  if (decide (m.kd < 1) || decide (9 < m.kd)) = true then false else if more m = true then false else if hung m = true then false else if wrong m = true then false else if wrongAt m = true then false
  else if m.kd = 7 then rgt (recOf m) else !decide (m.kd = 9) || (decide (m.vn = 1) || decide (m.vn = 2))
def msame (a b : Mg) : Bool :=
  decide (a.kd = b.kd) && (decide (a.id = b.id) && (decide (a.bl = b.bl) && (decide (a.tk = b.tk) && (decide (a.st = b.st) && (Cmd.eqv a.cm b.cm && (Att.asame a.at_ b.at_ && decide (a.vn = b.vn)))))))
theorem msame_iff {a b : Mg} : msame a b = true ↔ a = b := by
  obtain ⟨ak, ai, ab, at_, aw, ac, ⟨ad, aq, ag⟩, av⟩ := a
  obtain ⟨bk, bi, bb, bt, bw, bc, ⟨bd, bq, bg⟩, bv⟩ := b
  simp only [msame, Bool.and_eq_true, decide_eq_true_eq, Cmd.eqv_iff, Att.asame, Mg.mk.injEq, Att.At.mk.injEq]
  constructor
  · rintro ⟨h1, h2, h3, h4, h5, h6, ⟨h7, h8, h9⟩, h10⟩
    exact ⟨h1, h2, h3, h4, h5, h6, ⟨h9, h8, h7⟩, h10⟩
  · rintro ⟨h1, h2, h3, h4, h5, h6, ⟨h9, h8, h7⟩, h10⟩
    exact ⟨h1, h2, h3, h4, h5, h6, ⟨h7, h8, h9⟩, h10⟩
theorem msame_refl (a : Mg) : msame a a = true := msame_iff.2 rfl
def great (m : Mg) : Bool := decide (m.at_.dp.length > 60) || Cmd.great m.cm
end Go.Proofs.YthlhchaoedcdbaaDoor.Mg
/- The document's id, bal, command, hangs, Great and Same of messages. -/
namespace Go.Proofs.YthlhchaoedcdbaaDoor.Mg
open Go.RowKit Mem Ids Att Rk

set_option maxRecDepth 20000 in
set_option maxHeartbeats 4000000 in
theorem great_any (aM aR aN aB aC aT aU aS aK aL aQ : Int) (aY aV : ByteArray) (aZ : Int) (aA : Option Addr) (an ac : Nat) (aE aG aW : Int) (al : List (Int × Int)) (w : World) (ha : Rs w aA an ac al) :
    Calls Tryd.prog 5 #[.agg #[.int .i64 aM, .int .i64 aR, .int .i64 aN, .int .i64 aB, .int .i64 aC, .int .i64 aT, .int .i64 aU, .int .i64 aS, .int .i64 aK, .int .i64 aL, .int .i64 aQ, .string aY, .string aV, .int .i64 aZ, .slice aA an ac, .int .i64 aE, .int .i64 aG, .int .i64 aW]] w (Tells (great ⟨aM, (aR, aN), (aB, aC), (aT, aU), aS, ⟨aK, aL, aQ, aY, aV, aZ⟩, ⟨al, aE, aG⟩, aW⟩) w) := by
  obtain ⟨k1, hbb⟩ := box1 w 32 #[.int .i64 aM, .int .i64 aR, .int .i64 aN, .int .i64 aB, .int .i64 aC, .int .i64 aT, .int .i64 aU, .int .i64 aS, .int .i64 aK, .int .i64 aL, .int .i64 aQ, .string aY, .string aV, .int .i64 aZ, .slice aA an ac, .int .i64 aE, .int .i64 aG, .int .i64 aW]
  obtain ⟨W, hW⟩ : ∃ v, w.alloc (.cells #[.int .i64 aM, .int .i64 aR, .int .i64 aN, .int .i64 aB, .int .i64 aC, .int .i64 aT, .int .i64 aU, .int .i64 aS, .int .i64 aK, .int .i64 aL, .int .i64 aQ, .string aY, .string aV, .int .i64 aZ, .slice aA an ac, .int .i64 aE, .int .i64 aG, .int .i64 aW] 32) = v := ⟨_, rfl⟩
  rw [hW] at k1 hbb
  have HKa := Lib.hid k1
  have HB := Lib.hid hbb
  have HW := Lib.hid hW
  have HC := Lib.hid (Below.refl W.heap.size W)
  have HRa := Lib.hid (ha.below hbb)
  clear hbb hW k1 ha
  obtain ⟨T, hT⟩ : ∃ T, great ⟨aM, (aR, aN), (aB, aC), (aT, aU), aS, ⟨aK, aL, aQ, aY, aV, aZ⟩, ⟨al, aE, aG⟩, aW⟩ = T := ⟨_, rfl⟩
  rw [hT]
  unfold great at hT
  simp only at hT
  have H1 := Lib.hid (fun w => Cw.great_any aK aL aQ aY aV aZ w)
  generalize Cmd.great ⟨aK, aL, aQ, aY, aV, aZ⟩ = t2 at H1 hT
  rw [HRa.out.len] at hT
  have c1 : decide ((60 : Int) < (an : Int)) = decide (an > 60) := by by_cases h : an > 60 <;> simp [h] <;> omega
  generalize decide (an > 60) = t1 at hT c1
  have HT := Lib.hid hT
  clear hT
  go_enter Tryd.func5, Tryd.ntmps5
  go_upto_region 1 with fail
  rw [HW.out]
  cases t1 with
  | false =>
    have xa8 := (HKa.out.bel HC.out).cell 8
    have xa9 := (HKa.out.bel HC.out).cell 9
    have xa10 := (HKa.out.bel HC.out).cell 10
    have xa11 := (HKa.out.bel HC.out).cell 11
    have xa12 := (HKa.out.bel HC.out).cell 12
    have xa13 := (HKa.out.bel HC.out).cell 13
    have xa14 := (HKa.out.bel HC.out).cell 14
    simp at xa8 xa9 xa10 xa11 xa12 xa13 xa14
    go_wp2_with fail
    refine (H1.out _).mono ?_
    rintro e u1 ⟨rfl, hb1⟩
    replace HC := Lib.hid (bel_trans HC.out hb1)
    clear hb1
    clear xa8 xa9 xa10 xa11 xa12 xa13 xa14
    cases t2 with
    | false =>
      have xa8 := (HKa.out.bel HC.out).cell 8
      have xa9 := (HKa.out.bel HC.out).cell 9
      have xa10 := (HKa.out.bel HC.out).cell 10
      have xa11 := (HKa.out.bel HC.out).cell 11
      have xa12 := (HKa.out.bel HC.out).cell 12
      have xa13 := (HKa.out.bel HC.out).cell 13
      have xa14 := (HKa.out.bel HC.out).cell 14
      simp at xa8 xa9 xa10 xa11 xa12 xa13 xa14
      go_wp2_with fail
      go_ret
      exact ⟨congrArg (fun b => Ending.returned (.bool b)) HT.out, HB.out.trans (HC.out.mono HB.out.size)⟩
    | true =>
      have xa8 := (HKa.out.bel HC.out).cell 8
      have xa9 := (HKa.out.bel HC.out).cell 9
      have xa10 := (HKa.out.bel HC.out).cell 10
      have xa11 := (HKa.out.bel HC.out).cell 11
      have xa12 := (HKa.out.bel HC.out).cell 12
      have xa13 := (HKa.out.bel HC.out).cell 13
      have xa14 := (HKa.out.bel HC.out).cell 14
      simp at xa8 xa9 xa10 xa11 xa12 xa13 xa14
      go_wp2_with fail
      go_ret
      exact ⟨congrArg (fun b => Ending.returned (.bool b)) HT.out, HB.out.trans (HC.out.mono HB.out.size)⟩
  | true =>
    have xa8 := (HKa.out.bel HC.out).cell 8
    have xa9 := (HKa.out.bel HC.out).cell 9
    have xa10 := (HKa.out.bel HC.out).cell 10
    have xa11 := (HKa.out.bel HC.out).cell 11
    have xa12 := (HKa.out.bel HC.out).cell 12
    have xa13 := (HKa.out.bel HC.out).cell 13
    have xa14 := (HKa.out.bel HC.out).cell 14
    simp at xa8 xa9 xa10 xa11 xa12 xa13 xa14
    go_wp2_with fail
    go_ret
    exact ⟨congrArg (fun b => Ending.returned (.bool b)) HT.out, HB.out.trans (HC.out.mono HB.out.size)⟩
end Go.Proofs.YthlhchaoedcdbaaDoor.Mg
