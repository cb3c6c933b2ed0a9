/-
  Texts of earlier layers, as one.
-/
import Derived.Test.YthlhchaoedcdbaaGreatDoorRAtt
import Derived.Test.YthlhchaoedcdbaaGreatDoorRBal
import Derived.Test.YthlhchaoedcdbaaGreatDoorRCmdR
/- Records, plainly: when one is right, when two are the same, when one goes on from another; plain mathematics, of no program. -/
namespace Go.Proofs.YthlhchaoedcdbaaGreatDoor.Rk
open Lib (hid)
structure Rc where
 id : Int × Int
 st : Int
 bl : Int × Int
 tk : Int × Int
 cm : Cmd.Cm
 at_ : Att.At
def zeroRc : Rc := ⟨(0, 0), 0, (0, 0), (0, 0), Cmd.zeroCm, Att.zeroAt⟩
def offer (a b : Rc) : Bool := Cmd.eqv a.cm b.cm && Att.asame a.at_ b.at_
def promised (b t : Int × Int) : Bool := Bal.right b && Bal.right t && !Bal.less b t
def filled (r : Rc) : Bool :=
 if r.st = 0 then decide (r.tk = (0, 0)) && offer r zeroRc
 else if r.st = 1 ∨ r.st = 2 ∨ r.st = 3 then decide (Cmd.chk r.cm = 0) && decide (Att.achk r.at_ = 0) && !decide (r.id ∈ r.at_.dp)
 else false
def rgt (r : Rc) : Bool := Ids.right r.id && promised r.bl r.tk && filled r
def rchk (r : Rc) : Int := if rgt r = true then 0 else 4
theorem offer_iff {a b : Rc} : offer a b = true ↔ a.cm = b.cm ∧ a.at_ = b.at_ := by
 obtain ⟨_, _, _, _, ac, ⟨ad, aq, ag⟩⟩ := a;obtain ⟨_, _, _, _, bc, ⟨bd, bs, bg⟩⟩ := b;simp only [offer, Bool.and_eq_true, Cmd.eqv_iff, Att.asame, decide_eq_true_eq, Att.At.mk.injEq];constructor
 · rintro ⟨h1, h2, h3, h4⟩
   exact ⟨h1, h4, h3, h2⟩
 · rintro ⟨h1, h2, h3, h4⟩
   exact ⟨h1, h4, h3, h2⟩
end Go.Proofs.YthlhchaoedcdbaaGreatDoor.Rk
/- rec.promised, sameOffer, filled, Check, Same and GoesOn, and the document's Right, Same and GoesOn. -/
namespace Go.Proofs.YthlhchaoedcdbaaGreatDoor.Rk
open Lib (hid)
open Go.RowKit Mem Ids Att
theorem blk16 {w : World} {g : Nat} {t : TypeId} {v0 v1 v2 v3 v4 v5 v6 v7 v8 v9 v10 v11 v12 v13 v14 v15 : Value} (h : Blk w g t #[v0, v1, v2, v3, v4, v5, v6, v7, v8, v9, v10, v11, v12, v13, v14, v15]) : w.cell? ⟨g, 0, none⟩ = some v0 ∧ w.cell? ⟨g, 1, none⟩ = some v1 ∧ w.cell? ⟨g, 2, none⟩ = some v2 ∧ w.cell? ⟨g, 3, none⟩ = some v3 ∧ w.cell? ⟨g, 4, none⟩ = some v4 ∧ w.cell? ⟨g, 5, none⟩ = some v5 ∧ w.cell? ⟨g, 6, none⟩ = some v6 ∧ w.cell? ⟨g, 7, none⟩ = some v7 ∧ w.cell? ⟨g, 8, none⟩ = some v8 ∧ w.cell? ⟨g, 9, none⟩ = some v9 ∧ w.cell? ⟨g, 10, none⟩ = some v10 ∧ w.cell? ⟨g, 11, none⟩ = some v11 ∧ w.cell? ⟨g, 12, none⟩ = some v12 ∧ w.cell? ⟨g, 13, none⟩ = some v13 ∧ w.cell? ⟨g, 14, none⟩ = some v14 ∧ w.cell? ⟨g, 15, none⟩ = some v15 :=
 ⟨h.cell 0, h.cell 1, h.cell 2, h.cell 3, h.cell 4, h.cell 5, h.cell 6, h.cell 7, h.cell 8, h.cell 9, h.cell 10, h.cell 11, h.cell 12, h.cell 13, h.cell 14, h.cell 15⟩
set_option maxHeartbeats 1000000 in
theorem promised_any (b t : Int × Int) (w : World) :
 Calls Tryz.prog 122 #[.agg #[.int .i64 b.1, .int .i64 b.2], .agg #[.int .i64 t.1, .int .i64 t.2]] w (Tells (promised b t) w) := by
 obtain ⟨b1, b2⟩ := b;obtain ⟨t1, t2⟩ := t;obtain ⟨k1, k2, hb⟩ := two_boxes w 25 #[.int .i64 b1, .int .i64 b2] #[.int .i64 t1, .int .i64 t2];have H1 := hid (fun w => Bal.right_any (b1, b2) w);have H2 := hid (fun w => Bal.right_any (t1, t2) w);have H3 := hid (fun w => Bal.less_any (b1, b2) (t1, t2) w);obtain ⟨T, hT⟩ : ∃ T, promised (b1, b2) (t1, t2) = T := ⟨_, rfl⟩
 rw [hT];unfold promised at hT;generalize Bal.right (b1, b2) = r1 at H1 hT;generalize Bal.right (t1, t2) = r2 at H2 hT;generalize Bal.less (b1, b2) (t1, t2) = r3 at H3 hT;have HT := hid hT;have HB := hid hb;have HK1 := hid k1;have HK2 := hid k2;clear hT hb k1 k2;go_enter Tryz.func122, Tryz.ntmps122
 go_wp2_with fail
 refine (H1.out _).mono ?_;rintro e w1 ⟨rfl, hb1⟩;replace HB := hid (bel_trans HB.out hb1);replace HK1 := hid (HK1.out.bel hb1);replace HK2 := hid (HK2.out.bel hb1);clear hb1;cases r1 with
 | false =>
   go_wp2_with fail
   go_ret;exact ⟨by rw [← HT.out]; rfl, HB.out⟩
 | true =>
   have x0 := HK2.out.cell 0;have x1 := HK2.out.cell 1;simp at x0 x1;go_wp2_with fail
   refine (H2.out _).mono ?_;rintro e w2 ⟨rfl, hb1⟩;replace HB := hid (bel_trans HB.out hb1);replace HK1 := hid (HK1.out.bel hb1);replace HK2 := hid (HK2.out.bel hb1);clear hb1 x0 x1;cases r2 with
   | false =>
     go_wp2_with fail
     go_ret;exact ⟨by rw [← HT.out]; rfl, HB.out⟩
   | true =>
     have x0 := HK2.out.cell 0;have x1 := HK2.out.cell 1;have y0 := HK1.out.cell 0;have y1 := HK1.out.cell 1;simp at x0 x1 y0 y1;go_wp2_with fail
     refine (H3.out _).mono ?_;rintro e w3 ⟨rfl, hb1⟩;replace HB := hid (bel_trans HB.out hb1);clear hb1 x0 x1 y0 y1;cases r3
     all_goals
      go_wp2_with fail
      go_ret;exact ⟨by rw [← HT.out]; rfl, HB.out⟩
theorem box1 (w : World) (t : TypeId) (a : Array Value) : Blk (w.alloc (.cells a t)) w.heap.size t a ∧ Below w.heap.size w (w.alloc (.cells a t)) :=
 ⟨Blk.new w t a, bel_alloc (Below.refl _ _) _⟩
set_option maxRecDepth 10000 in
set_option maxHeartbeats 2000000 in
theorem offer_any (aR aN aS aB aC aT aU aK aL aQ : Int) (aY aV : ByteArray) (aZ : Int) (aA : Option Addr) (an ac : Nat) (aE aG : Int) (al : List (Int × Int)) (bR bN bS bB bC bT bU bK bL bQ : Int) (bY bV : ByteArray) (bZ : Int) (bA : Option Addr) (bn bc : Nat) (bE bG : Int) (bl : List (Int × Int)) (w : World) (ha : Rs w aA an ac al) (hb : Rs w bA bn bc bl) :
 Calls Tryz.prog 146 #[.agg #[.int .i64 aR, .int .i64 aN, .int .i64 aS, .int .i64 aB, .int .i64 aC, .int .i64 aT, .int .i64 aU, .int .i64 aK, .int .i64 aL, .int .i64 aQ, .string aY, .string aV, .int .i64 aZ, .slice aA an ac, .int .i64 aE, .int .i64 aG], .agg #[.int .i64 bR, .int .i64 bN, .int .i64 bS, .int .i64 bB, .int .i64 bC, .int .i64 bT, .int .i64 bU, .int .i64 bK, .int .i64 bL, .int .i64 bQ, .string bY, .string bV, .int .i64 bZ, .slice bA bn bc, .int .i64 bE, .int .i64 bG]] w (Tells (offer ⟨(aR, aN), aS, (aB, aC), (aT, aU), ⟨aK, aL, aQ, aY, aV, aZ⟩, ⟨al, aE, aG⟩⟩ ⟨(bR, bN), bS, (bB, bC), (bT, bU), ⟨bK, bL, bQ, bY, bV, bZ⟩, ⟨bl, bE, bG⟩⟩) w) := by
 obtain ⟨k1, k2, hbb⟩ := two_boxes w 92 #[.int .i64 aR, .int .i64 aN, .int .i64 aS, .int .i64 aB, .int .i64 aC, .int .i64 aT, .int .i64 aU, .int .i64 aK, .int .i64 aL, .int .i64 aQ, .string aY, .string aV, .int .i64 aZ, .slice aA an ac, .int .i64 aE, .int .i64 aG] #[.int .i64 bR, .int .i64 bN, .int .i64 bS, .int .i64 bB, .int .i64 bC, .int .i64 bT, .int .i64 bU, .int .i64 bK, .int .i64 bL, .int .i64 bQ, .string bY, .string bV, .int .i64 bZ, .slice bA bn bc, .int .i64 bE, .int .i64 bG];have H1 := hid (fun w (h : Rs w aA an ac al) (h' : Rs w bA bn bc bl) => asame_any al aE aG aA an ac bl bE bG bA bn bc w h h');have heq := fun w => Cw.eql_cmd aK aL aQ aY aV aZ bK bL bQ bY bV bZ w;obtain ⟨T, hT⟩ : ∃ T, offer ⟨(aR, aN), aS, (aB, aC), (aT, aU), ⟨aK, aL, aQ, aY, aV, aZ⟩, ⟨al, aE, aG⟩⟩ ⟨(bR, bN), bS, (bB, bC), (bT, bU), ⟨bK, bL, bQ, bY, bV, bZ⟩, ⟨bl, bE, bG⟩⟩ = T := ⟨_, rfl⟩
 rw [hT];unfold offer at hT;simp only at hT;generalize Cmd.eqv ⟨aK, aL, aQ, aY, aV, aZ⟩ ⟨bK, bL, bQ, bY, bV, bZ⟩ = r1 at heq hT;generalize asame ⟨al, aE, aG⟩ ⟨bl, bE, bG⟩ = r2 at H1 hT;have HT := hid hT;have HB := hid hbb;have HA := hid (ha.below hbb);have HA' := hid (hb.below hbb);clear hT hbb k1 k2 ha hb;go_enter Tryz.func146, Tryz.ntmps146
 cases r1 with
 | false =>
   go_wp2_with fail
   go_ret;exact ⟨by rw [← HT.out]; rfl, HB.out⟩
 | true =>
   go_wp2_with fail
   refine (H1.out _ HA.out HA'.out).mono ?_;rintro e w2 ⟨rfl, hb1⟩;replace HB := hid (bel_trans HB.out hb1);clear hb1;cases r2
   all_goals
    go_wp2_with fail
    go_ret;exact ⟨by rw [← HT.out]; rfl, HB.out⟩
set_option maxRecDepth 10000 in
set_option maxHeartbeats 2000000 in
theorem filled_any (aR aN aS aB aC aT aU aK aL aQ : Int) (aY aV : ByteArray) (aZ : Int) (aA : Option Addr) (an ac : Nat) (aE aG : Int) (al : List (Int × Int)) (w : World) (ha : Rs w aA an ac al) :
 Calls Tryz.prog 123 #[.agg #[.int .i64 aR, .int .i64 aN, .int .i64 aS, .int .i64 aB, .int .i64 aC, .int .i64 aT, .int .i64 aU, .int .i64 aK, .int .i64 aL, .int .i64 aQ, .string aY, .string aV, .int .i64 aZ, .slice aA an ac, .int .i64 aE, .int .i64 aG]] w (Tells (filled ⟨(aR, aN), aS, (aB, aC), (aT, aU), ⟨aK, aL, aQ, aY, aV, aZ⟩, ⟨al, aE, aG⟩⟩) w) := by
 obtain ⟨k1, hbb⟩ := box1 w 92 #[.int .i64 aR, .int .i64 aN, .int .i64 aS, .int .i64 aB, .int .i64 aC, .int .i64 aT, .int .i64 aU, .int .i64 aK, .int .i64 aL, .int .i64 aQ, .string aY, .string aV, .int .i64 aZ, .slice aA an ac, .int .i64 aE, .int .i64 aG];obtain ⟨T, hT⟩ : ∃ T, filled ⟨(aR, aN), aS, (aB, aC), (aT, aU), ⟨aK, aL, aQ, aY, aV, aZ⟩, ⟨al, aE, aG⟩⟩ = T := ⟨_, rfl⟩
 rw [hT];unfold filled at hT;simp only at hT;have HB := hid hbb;have HA := hid (ha.below hbb);have HK := hid k1;clear hbb k1 ha;by_cases h0 : aS = 0
 · subst h0
   rw [if_pos rfl] at hT;have heq := fun w => Bal.eql_bal (aT, aU) (0, 0) w;have H1 := hid (fun w (h : Rs w aA an ac al) => offer_any aR aN 0 aB aC aT aU aK aL aQ aY aV aZ aA an ac aE aG al 0 0 0 0 0 0 0 0 0 0 ⟨#[]⟩ ⟨#[]⟩ 0 none 0 0 0 0 [] w h (Rs.nil_ w));have hz : (zeroRc : Rc) = ⟨(0, 0), 0, (0, 0), (0, 0), ⟨0, 0, 0, ⟨#[]⟩, ⟨#[]⟩, 0⟩, ⟨[], 0, 0⟩⟩ := rfl;rw [hz] at hT;simp only at heq;generalize decide ((aT, aU) = ((0, 0) : Int × Int)) = r1 at heq hT;generalize offer ⟨(aR, aN), 0, (aB, aC), (aT, aU), ⟨aK, aL, aQ, aY, aV, aZ⟩, ⟨al, aE, aG⟩⟩ ⟨(0, 0), 0, (0, 0), (0, 0), ⟨0, 0, 0, ⟨#[]⟩, ⟨#[]⟩, 0⟩, ⟨[], 0, 0⟩⟩ = r2 at H1 hT;have HT := hid hT;clear hT hz HK;go_enter Tryz.func123, Tryz.ntmps123
   cases r1 with
   | false =>
     go_wp2_with fail
     go_ret;exact ⟨by rw [← HT.out]; rfl, HB.out⟩
   | true =>
     go_wp2_with fail
     refine (H1.out _ HA.out).mono ?_;rintro e w2 ⟨rfl, hb1⟩;replace HB := hid (bel_trans HB.out hb1);clear hb1;cases r2
     all_goals
      go_wp2_with fail
      go_ret;exact ⟨by rw [← HT.out]; rfl, HB.out⟩
 · rw [if_neg h0] at hT
   by_cases h1 : aS = 1 ∨ aS = 2 ∨ aS = 3
   · rw [if_pos h1] at hT
     have H1 := hid (fun w => Cw.check_any aK aL aQ aY aV aZ w);have H2 := hid (fun w (h : Rs w aA an ac al) => acheck_any al aE aG aA an ac w h)
     have H3 : Hid (∀ w, Rs w aA an ac al → achk ⟨al, aE, aG⟩ = 0 → Calls Tryz.prog 86 #[.slice aA an ac, .agg #[.int .i64 aR, .int .i64 aN]] w (Tells (decide ((aR, aN) ∈ al)) w)) :=
      hid (fun w h hc => has_any al (aR, aN) aA an ac w h (achk_up hc) (by have h1 := achk_len hc; have h2 := h.len; simp only at h1; omega))
     generalize decide ((aR, aN) ∈ al) = r3 at H3 hT;generalize achk ⟨al, aE, aG⟩ = v2 at H2 H3 hT;generalize Cmd.chk ⟨aK, aL, aQ, aY, aV, aZ⟩ = v1 at H1 hT;have HT := hid hT;clear hT;rcases h1 with rfl | rfl | rfl
     all_goals
      go_enter Tryz.func123, Tryz.ntmps123
      go_wp2_with fail
      refine (H1.out _).mono ?_;rintro e w1 ⟨rfl, hb1⟩;replace HB := hid (bel_trans HB.out hb1);replace HK := hid (HK.out.bel hb1);replace HA := hid (HA.out.below hb1);clear hb1;by_cases hv1 : v1 = 0
      · subst hv1
        obtain ⟨x0, x1, x2, x3, x4, x5, x6, x7, x8, x9, x10, x11, x12, x13, x14, x15⟩ := blk16 HK.out;go_wp2_with fail
        refine (H2.out _ HA.out).mono ?_;rintro e w2 ⟨rfl, hb1⟩;replace HB := hid (bel_trans HB.out hb1);replace HK := hid (HK.out.bel hb1);replace HA := hid (HA.out.below hb1);clear hb1 x0 x1 x2 x3 x4 x5 x6 x7 x8 x9 x10 x11 x12 x13 x14 x15;by_cases hv2 : v2 = 0
        · subst hv2
          obtain ⟨x0, x1, x2, x3, x4, x5, x6, x7, x8, x9, x10, x11, x12, x13, x14, x15⟩ := blk16 HK.out;go_wp2_with fail
          refine (H3.out _ HA.out (by simp)).mono ?_;rintro e w3 ⟨rfl, hb1⟩;replace HB := hid (bel_trans HB.out hb1);clear hb1 x0 x1 x2 x3 x4 x5 x6 x7 x8 x9 x10 x11 x12 x13 x14 x15;cases r3
          all_goals
           go_wp2_with fail
           go_ret;exact ⟨by rw [← HT.out]; rfl, HB.out⟩
        · have hv : (v2 == 0) = false := by simpa using hv2
          clear H3;go_wp2_with fail
          go_ret;exact ⟨by rw [← HT.out]; simp [hv2], HB.out⟩
      · have hv : (v1 == 0) = false := by simpa using hv1
        clear H2 H3;go_wp2_with fail
        go_ret;exact ⟨by rw [← HT.out]; simp [hv1], HB.out⟩
   · rw [if_neg h1] at hT
     have e0 : (aS == 0) = false := (by simpa using h0);have e1 : (aS == 1) = false := (by simp; omega);have e2 : (aS == 2) = false := (by simp; omega);have e3 : (aS == 3) = false := (by simp; omega);have HT := hid hT;clear hT h0 h1 HA;go_enter Tryz.func123, Tryz.ntmps123
     go_wp2_with fail
     go_ret;exact ⟨by rw [← HT.out]; rfl, HB.out⟩
end Go.Proofs.YthlhchaoedcdbaaGreatDoor.Rk
/- rec.Check, Same and GoesOn, and the document's Right, Same and GoesOn. -/
namespace Go.Proofs.YthlhchaoedcdbaaGreatDoor.Rk
open Lib (hid)
open Go.RowKit Mem Ids Att
set_option maxRecDepth 10000 in
set_option maxHeartbeats 4000000 in
theorem rcheck_any (aR aN aS aB aC aT aU aK aL aQ : Int) (aY aV : ByteArray) (aZ : Int) (aA : Option Addr) (an ac : Nat) (aE aG : Int) (al : List (Int × Int)) (w : World) (ha : Rs w aA an ac al) :
 Calls Tryz.prog 84 #[.agg #[.int .i64 aR, .int .i64 aN, .int .i64 aS, .int .i64 aB, .int .i64 aC, .int .i64 aT, .int .i64 aU, .int .i64 aK, .int .i64 aL, .int .i64 aQ, .string aY, .string aV, .int .i64 aZ, .slice aA an ac, .int .i64 aE, .int .i64 aG]] w (Checks (rchk ⟨(aR, aN), aS, (aB, aC), (aT, aU), ⟨aK, aL, aQ, aY, aV, aZ⟩, ⟨al, aE, aG⟩⟩) w) := by
 obtain ⟨k1, hbb⟩ := box1 w 92 #[.int .i64 aR, .int .i64 aN, .int .i64 aS, .int .i64 aB, .int .i64 aC, .int .i64 aT, .int .i64 aU, .int .i64 aK, .int .i64 aL, .int .i64 aQ, .string aY, .string aV, .int .i64 aZ, .slice aA an ac, .int .i64 aE, .int .i64 aG];have HKa := hid k1;have HB := hid hbb;have HRa := hid (ha.below hbb);clear hbb k1 ha;obtain ⟨T, hT⟩ : ∃ T, rchk ⟨(aR, aN), aS, (aB, aC), (aT, aU), ⟨aK, aL, aQ, aY, aV, aZ⟩, ⟨al, aE, aG⟩⟩ = T := ⟨_, rfl⟩
 rw [hT];unfold rchk rgt at hT;simp only at hT;have H1 := hid (fun w => right_any (aR, aN) w);have H2 := hid (fun w => promised_any (aB, aC) (aT, aU) w);have H3 := hid (fun w (h : Rs w aA an ac al) => filled_any aR aN aS aB aC aT aU aK aL aQ aY aV aZ aA an ac aE aG al w h);generalize right (aR, aN) = r1 at H1 hT;generalize promised (aB, aC) (aT, aU) = r2 at H2 hT;generalize filled ⟨(aR, aN), aS, (aB, aC), (aT, aU), ⟨aK, aL, aQ, aY, aV, aZ⟩, ⟨al, aE, aG⟩⟩ = r3 at H3 hT;have HT := hid hT;clear hT;go_enter Tryz.func84, Tryz.ntmps84
 go_wp2_with fail
 refine (H1.out _).mono ?_;rintro e u1 ⟨rfl, hb1⟩;replace HB := hid (bel_trans HB.out hb1);replace HKa := hid (HKa.out.bel hb1);replace HRa := hid (HRa.out.below hb1);clear hb1 ;cases r1 with
 | false =>
   go_wp2_with fail
   go_ret;exact ⟨by rw [← HT.out]; first | rfl | (simp; done), HB.out⟩
 | true =>
   obtain ⟨xa0, xa1, xa2, xa3, xa4, xa5, xa6, xa7, xa8, xa9, xa10, xa11, xa12, xa13, xa14, xa15⟩ := blk16 HKa.out;go_wp2_with fail
   refine (H2.out _).mono ?_;rintro e u2 ⟨rfl, hb1⟩;replace HB := hid (bel_trans HB.out hb1);replace HKa := hid (HKa.out.bel hb1);replace HRa := hid (HRa.out.below hb1);clear hb1 xa0 xa1 xa2 xa3 xa4 xa5 xa6 xa7 xa8 xa9 xa10 xa11 xa12 xa13 xa14 xa15;cases r2 with
   | false =>
     go_wp2_with fail
     go_ret;exact ⟨by rw [← HT.out]; first | rfl | (simp; done), HB.out⟩
   | true =>
     obtain ⟨xa0, xa1, xa2, xa3, xa4, xa5, xa6, xa7, xa8, xa9, xa10, xa11, xa12, xa13, xa14, xa15⟩ := blk16 HKa.out;go_wp2_with fail
     refine (H3.out _ HRa.out).mono ?_;rintro e u3 ⟨rfl, hb1⟩;replace HB := hid (bel_trans HB.out hb1);replace HKa := hid (HKa.out.bel hb1);replace HRa := hid (HRa.out.below hb1);clear hb1 xa0 xa1 xa2 xa3 xa4 xa5 xa6 xa7 xa8 xa9 xa10 xa11 xa12 xa13 xa14 xa15;cases r3 with
     | false =>
       go_wp2_with fail
       go_ret;exact ⟨by rw [← HT.out]; first | rfl | (simp; done), HB.out⟩
     | true =>
       go_wp2_with fail
       go_ret;exact ⟨by rw [← HT.out]; first | rfl | (simp; done), HB.out⟩
end Go.Proofs.YthlhchaoedcdbaaGreatDoor.Rk
