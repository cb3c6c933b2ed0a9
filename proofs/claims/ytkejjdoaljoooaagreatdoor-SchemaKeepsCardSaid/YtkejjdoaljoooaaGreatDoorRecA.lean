/-
  Texts of earlier layers, as one.
-/
import Derived.Test.YtkejjdoaljoooaaGreatDoorROpen
/- Records, plainly: when one is right, when two are the same, when one goes on from another; plain mathematics, of no program. -/
namespace Go.Proofs.YtkejjdoaljoooaaGreatDoor.Rk
open Lib (hid)
structure Rc where
 id : Int × Int
 st : Int
 bl : Int × Int
 tk : Int × Int
 cm : Cmd.Cm
 at_ : Att.At
def zeroRc : Rc := ⟨(0, 0), 0, (0, 0), (0, 0), Cmd.zeroCm, Att.zeroAt⟩
def offer (a b : Rc) : Bool := Cmd.eqv a.cm b.cm && Att.asame a.at_ b.at_
def promised (b t : Int × Int) : Bool := Bal.right b && Bal.right t && !Bal.less b t
def filled (r : Rc) : Bool :=
 if r.st = 0 then decide (r.tk = (0, 0)) && offer r zeroRc
 else if r.st = 1 ∨ r.st = 2 ∨ r.st = 3 then decide (Cmd.chk r.cm = 0) && decide (Att.achk r.at_ = 0) && !decide (r.id ∈ r.at_.dp)
 else false
def rgt (r : Rc) : Bool := Ids.right r.id && promised r.bl r.tk && filled r
def rchk (r : Rc) : Int := if rgt r = true then 0 else 4
def rsame (a b : Rc) : Bool := decide (a.id = b.id) && decide (a.st = b.st) && decide (a.bl = b.bl) && decide (a.tk = b.tk) && offer a b
theorem offer_iff {a b : Rc} : offer a b = true ↔ a.cm = b.cm ∧ a.at_ = b.at_ := by
 obtain ⟨_, _, _, _, ac, ⟨ad, aq, ag⟩⟩ := a;obtain ⟨_, _, _, _, bc, ⟨bd, bs, bg⟩⟩ := b;simp only [offer, Bool.and_eq_true, Cmd.eqv_iff, Att.asame, decide_eq_true_eq, Att.At.mk.injEq];constructor
 · rintro ⟨h1, h2, h3, h4⟩
   exact ⟨h1, h4, h3, h2⟩
 · rintro ⟨h1, h2, h3, h4⟩
   exact ⟨h1, h4, h3, h2⟩
theorem rsame_iff {a b : Rc} : rsame a b = true ↔ a = b := by
 obtain ⟨ai, ast, ab, atk, ac, aa⟩ := a;obtain ⟨bi, bs, bb, bt, bc, ba⟩ := b;simp only [rsame, Bool.and_eq_true, decide_eq_true_eq, offer_iff, Rc.mk.injEq];constructor
 · rintro ⟨⟨⟨⟨h1, h2⟩, h3⟩, h4⟩, h5, h6⟩
   exact ⟨h1, h2, h3, h4, h5, h6⟩
 · rintro ⟨h1, h2, h3, h4, h5, h6⟩
   exact ⟨⟨⟨⟨h1, h2⟩, h3⟩, h4⟩, h5, h6⟩
theorem rsame_refl (a : Rc) : rsame a a = true := rsame_iff.2 rfl
end Go.Proofs.YtkejjdoaljoooaaGreatDoor.Rk
/- rec.promised, sameOffer, filled, Check, Same and GoesOn, and the document's Right, Same and GoesOn. -/
namespace Go.Proofs.YtkejjdoaljoooaaGreatDoor.Rk
open Lib (hid)
open Go.RowKit Mem Ids Att
theorem blk16 {w : World} {g : Nat} {t : TypeId} {v0 v1 v2 v3 v4 v5 v6 v7 v8 v9 v10 v11 v12 v13 v14 v15 : Value} (h : Blk w g t #[v0, v1, v2, v3, v4, v5, v6, v7, v8, v9, v10, v11, v12, v13, v14, v15]) : w.cell? ⟨g, 0, none⟩ = some v0 ∧ w.cell? ⟨g, 1, none⟩ = some v1 ∧ w.cell? ⟨g, 2, none⟩ = some v2 ∧ w.cell? ⟨g, 3, none⟩ = some v3 ∧ w.cell? ⟨g, 4, none⟩ = some v4 ∧ w.cell? ⟨g, 5, none⟩ = some v5 ∧ w.cell? ⟨g, 6, none⟩ = some v6 ∧ w.cell? ⟨g, 7, none⟩ = some v7 ∧ w.cell? ⟨g, 8, none⟩ = some v8 ∧ w.cell? ⟨g, 9, none⟩ = some v9 ∧ w.cell? ⟨g, 10, none⟩ = some v10 ∧ w.cell? ⟨g, 11, none⟩ = some v11 ∧ w.cell? ⟨g, 12, none⟩ = some v12 ∧ w.cell? ⟨g, 13, none⟩ = some v13 ∧ w.cell? ⟨g, 14, none⟩ = some v14 ∧ w.cell? ⟨g, 15, none⟩ = some v15 :=
 ⟨h.cell 0, h.cell 1, h.cell 2, h.cell 3, h.cell 4, h.cell 5, h.cell 6, h.cell 7, h.cell 8, h.cell 9, h.cell 10, h.cell 11, h.cell 12, h.cell 13, h.cell 14, h.cell 15⟩
set_option maxHeartbeats 1000000 in
theorem promised_any (b t : Int × Int) (w : World) :
 Calls Tryz.prog 92 #[.agg #[.int .i64 b.1, .int .i64 b.2], .agg #[.int .i64 t.1, .int .i64 t.2]] w (Tells (promised b t) w) := by
 obtain ⟨b1, b2⟩ := b;obtain ⟨t1, t2⟩ := t;obtain ⟨k1, k2, hb⟩ := two_boxes w 36 #[.int .i64 b1, .int .i64 b2] #[.int .i64 t1, .int .i64 t2];have H1 := hid (fun w => Bal.right_any (b1, b2) w);have H2 := hid (fun w => Bal.right_any (t1, t2) w);have H3 := hid (fun w => Bal.less_any (b1, b2) (t1, t2) w);obtain ⟨T, hT⟩ : ∃ T, promised (b1, b2) (t1, t2) = T := ⟨_, rfl⟩
 rw [hT];unfold promised at hT;generalize Bal.right (b1, b2) = r1 at H1 hT;generalize Bal.right (t1, t2) = r2 at H2 hT;generalize Bal.less (b1, b2) (t1, t2) = r3 at H3 hT;have HT := hid hT;have HB := hid hb;have HK1 := hid k1;have HK2 := hid k2;clear hT hb k1 k2;go_enter Tryz.func92, Tryz.ntmps92
 go_wp2_with fail
 refine (H1.out _).mono ?_;rintro e w1 ⟨rfl, hb1⟩;replace HB := hid (bel_trans HB.out hb1);replace HK1 := hid (HK1.out.bel hb1);replace HK2 := hid (HK2.out.bel hb1);clear hb1;cases r1 with
 | false =>
   go_wp2_with fail
   go_ret;exact ⟨by rw [← HT.out]; rfl, HB.out⟩
 | true =>
   have x0 := HK2.out.cell 0;have x1 := HK2.out.cell 1;simp at x0 x1;go_wp2_with fail
   refine (H2.out _).mono ?_;rintro e w2 ⟨rfl, hb1⟩;replace HB := hid (bel_trans HB.out hb1);replace HK1 := hid (HK1.out.bel hb1);replace HK2 := hid (HK2.out.bel hb1);clear hb1 x0 x1;cases r2 with
   | false =>
     go_wp2_with fail
     go_ret;exact ⟨by rw [← HT.out]; rfl, HB.out⟩
   | true =>
     have x0 := HK2.out.cell 0;have x1 := HK2.out.cell 1;have y0 := HK1.out.cell 0;have y1 := HK1.out.cell 1;simp at x0 x1 y0 y1;go_wp2_with fail
     refine (H3.out _).mono ?_;rintro e w3 ⟨rfl, hb1⟩;replace HB := hid (bel_trans HB.out hb1);clear hb1 x0 x1 y0 y1;cases r3
     all_goals
      go_wp2_with fail
      go_ret;exact ⟨by rw [← HT.out]; rfl, HB.out⟩
theorem box1 (w : World) (t : TypeId) (a : Array Value) : Blk (w.alloc (.cells a t)) w.heap.size t a ∧ Below w.heap.size w (w.alloc (.cells a t)) :=
 ⟨Blk.new w t a, bel_alloc (Below.refl _ _) _⟩
set_option maxRecDepth 10000 in
set_option maxHeartbeats 2000000 in
theorem offer_any (aR aN aS aB aC aT aU aK aL aQ : Int) (aY aV : ByteArray) (aZ : Int) (aA : Option Addr) (an ac : Nat) (aE aG : Int) (al : List (Int × Int)) (bR bN bS bB bC bT bU bK bL bQ : Int) (bY bV : ByteArray) (bZ : Int) (bA : Option Addr) (bn bc : Nat) (bE bG : Int) (bl : List (Int × Int)) (w : World) (ha : Rs w aA an ac al) (hb : Rs w bA bn bc bl) :
 Calls Tryz.prog 139 #[.agg #[.int .i64 aR, .int .i64 aN, .int .i64 aS, .int .i64 aB, .int .i64 aC, .int .i64 aT, .int .i64 aU, .int .i64 aK, .int .i64 aL, .int .i64 aQ, .string aY, .string aV, .int .i64 aZ, .slice aA an ac, .int .i64 aE, .int .i64 aG], .agg #[.int .i64 bR, .int .i64 bN, .int .i64 bS, .int .i64 bB, .int .i64 bC, .int .i64 bT, .int .i64 bU, .int .i64 bK, .int .i64 bL, .int .i64 bQ, .string bY, .string bV, .int .i64 bZ, .slice bA bn bc, .int .i64 bE, .int .i64 bG]] w (Tells (offer ⟨(aR, aN), aS, (aB, aC), (aT, aU), ⟨aK, aL, aQ, aY, aV, aZ⟩, ⟨al, aE, aG⟩⟩ ⟨(bR, bN), bS, (bB, bC), (bT, bU), ⟨bK, bL, bQ, bY, bV, bZ⟩, ⟨bl, bE, bG⟩⟩) w) := by
 obtain ⟨k1, k2, hbb⟩ := two_boxes w 43 #[.int .i64 aR, .int .i64 aN, .int .i64 aS, .int .i64 aB, .int .i64 aC, .int .i64 aT, .int .i64 aU, .int .i64 aK, .int .i64 aL, .int .i64 aQ, .string aY, .string aV, .int .i64 aZ, .slice aA an ac, .int .i64 aE, .int .i64 aG] #[.int .i64 bR, .int .i64 bN, .int .i64 bS, .int .i64 bB, .int .i64 bC, .int .i64 bT, .int .i64 bU, .int .i64 bK, .int .i64 bL, .int .i64 bQ, .string bY, .string bV, .int .i64 bZ, .slice bA bn bc, .int .i64 bE, .int .i64 bG];have H1 := hid (fun w (h : Rs w aA an ac al) (h' : Rs w bA bn bc bl) => asame_any al aE aG aA an ac bl bE bG bA bn bc w h h');have heq := fun w => Cw.eql_cmd aK aL aQ aY aV aZ bK bL bQ bY bV bZ w;obtain ⟨T, hT⟩ : ∃ T, offer ⟨(aR, aN), aS, (aB, aC), (aT, aU), ⟨aK, aL, aQ, aY, aV, aZ⟩, ⟨al, aE, aG⟩⟩ ⟨(bR, bN), bS, (bB, bC), (bT, bU), ⟨bK, bL, bQ, bY, bV, bZ⟩, ⟨bl, bE, bG⟩⟩ = T := ⟨_, rfl⟩
 rw [hT];unfold offer at hT;simp only at hT;generalize Cmd.eqv ⟨aK, aL, aQ, aY, aV, aZ⟩ ⟨bK, bL, bQ, bY, bV, bZ⟩ = r1 at heq hT;generalize asame ⟨al, aE, aG⟩ ⟨bl, bE, bG⟩ = r2 at H1 hT;have HT := hid hT;have HB := hid hbb;have HA := hid (ha.below hbb);have HA' := hid (hb.below hbb);clear hT hbb k1 k2 ha hb;go_enter Tryz.func139, Tryz.ntmps139
 cases r1 with
 | false =>
   go_wp2_with fail
   go_ret;exact ⟨by rw [← HT.out]; rfl, HB.out⟩
 | true =>
   go_wp2_with fail
   refine (H1.out _ HA.out HA'.out).mono ?_;rintro e w2 ⟨rfl, hb1⟩;replace HB := hid (bel_trans HB.out hb1);clear hb1;cases r2
   all_goals
    go_wp2_with fail
    go_ret;exact ⟨by rw [← HT.out]; rfl, HB.out⟩
set_option maxRecDepth 10000 in
set_option maxHeartbeats 2000000 in
theorem filled_any (aR aN aS aB aC aT aU aK aL aQ : Int) (aY aV : ByteArray) (aZ : Int) (aA : Option Addr) (an ac : Nat) (aE aG : Int) (al : List (Int × Int)) (w : World) (ha : Rs w aA an ac al) :
 Calls Tryz.prog 93 #[.agg #[.int .i64 aR, .int .i64 aN, .int .i64 aS, .int .i64 aB, .int .i64 aC, .int .i64 aT, .int .i64 aU, .int .i64 aK, .int .i64 aL, .int .i64 aQ, .string aY, .string aV, .int .i64 aZ, .slice aA an ac, .int .i64 aE, .int .i64 aG]] w (Tells (filled ⟨(aR, aN), aS, (aB, aC), (aT, aU), ⟨aK, aL, aQ, aY, aV, aZ⟩, ⟨al, aE, aG⟩⟩) w) := by
 obtain ⟨k1, hbb⟩ := box1 w 43 #[.int .i64 aR, .int .i64 aN, .int .i64 aS, .int .i64 aB, .int .i64 aC, .int .i64 aT, .int .i64 aU, .int .i64 aK, .int .i64 aL, .int .i64 aQ, .string aY, .string aV, .int .i64 aZ, .slice aA an ac, .int .i64 aE, .int .i64 aG];obtain ⟨T, hT⟩ : ∃ T, filled ⟨(aR, aN), aS, (aB, aC), (aT, aU), ⟨aK, aL, aQ, aY, aV, aZ⟩, ⟨al, aE, aG⟩⟩ = T := ⟨_, rfl⟩
 rw [hT];unfold filled at hT;simp only at hT;have HB := hid hbb;have HA := hid (ha.below hbb);have HK := hid k1;clear hbb k1 ha;by_cases h0 : aS = 0
 · subst h0
   rw [if_pos rfl] at hT;have heq := fun w => Bal.eql_bal (aT, aU) (0, 0) w;have H1 := hid (fun w (h : Rs w aA an ac al) => offer_any aR aN 0 aB aC aT aU aK aL aQ aY aV aZ aA an ac aE aG al 0 0 0 0 0 0 0 0 0 0 ⟨#[]⟩ ⟨#[]⟩ 0 none 0 0 0 0 [] w h (Rs.nil_ w));have hz : (zeroRc : Rc) = ⟨(0, 0), 0, (0, 0), (0, 0), ⟨0, 0, 0, ⟨#[]⟩, ⟨#[]⟩, 0⟩, ⟨[], 0, 0⟩⟩ := rfl;rw [hz] at hT;simp only at heq;generalize decide ((aT, aU) = ((0, 0) : Int × Int)) = r1 at heq hT;generalize offer ⟨(aR, aN), 0, (aB, aC), (aT, aU), ⟨aK, aL, aQ, aY, aV, aZ⟩, ⟨al, aE, aG⟩⟩ ⟨(0, 0), 0, (0, 0), (0, 0), ⟨0, 0, 0, ⟨#[]⟩, ⟨#[]⟩, 0⟩, ⟨[], 0, 0⟩⟩ = r2 at H1 hT;have HT := hid hT;clear hT hz HK;go_enter Tryz.func93, Tryz.ntmps93
   cases r1 with
   | false =>
     go_wp2_with fail
     go_ret;exact ⟨by rw [← HT.out]; rfl, HB.out⟩
   | true =>
     go_wp2_with fail
     refine (H1.out _ HA.out).mono ?_;rintro e w2 ⟨rfl, hb1⟩;replace HB := hid (bel_trans HB.out hb1);clear hb1;cases r2
     all_goals
      go_wp2_with fail
      go_ret;exact ⟨by rw [← HT.out]; rfl, HB.out⟩
 · rw [if_neg h0] at hT
   by_cases h1 : aS = 1 ∨ aS = 2 ∨ aS = 3
   · rw [if_pos h1] at hT
     have H1 := hid (fun w => Cw.check_any aK aL aQ aY aV aZ w);have H2 := hid (fun w (h : Rs w aA an ac al) => acheck_any al aE aG aA an ac w h)
     have H3 : Hid (∀ w, Rs w aA an ac al → achk ⟨al, aE, aG⟩ = 0 → Calls Tryz.prog 141 #[.slice aA an ac, .agg #[.int .i64 aR, .int .i64 aN]] w (Tells (decide ((aR, aN) ∈ al)) w)) :=
      hid (fun w h hc => has_any al (aR, aN) aA an ac w h (achk_up hc) (by have h1 := achk_len hc; have h2 := h.len; simp only at h1; omega))
     generalize decide ((aR, aN) ∈ al) = r3 at H3 hT;generalize achk ⟨al, aE, aG⟩ = v2 at H2 H3 hT;generalize Cmd.chk ⟨aK, aL, aQ, aY, aV, aZ⟩ = v1 at H1 hT;have HT := hid hT;clear hT;rcases h1 with rfl | rfl | rfl
     all_goals
      go_enter Tryz.func93, Tryz.ntmps93
      go_wp2_with fail
      refine (H1.out _).mono ?_;rintro e w1 ⟨rfl, hb1⟩;replace HB := hid (bel_trans HB.out hb1);replace HK := hid (HK.out.bel hb1);replace HA := hid (HA.out.below hb1);clear hb1;by_cases hv1 : v1 = 0
      · subst hv1
        obtain ⟨x0, x1, x2, x3, x4, x5, x6, x7, x8, x9, x10, x11, x12, x13, x14, x15⟩ := blk16 HK.out;go_wp2_with fail
        refine (H2.out _ HA.out).mono ?_;rintro e w2 ⟨rfl, hb1⟩;replace HB := hid (bel_trans HB.out hb1);replace HK := hid (HK.out.bel hb1);replace HA := hid (HA.out.below hb1);clear hb1 x0 x1 x2 x3 x4 x5 x6 x7 x8 x9 x10 x11 x12 x13 x14 x15;by_cases hv2 : v2 = 0
        · subst hv2
          obtain ⟨x0, x1, x2, x3, x4, x5, x6, x7, x8, x9, x10, x11, x12, x13, x14, x15⟩ := blk16 HK.out;go_wp2_with fail
          refine (H3.out _ HA.out (by simp)).mono ?_;rintro e w3 ⟨rfl, hb1⟩;replace HB := hid (bel_trans HB.out hb1);clear hb1 x0 x1 x2 x3 x4 x5 x6 x7 x8 x9 x10 x11 x12 x13 x14 x15;cases r3
          all_goals
           go_wp2_with fail
           go_ret;exact ⟨by rw [← HT.out]; rfl, HB.out⟩
        · have hv : (v2 == 0) = false := by simpa using hv2
          clear H3;go_wp2_with fail
          go_ret;exact ⟨by rw [← HT.out]; simp [hv2], HB.out⟩
      · have hv : (v1 == 0) = false := by simpa using hv1
        clear H2 H3;go_wp2_with fail
        go_ret;exact ⟨by rw [← HT.out]; simp [hv1], HB.out⟩
   · rw [if_neg h1] at hT
     have e0 : (aS == 0) = false := (by simpa using h0);have e1 : (aS == 1) = false := (by simp; omega);have e2 : (aS == 2) = false := (by simp; omega);have e3 : (aS == 3) = false := (by simp; omega);have HT := hid hT;clear hT h0 h1 HA;go_enter Tryz.func93, Tryz.ntmps93
     go_wp2_with fail
     go_ret;exact ⟨by rw [← HT.out]; rfl, HB.out⟩
end Go.Proofs.YtkejjdoaljoooaaGreatDoor.Rk
/- rec.Check, Same and GoesOn, and the document's Right, Same and GoesOn. -/
namespace Go.Proofs.YtkejjdoaljoooaaGreatDoor.Rk
open Lib (hid)
open Go.RowKit Mem Ids Att
set_option maxRecDepth 10000 in
set_option maxHeartbeats 4000000 in
theorem rcheck_any (aR aN aS aB aC aT aU aK aL aQ : Int) (aY aV : ByteArray) (aZ : Int) (aA : Option Addr) (an ac : Nat) (aE aG : Int) (al : List (Int × Int)) (w : World) (ha : Rs w aA an ac al) :
 Calls Tryz.prog 53 #[.agg #[.int .i64 aR, .int .i64 aN, .int .i64 aS, .int .i64 aB, .int .i64 aC, .int .i64 aT, .int .i64 aU, .int .i64 aK, .int .i64 aL, .int .i64 aQ, .string aY, .string aV, .int .i64 aZ, .slice aA an ac, .int .i64 aE, .int .i64 aG]] w (Checks (rchk ⟨(aR, aN), aS, (aB, aC), (aT, aU), ⟨aK, aL, aQ, aY, aV, aZ⟩, ⟨al, aE, aG⟩⟩) w) := by
 obtain ⟨k1, hbb⟩ := box1 w 43 #[.int .i64 aR, .int .i64 aN, .int .i64 aS, .int .i64 aB, .int .i64 aC, .int .i64 aT, .int .i64 aU, .int .i64 aK, .int .i64 aL, .int .i64 aQ, .string aY, .string aV, .int .i64 aZ, .slice aA an ac, .int .i64 aE, .int .i64 aG];have HKa := hid k1;have HB := hid hbb;have HRa := hid (ha.below hbb);clear hbb k1 ha;obtain ⟨T, hT⟩ : ∃ T, rchk ⟨(aR, aN), aS, (aB, aC), (aT, aU), ⟨aK, aL, aQ, aY, aV, aZ⟩, ⟨al, aE, aG⟩⟩ = T := ⟨_, rfl⟩
 rw [hT];unfold rchk rgt at hT;simp only at hT;have H1 := hid (fun w => right_any (aR, aN) w);have H2 := hid (fun w => promised_any (aB, aC) (aT, aU) w);have H3 := hid (fun w (h : Rs w aA an ac al) => filled_any aR aN aS aB aC aT aU aK aL aQ aY aV aZ aA an ac aE aG al w h);generalize right (aR, aN) = r1 at H1 hT;generalize promised (aB, aC) (aT, aU) = r2 at H2 hT;generalize filled ⟨(aR, aN), aS, (aB, aC), (aT, aU), ⟨aK, aL, aQ, aY, aV, aZ⟩, ⟨al, aE, aG⟩⟩ = r3 at H3 hT;have HT := hid hT;clear hT;go_enter Tryz.func53, Tryz.ntmps53
 go_wp2_with fail
 refine (H1.out _).mono ?_;rintro e u1 ⟨rfl, hb1⟩;replace HB := hid (bel_trans HB.out hb1);replace HKa := hid (HKa.out.bel hb1);replace HRa := hid (HRa.out.below hb1);clear hb1 ;cases r1 with
 | false =>
   go_wp2_with fail
   go_ret;exact ⟨by rw [← HT.out]; first | rfl | (simp; done), HB.out⟩
 | true =>
   obtain ⟨xa0, xa1, xa2, xa3, xa4, xa5, xa6, xa7, xa8, xa9, xa10, xa11, xa12, xa13, xa14, xa15⟩ := blk16 HKa.out;go_wp2_with fail
   refine (H2.out _).mono ?_;rintro e u2 ⟨rfl, hb1⟩;replace HB := hid (bel_trans HB.out hb1);replace HKa := hid (HKa.out.bel hb1);replace HRa := hid (HRa.out.below hb1);clear hb1 xa0 xa1 xa2 xa3 xa4 xa5 xa6 xa7 xa8 xa9 xa10 xa11 xa12 xa13 xa14 xa15;cases r2 with
   | false =>
     go_wp2_with fail
     go_ret;exact ⟨by rw [← HT.out]; first | rfl | (simp; done), HB.out⟩
   | true =>
     obtain ⟨xa0, xa1, xa2, xa3, xa4, xa5, xa6, xa7, xa8, xa9, xa10, xa11, xa12, xa13, xa14, xa15⟩ := blk16 HKa.out;go_wp2_with fail
     refine (H3.out _ HRa.out).mono ?_;rintro e u3 ⟨rfl, hb1⟩;replace HB := hid (bel_trans HB.out hb1);replace HKa := hid (HKa.out.bel hb1);replace HRa := hid (HRa.out.below hb1);clear hb1 xa0 xa1 xa2 xa3 xa4 xa5 xa6 xa7 xa8 xa9 xa10 xa11 xa12 xa13 xa14 xa15;cases r3 with
     | false =>
       go_wp2_with fail
       go_ret;exact ⟨by rw [← HT.out]; first | rfl | (simp; done), HB.out⟩
     | true =>
       go_wp2_with fail
       go_ret;exact ⟨by rw [← HT.out]; first | rfl | (simp; done), HB.out⟩
set_option maxRecDepth 10000 in
set_option maxHeartbeats 4000000 in
theorem refrsame_any (aR aN aS aB aC aT aU aK aL aQ : Int) (aY aV : ByteArray) (aZ : Int) (aA : Option Addr) (an ac : Nat) (aE aG : Int) (al : List (Int × Int)) (bR bN bS bB bC bT bU bK bL bQ : Int) (bY bV : ByteArray) (bZ : Int) (bA : Option Addr) (bn bc : Nat) (bE bG : Int) (bl : List (Int × Int)) (w : World) (ha : Rs w aA an ac al) (hb : Rs w bA bn bc bl) :
 Calls Tryz.prog 28 #[.agg #[.int .i64 aR, .int .i64 aN, .int .i64 aS, .int .i64 aB, .int .i64 aC, .int .i64 aT, .int .i64 aU, .int .i64 aK, .int .i64 aL, .int .i64 aQ, .string aY, .string aV, .int .i64 aZ, .slice aA an ac, .int .i64 aE, .int .i64 aG], .agg #[.int .i64 bR, .int .i64 bN, .int .i64 bS, .int .i64 bB, .int .i64 bC, .int .i64 bT, .int .i64 bU, .int .i64 bK, .int .i64 bL, .int .i64 bQ, .string bY, .string bV, .int .i64 bZ, .slice bA bn bc, .int .i64 bE, .int .i64 bG]] w (Tells (rsame ⟨(aR, aN), aS, (aB, aC), (aT, aU), ⟨aK, aL, aQ, aY, aV, aZ⟩, ⟨al, aE, aG⟩⟩ ⟨(bR, bN), bS, (bB, bC), (bT, bU), ⟨bK, bL, bQ, bY, bV, bZ⟩, ⟨bl, bE, bG⟩⟩) w) := by
 obtain ⟨k1, k2, hbb⟩ := two_boxes w 43 #[.int .i64 aR, .int .i64 aN, .int .i64 aS, .int .i64 aB, .int .i64 aC, .int .i64 aT, .int .i64 aU, .int .i64 aK, .int .i64 aL, .int .i64 aQ, .string aY, .string aV, .int .i64 aZ, .slice aA an ac, .int .i64 aE, .int .i64 aG] #[.int .i64 bR, .int .i64 bN, .int .i64 bS, .int .i64 bB, .int .i64 bC, .int .i64 bT, .int .i64 bU, .int .i64 bK, .int .i64 bL, .int .i64 bQ, .string bY, .string bV, .int .i64 bZ, .slice bA bn bc, .int .i64 bE, .int .i64 bG];have HKa := hid k1;have HKb := hid k2;have HB := hid hbb;have HRa := hid (ha.below hbb);have HRb := hid (hb.below hbb);clear hbb k1 k2 ha hb;obtain ⟨T, hT⟩ : ∃ T, rsame ⟨(aR, aN), aS, (aB, aC), (aT, aU), ⟨aK, aL, aQ, aY, aV, aZ⟩, ⟨al, aE, aG⟩⟩ ⟨(bR, bN), bS, (bB, bC), (bT, bU), ⟨bK, bL, bQ, bY, bV, bZ⟩, ⟨bl, bE, bG⟩⟩ = T := ⟨_, rfl⟩
 rw [hT];unfold rsame at hT;unfold offer at hT;simp only at hT;have e1 := fun w => eql_id (aR, aN) (bR, bN) w;have e2 := fun w => Bal.eql_bal (aB, aC) (bB, bC) w;have e3 := fun w => Bal.eql_bal (aT, aU) (bT, bU) w;simp only at e1 e2 e3;generalize decide (((aR, aN) : Int × Int) = (bR, bN)) = r1 at e1 hT;generalize decide (((aB, aC) : Int × Int) = (bB, bC)) = r2 at e2 hT;generalize decide (((aT, aU) : Int × Int) = (bT, bU)) = r3 at e3 hT;have e4 := fun w => Cw.eql_cmd aK aL aQ aY aV aZ bK bL bQ bY bV bZ w;have H1 := hid (fun w (h : Rs w aA an ac al) (h' : Rs w bA bn bc bl) => refasame_any al aE aG aA an ac bl bE bG bA bn bc w h h');generalize Cmd.eqv ⟨aK, aL, aQ, aY, aV, aZ⟩ ⟨bK, bL, bQ, bY, bV, bZ⟩ = r4 at e4 hT;generalize asame ⟨al, aE, aG⟩ ⟨bl, bE, bG⟩ = r5 at H1 hT;have HT := hid hT;clear hT;cases r1 with
 | false =>
   go_enter Tryz.func28, Tryz.ntmps28
   go_wp2_with fail
   go_ret;exact ⟨by rw [← HT.out]; first | rfl | (simp; done), HB.out⟩
 | true =>
   by_cases hS : aS = bS
   · subst hS
     cases r2 with
     | false =>
       go_enter Tryz.func28, Tryz.ntmps28
       go_wp2_with fail
       go_ret;exact ⟨by rw [← HT.out]; first | rfl | (simp; done), HB.out⟩
     | true =>
       cases r3 with
       | false =>
         go_enter Tryz.func28, Tryz.ntmps28
         go_wp2_with fail
         go_ret;exact ⟨by rw [← HT.out]; first | rfl | (simp; done), HB.out⟩
       | true =>
         cases r4 with
         | false =>
           go_enter Tryz.func28, Tryz.ntmps28
           go_wp2_with fail
           go_ret;exact ⟨by rw [← HT.out]; first | rfl | (simp; done), HB.out⟩
         | true =>
           go_enter Tryz.func28, Tryz.ntmps28
           go_wp2_with fail
           refine (H1.out _ HRa.out HRb.out).mono ?_;rintro e u1 ⟨rfl, hb1⟩;replace HB := hid (bel_trans HB.out hb1);replace HKa := hid (HKa.out.bel hb1);replace HKb := hid (HKb.out.bel hb1);replace HRa := hid (HRa.out.below hb1);replace HRb := hid (HRb.out.below hb1);clear hb1 ;cases r5
           all_goals
            go_wp2_with fail
            go_ret;exact ⟨by rw [← HT.out]; first | rfl | (simp; done), HB.out⟩
   · have b1 : (aS == bS) = false := beq_false_of_ne hS
     go_enter Tryz.func28, Tryz.ntmps28
     go_wp2_with fail
     go_ret;exact ⟨by rw [← HT.out]; simp [hS], HB.out⟩
end Go.Proofs.YtkejjdoaljoooaaGreatDoor.Rk
/- A record's item, and its old form, plainly; which record an item says. -/
namespace Go.Proofs.YtkejjdoaljoooaaGreatDoor.Rk
open Lib (hid)
open Cod Cmd Att
theorem rgt_parts {r : Rc} (h : rgt r = true) : (0 ≤ r.id.1 ∧ r.id.1 ≤ 6) ∧ (0 ≤ r.id.2 ∧ r.id.2 ≤ 1099511627776) ∧ (0 ≤ r.st ∧ r.st ≤ 3) ∧ Bal.right r.bl = true ∧ Bal.right r.tk = true ∧
 (¬ r.st = 0 → Cmd.chk r.cm = 0 ∧ achk r.at_ = 0) ∧ (r.st = 0 → r.tk = (0, 0) ∧ r.cm = zeroCm ∧ r.at_ = zeroAt) := by
 simp only [rgt, promised, Bool.and_eq_true] at h;obtain ⟨⟨h1, ⟨h2, h3⟩, _⟩, h4⟩ := h;have h5 := of_decide_eq_true h1;refine ⟨by omega, by omega, ?_, h2, h3, ?_, ?_⟩
 · unfold filled at h4
   split at h4
   · omega
   · split at h4
     · omega
     · cases h4
 · intro hs
   unfold filled at h4;rw [if_neg hs] at h4;split at h4
   · simp only [Bool.and_eq_true, decide_eq_true_eq] at h4
     exact h4.1
   · cases h4
 · intro hs
   unfold filled at h4;rw [if_pos hs] at h4;simp only [Bool.and_eq_true, decide_eq_true_eq] at h4;obtain ⟨k1, k2⟩ := offer_iff.1 h4.2;exact ⟨h4.1, k1, k2⟩
def fronts (r : Rc) : List It := [numIt r.id.1, numIt r.id.2, numIt r.st, Bal.balIt r.bl, Bal.balIt r.tk]
def laidIt (r : Rc) (y : It) : It := .mk 2 0 ByteArray.empty (if r.st = 0 then fronts r else fronts r ++ [cmIt r.cm, y])
def recIt (r : Rc) : It := laidIt r (attIt r.at_)
def recItem (r : Rc) : It := if rgt r = true then recIt r else zeroIt
def oldRc (r : Rc) : It := laidIt r (oldIt r.at_)
def recOld (r : Rc) : It × Int := if rgt r = true then if r.at_.tg = 2 ∨ r.cm.kd = 6 then (zeroIt, 17) else (oldRc r, 0) else (zeroIt, 4)
theorem laid_none {r : Rc} (h : r.st = 0) (y z : It) : laidIt r y = laidIt r z := by
 unfold laidIt;rw [if_pos h, if_pos h]
theorem rec_laid {r : Rc} (h : rgt r = true) : laidIt r (attItem r.at_) = recIt r := by
 by_cases hs : r.st = 0
 · exact laid_none hs _ _
 · unfold recIt attItem
   rw [if_pos ((rgt_parts h).2.2.2.2.2.1 hs).2]
theorem old_laid {r : Rc} (h : rgt r = true) (ht : ¬ (r.at_.tg = 2 ∨ r.cm.kd = 6)) : laidIt r (attOld r.at_).1 = oldRc r := by
 by_cases hs : r.st = 0
 · exact laid_none hs _ _
 · obtain ⟨_, h2⟩ := (rgt_parts h).2.2.2.2.2.1 hs
   have h3 := achk_zero.1 h2;unfold oldRc attOld;rw [if_pos h2, if_pos (by rcases h3.1 with e | e; exact e; exact absurd (.inl e) ht)]
theorem wt_bal (b : Int × Int) : wt (Bal.balIt b) = 3 := by
 simp [Bal.balIt, wt, wts, numIt]
theorem wt_att {a : At} (h : achk a = 0) : wt (attIt a) ≤ 50000 ∧ wt (oldIt a) ≤ 50000 := by
 have h1 := wts_three h;have hl := achk_len h
 have e2 : wt (Ids.setIt a.dp) = 1 + a.dp.length * 2 := by
  show 1 + ByteArray.empty.size + wts (Ids.its a.dp) = _;rw [Ids.wts_its];rfl
 constructor
 · show 1 + ByteArray.empty.size + wts [Ids.numIt a.tg, Ids.numIt a.sq, Ids.setIt a.dp] ≤ _
   simp only [wts, e2];simp [Ids.numIt, wt, wts];omega
 · show 1 + ByteArray.empty.size + wts [Ids.numIt a.sq, Ids.setIt a.dp] ≤ _
   simp only [wts, e2];simp [Ids.numIt, wt, wts];omega
theorem wts_fronts (r : Rc) : wts (fronts r) = 9 := by
 unfold fronts;simp only [wts, wt_bal];simp [numIt, wt, wts]
theorem wts_seven {r : Rc} {y : It} (h : rgt r = true) (hs : ¬ r.st = 0) (hy : wt y ≤ 60000) : wts (fronts r ++ [cmIt r.cm, y]) ≤ 100000 := by
 have h1 := wt_item r.cm;rw [itemOf, if_pos ((rgt_parts h).2.2.2.2.2.1 hs).1] at h1;rw [wts_append, wts_fronts];simp only [wts];omega
end Go.Proofs.YtkejjdoaljoooaaGreatDoor.Rk
/- rec.form, and the document's laid: the item of a right record, with what it hangs on as told; in memory of the call's own, but for that. -/
namespace Go.Proofs.YtkejjdoaljoooaaGreatDoor.Rk
open Lib (hid)
open Go.RowKit Mem Ids Att Cod
def GivesUp (S : Nat → Prop) (w : World) (x : It) (e : Ending) (w' : World) : Prop :=
 ∃ V c, e = .returned (.agg #[.int .i64 x.kind, .int .u64 (x.num : Int), .string x.str, .slice V x.kids.length c]) ∧ Lies w' (fun b => (S b ∨ w.heap.size ≤ b) ∧ b < w'.heap.size) x V c ∧ Below w.heap.size w w'
def GivesList (w : World) (n : Nat) (l : List It) (e : Ending) (w' : World) : Prop :=
 ∃ V c, e = .returned (.agg #[.int .i64 2, .int .u64 0, .string ByteArray.empty, .slice V n c]) ∧ Lies w' (fun b => w.heap.size ≤ b ∧ b < w'.heap.size) (.mk 2 0 ByteArray.empty l) V c ∧ Below w.heap.size w w'
theorem GivesNew.list {w : World} {l : List It} {n : Nat} {e : Ending} {w' : World} (hn : l.length = n) (h : GivesNew w (.mk 2 0 ByteArray.empty l) e w') : GivesList w n l e w' := by
 obtain ⟨V, c, he, hl, hb⟩ := h;subst hn;exact ⟨V, c, he, hl, hb⟩
theorem row_own4 {w : World} {S : Nat → Prop} {base n c : Nat} {V : Option Addr} {hs : List Hung} (h : w.ownsRow base 95 4 (.slice V n c) n (cells4 hs)) (hL : ∀ h ∈ hs, Lies w S h.x h.A h.c) (hS : ∀ b, base ≤ b → b < w.heap.size → S b) :
 Cod.Row w S V n c (hs.map (·.x)) := by
 have hl := h.1;rw [length_cells4] at hl;have hn : hs.length = n := by omega
 rcases h.2 with ⟨hv, h0⟩ | ⟨g, cap, cur, hv, hb, hh, hnc, hm, _, _⟩
 · injection hv with e1 e2 e3
   subst e1; subst e3;exact Row.of_hung hn ⟨by omega, by omega, fun _ => rfl⟩ hL fun h => by omega
 · injection hv with e1 e2 e3
   subst e1; subst e3;unfold maxLen at hm;have hlt := (Array.getElem?_eq_some_iff.1 hh).1;exact Row.of_hung hn ⟨hnc, by omega, (fun e => by cases e)⟩ hL fun _ => ⟨_, rfl, hS g hb hlt, hlt, h.cells (g := g) rfl⟩
theorem held7 {w w' : World} {g : Nat} {t : TypeId} {v0 v1 v2 v3 v4 v5 v6 v7 v8 v9 v10 v11 v12 v13 v14 v15 : Value} (h1 : Blk w g t #[v0, v1, v2, v3, v4, v5, v6, v7, v8, v9, v10, v11, v12, v13, v14, v15]) (hb : Below w.heap.size w w') : w'.cell? ⟨g, 0, none⟩ = some v0 ∧ w'.cell? ⟨g, 1, none⟩ = some v1 ∧ w'.cell? ⟨g, 2, none⟩ = some v2 ∧ w'.cell? ⟨g, 3, none⟩ = some v3 ∧ w'.cell? ⟨g, 4, none⟩ = some v4 ∧ w'.cell? ⟨g, 5, none⟩ = some v5 ∧ w'.cell? ⟨g, 6, none⟩ = some v6 := by
 obtain ⟨x0, x1, x2, x3, x4, x5, x6, x7, x8, x9, x10, x11, x12, x13, x14, x15⟩ := blk16 (h1.bel hb);exact ⟨x0, x1, x2, x3, x4, x5, x6⟩
theorem held7a {w w' : World} {g : Nat} {t : TypeId} {v0 v1 v2 v3 v4 v5 v6 v7 v8 v9 v10 v11 v12 v13 v14 v15 : Value} (h1 : Blk w g t #[v0, v1, v2, v3, v4, v5, v6, v7, v8, v9, v10, v11, v12, v13, v14, v15]) (hb : Below w.heap.size w w') (o : Obj) : (w'.alloc o).cell? ⟨g, 0, none⟩ = some v0 ∧ (w'.alloc o).cell? ⟨g, 1, none⟩ = some v1 ∧ (w'.alloc o).cell? ⟨g, 2, none⟩ = some v2 ∧ (w'.alloc o).cell? ⟨g, 3, none⟩ = some v3 ∧ (w'.alloc o).cell? ⟨g, 4, none⟩ = some v4 ∧ (w'.alloc o).cell? ⟨g, 5, none⟩ = some v5 ∧ (w'.alloc o).cell? ⟨g, 6, none⟩ = some v6 := by
 obtain ⟨x0, x1, x2, x3, x4, x5, x6, x7, x8, x9, x10, x11, x12, x13, x14, x15⟩ := blk16 ((h1.bel hb).alloc o);exact ⟨x0, x1, x2, x3, x4, x5, x6⟩
theorem held10 {w w' : World} {g : Nat} {t : TypeId} {v0 v1 v2 v3 v4 v5 v6 v7 v8 v9 v10 v11 v12 v13 v14 v15 : Value} {k : Nat} {u : TypeId} {y0 y1 y2 y3 : Value} (h1 : Blk w g t #[v0, v1, v2, v3, v4, v5, v6, v7, v8, v9, v10, v11, v12, v13, v14, v15]) (h2 : Blk w k u #[y0, y1, y2, y3]) (hb : Below w.heap.size w w') : w'.cell? ⟨g, 7, none⟩ = some v7 ∧ w'.cell? ⟨g, 8, none⟩ = some v8 ∧ w'.cell? ⟨g, 9, none⟩ = some v9 ∧ w'.cell? ⟨g, 10, none⟩ = some v10 ∧ w'.cell? ⟨g, 11, none⟩ = some v11 ∧ w'.cell? ⟨g, 12, none⟩ = some v12 ∧ w'.cell? ⟨k, 0, none⟩ = some y0 ∧ w'.cell? ⟨k, 1, none⟩ = some y1 ∧ w'.cell? ⟨k, 2, none⟩ = some y2 ∧ w'.cell? ⟨k, 3, none⟩ = some y3 := by
 obtain ⟨x0, x1, x2, x3, x4, x5, x6, x7, x8, x9, x10, x11, x12, x13, x14, x15⟩ := blk16 (h1.bel hb);obtain ⟨z0, z1, z2, z3⟩ := blk4 (h2.bel hb);exact ⟨x7, x8, x9, x10, x11, x12, z0, z1, z2, z3⟩
theorem held10a {w w' : World} {g : Nat} {t : TypeId} {v0 v1 v2 v3 v4 v5 v6 v7 v8 v9 v10 v11 v12 v13 v14 v15 : Value} {k : Nat} {u : TypeId} {y0 y1 y2 y3 : Value} (h1 : Blk w g t #[v0, v1, v2, v3, v4, v5, v6, v7, v8, v9, v10, v11, v12, v13, v14, v15]) (h2 : Blk w k u #[y0, y1, y2, y3]) (hb : Below w.heap.size w w') (o : Obj) : (w'.alloc o).cell? ⟨g, 7, none⟩ = some v7 ∧ (w'.alloc o).cell? ⟨g, 8, none⟩ = some v8 ∧ (w'.alloc o).cell? ⟨g, 9, none⟩ = some v9 ∧ (w'.alloc o).cell? ⟨g, 10, none⟩ = some v10 ∧ (w'.alloc o).cell? ⟨g, 11, none⟩ = some v11 ∧ (w'.alloc o).cell? ⟨g, 12, none⟩ = some v12 ∧ (w'.alloc o).cell? ⟨k, 0, none⟩ = some y0 ∧ (w'.alloc o).cell? ⟨k, 1, none⟩ = some y1 ∧ (w'.alloc o).cell? ⟨k, 2, none⟩ = some y2 ∧ (w'.alloc o).cell? ⟨k, 3, none⟩ = some y3 := by
 obtain ⟨x0, x1, x2, x3, x4, x5, x6, x7, x8, x9, x10, x11, x12, x13, x14, x15⟩ := blk16 ((h1.bel hb).alloc o);obtain ⟨z0, z1, z2, z3⟩ := blk4 ((h2.bel hb).alloc o);exact ⟨x7, x8, x9, x10, x11, x12, z0, z1, z2, z3⟩
theorem held10g {w w' w3 : World} {g : Nat} {t : TypeId} {v0 v1 v2 v3 v4 v5 v6 v7 v8 v9 v10 v11 v12 v13 v14 v15 : Value} {k : Nat} {u : TypeId} {y0 y1 y2 y3 : Value} {row : Option Nat} (h1 : Blk w g t #[v0, v1, v2, v3, v4, v5, v6, v7, v8, v9, v10, v11, v12, v13, v14, v15]) (h2 : Blk w k u #[y0, y1, y2, y3]) (hb : Below w.heap.size w w') (o : Obj) (hg : (w'.alloc o).grownBy w3 row) (n1 : some g ≠ row) (n2 : some k ≠ row) : w3.cell? ⟨g, 7, none⟩ = some v7 ∧ w3.cell? ⟨g, 8, none⟩ = some v8 ∧ w3.cell? ⟨g, 9, none⟩ = some v9 ∧ w3.cell? ⟨g, 10, none⟩ = some v10 ∧ w3.cell? ⟨g, 11, none⟩ = some v11 ∧ w3.cell? ⟨g, 12, none⟩ = some v12 ∧ w3.cell? ⟨k, 0, none⟩ = some y0 ∧ w3.cell? ⟨k, 1, none⟩ = some y1 ∧ w3.cell? ⟨k, 2, none⟩ = some y2 ∧ w3.cell? ⟨k, 3, none⟩ = some y3 := by
 obtain ⟨x0, x1, x2, x3, x4, x5, x6, x7, x8, x9, x10, x11, x12, x13, x14, x15⟩ := blk16 (((h1.bel hb).alloc o).grown hg n1);obtain ⟨z0, z1, z2, z3⟩ := blk4 (((h2.bel hb).alloc o).grown hg n2);exact ⟨x7, x8, x9, x10, x11, x12, z0, z1, z2, z3⟩
def hung5 (r : Rc) (V3 : Option Addr) (c3 : Nat) (V4 : Option Addr) (c4 : Nat) : List Hung := [⟨Cmd.numIt r.id.1, none, 0⟩, ⟨Cmd.numIt r.id.2, none, 0⟩, ⟨Cmd.numIt r.st, none, 0⟩, ⟨Bal.balIt r.bl, V3, c3⟩, ⟨Bal.balIt r.tk, V4, c4⟩]
theorem hung5_cells (aR aN aS aB aC aT aU aK aL aQ : Int) (aY aV : ByteArray) (aZ : Int) (aE aG : Int) (al : List (Int × Int)) (h0 : 0 ≤ aR) (h1 : 0 ≤ aN) (h2 : 0 ≤ aS) (V3 : Option Addr) (c3 : Nat) (V4 : Option Addr) (c4 : Nat) : (#[.int .i64 0, .int .u64 aR, .string ByteArray.empty, .slice none 0 0, .int .i64 0, .int .u64 aN, .string ByteArray.empty, .slice none 0 0, .int .i64 0, .int .u64 aS, .string ByteArray.empty, .slice none 0 0, .int .i64 2, .int .u64 0, .string ByteArray.empty, .slice V3 2 c3, .int .i64 2, .int .u64 0, .string ByteArray.empty, .slice V4 2 c4] : Array Value).toList = cells4 (hung5 ⟨(aR, aN), aS, (aB, aC), (aT, aU), ⟨aK, aL, aQ, aY, aV, aZ⟩, ⟨al, aE, aG⟩⟩ V3 c3 V4 c4) := by
 have e0 : ((aR.toNat : Nat) : Int) = aR := Int.toNat_of_nonneg h0;have e1 : ((aN.toNat : Nat) : Int) = aN := Int.toNat_of_nonneg h1;have e2 : ((aS.toNat : Nat) : Int) = aS := Int.toNat_of_nonneg h2;show _ = [Value.int .i64 0, .int .u64 ((aR.toNat : Nat) : Int), .string ByteArray.empty, .slice none 0 0, .int .i64 0, .int .u64 ((aN.toNat : Nat) : Int), .string ByteArray.empty, .slice none 0 0, .int .i64 0, .int .u64 ((aS.toNat : Nat) : Int), .string ByteArray.empty, .slice none 0 0, .int .i64 2, .int .u64 0, .string ByteArray.empty, .slice V3 2 c3, .int .i64 2, .int .u64 0, .string ByteArray.empty, .slice V4 2 c4];rw [e0, e1, e2]
theorem hung5_lies {r : Rc} (h : rgt r = true) {w : World} {S : Nat → Prop} {V3 V4 : Option Addr} {c3 c4 : Nat} (h3 : Lies w S (Bal.balIt r.bl) V3 c3) (h4 : Lies w S (Bal.balIt r.tk) V4 c4) : ∀ h ∈ hung5 r V3 c3 V4 c4, Lies w S h.x h.A h.c := by
 obtain ⟨p1, p2, p3, _⟩ := rgt_parts h;intro x hx;simp only [hung5, List.mem_cons, List.not_mem_nil, or_false] at hx;rcases hx with rfl | rfl | rfl | rfl | rfl
 · exact lies_leaf _ _ (by decide) (by show r.id.1.toNat ≤ _; omega) (by decide)
 · exact lies_leaf _ _ (by decide) (by show r.id.2.toNat ≤ _; omega) (by decide)
 · exact lies_leaf _ _ (by decide) (by show r.st.toNat ≤ _; omega) (by decide)
 · exact h3
 · exact h4
set_option maxRecDepth 100000 in
set_option maxHeartbeats 4000000 in
theorem form_any (aR aN aS aB aC aT aU aK aL aQ : Int) (aY aV : ByteArray) (aZ : Int) (aA : Option Addr) (an ac : Nat) (aE aG : Int) (al : List (Int × Int)) (y : It) (yA : Option Addr) (yc : Nat) (S : Nat → Prop) (w : World) (hc : rgt ⟨(aR, aN), aS, (aB, aC), (aT, aU), ⟨aK, aL, aQ, aY, aV, aZ⟩, ⟨al, aE, aG⟩⟩ = true) (hy : Lies w S y yA yc) (hS : ∀ b, S b → b < w.heap.size) (hwt : wt y ≤ 60000) :
 Calls Tryz.prog 55 #[.agg #[.int .i64 aR, .int .i64 aN, .int .i64 aS, .int .i64 aB, .int .i64 aC, .int .i64 aT, .int .i64 aU, .int .i64 aK, .int .i64 aL, .int .i64 aQ, .string aY, .string aV, .int .i64 aZ, .slice aA an ac, .int .i64 aE, .int .i64 aG], .agg #[.int .i64 y.kind, .int .u64 (y.num : Int), .string y.str, .slice yA y.kids.length yc]] w (GivesUp S w (laidIt ⟨(aR, aN), aS, (aB, aC), (aT, aU), ⟨aK, aL, aQ, aY, aV, aZ⟩, ⟨al, aE, aG⟩⟩ y)) := by
 obtain ⟨i0, hi, hz0, hz1, hz2⟩ := info_parts info25;obtain ⟨g1, g2, g3, g4, g5, g6, _⟩ := rgt_parts hc;simp only at g1 g2 g3 g4 g5 g6;obtain ⟨ym, hym⟩ : ∃ ym, y.kids.length = ym := ⟨_, rfl⟩
 rw [hym];have HYM := hid hym;clear hym;obtain ⟨W, hW⟩ : ∃ W, ((w.alloc (.cells #[.int .i64 aR, .int .i64 aN, .int .i64 aS, .int .i64 aB, .int .i64 aC, .int .i64 aT, .int .i64 aU, .int .i64 aK, .int .i64 aL, .int .i64 aQ, .string aY, .string aV, .int .i64 aZ, .slice aA an ac, .int .i64 aE, .int .i64 aG] 43)).alloc (.cells #[.int .i64 y.kind, .int .u64 (y.num : Int), .string y.str, .slice yA ym yc] 95)).alloc (.cells #[.int .i64 0, .int .u64 0, .string ⟨#[]⟩, .slice none 0 0] 95) = W := ⟨_, rfl⟩
 obtain ⟨k1, k2, k3, kb, hsW⟩ := three_kinds w _ _ _ _ _ _ W hW;have HK := hid k1;have HY := hid k2;have HX := hid k3;have HB0 := hid kb;have HW := hid hW;have HYL := hid (hy.below kb hS);have HSS := hid hS;have HC := hid hc;have HWT := hid hwt;have H0 := hid (num_any aR);have u0 : IntKind.u64.wrap aR = aR := u64_in (by omega) (by omega);have H1 := hid (num_any aN);have u1 : IntKind.u64.wrap aN = aN := u64_in (by omega) (by omega);have H2 := hid (num_any aS);have u2 : IntKind.u64.wrap aS = aS := u64_in (by omega) (by omega);have HB1 := hid (fun w => (show Calls Tryz.prog 96 #[.agg #[.int .i64 aB, .int .i64 aC]] w (GivesNew w (Bal.balIt (aB, aC))) from (by have h := Bal.balitem_any aB aC w; rw [Bal.balItem, if_pos g4] at h; exact h)).mono fun _ _ h => GivesNew.list (n := 2) rfl h);have HB2 := hid (fun w => (show Calls Tryz.prog 96 #[.agg #[.int .i64 aT, .int .i64 aU]] w (GivesNew w (Bal.balIt (aT, aU))) from (by have h := Bal.balitem_any aT aU w; rw [Bal.balItem, if_pos g5] at h; exact h)).mono fun _ _ h => GivesNew.list (n := 2) rfl h);have HCM := hid (fun w (hs : ¬ aS = 0) => (show Calls Tryz.prog 97 #[.agg #[.int .i64 aK, .int .i64 aL, .int .i64 aQ, .string aY, .string aV, .int .i64 aZ]] w (GivesNew w (Cmd.cmIt ⟨aK, aL, aQ, aY, aV, aZ⟩)) from by have hcc := (g6 hs).1; exact (by have h := Cw.cmitem_new aK aL aQ aY aV aZ w; rw [Cmd.itemOf, if_pos hcc] at h; exact h)).mono fun _ _ h => GivesNew.list (n := 6) rfl h);have HR5 := hid (hung5_cells aR aN aS aB aC aT aU aK aL aQ aY aV aZ aE aG al g1.1 g2.1 g3.1);obtain ⟨p0, p1, p2, p3, p4, p5, p6, p7, p8, p9, p10, p11, p12, p13, p14, p15⟩ := blk16 k1;have hwW : w.heap.size < W.heap.size := by omega
 have HSW := hid hsW;clear k1 k2 k3 kb hW hy hS hc hwt g1 g2 g3 g4 g5 g6 hsW;go_enter Tryz.func55, Tryz.ntmps55
 go_wp2_with fail
 rw [HW.out];have HCUR := hid (Below.drew (Below.refl W.heap.size W))
 go_region_held3 (fun w' => w'.cell? ⟨w.heap.size, 0, none⟩ = some (.int .i64 aR) ∧ w'.cell? ⟨w.heap.size, 1, none⟩ = some (.int .i64 aN) ∧ w'.cell? ⟨w.heap.size, 2, none⟩ = some (.int .i64 aS) ∧ w'.cell? ⟨w.heap.size, 3, none⟩ = some (.int .i64 aB) ∧ w'.cell? ⟨w.heap.size, 4, none⟩ = some (.int .i64 aC) ∧ w'.cell? ⟨w.heap.size, 5, none⟩ = some (.int .i64 aT) ∧ w'.cell? ⟨w.heap.size, 6, none⟩ = some (.int .i64 aU)) (first | (with_reducible exact held7a HK.out HCUR.out _) | (with_reducible exact held7 HK.out HCUR.out))
  (first
  | (go_at_call 67
     refine (H0.out _).mono ?_;rintro e v1 ⟨rfl, hb1⟩;have hnow := HCUR.out.trans (hb1.mono HCUR.out.size);replace HCUR := hid hnow;clear H0 hb1 hnow)
  | (go_at_call 67
     refine (H1.out _).mono ?_;rintro e v1 ⟨rfl, hb1⟩;have hnow := HCUR.out.trans (hb1.mono HCUR.out.size);replace HCUR := hid hnow;clear H1 hb1 hnow)
  | (go_at_call 67
     refine (H2.out _).mono ?_;rintro e v1 ⟨rfl, hb1⟩;have hnow := HCUR.out.trans (hb1.mono HCUR.out.size);replace HCUR := hid hnow;clear H2 hb1 hnow)
  | (go_at_call 96
     refine (HB1.out _).mono ?_;rintro e v1 ⟨V3, c3, rfl, hl3, hb1⟩;have hnow := HCUR.out.trans (hb1.mono HCUR.out.size);have HL3 := hid (hl3.more (S' := fun b => W.heap.size ≤ b ∧ b < v1.heap.size) fun b hb _ => ⟨Nat.le_trans HCUR.out.size hb.1, hb.2⟩);replace HCUR := hid hnow;clear HB1 hb1 hnow hl3)
  | (go_at_call 96
     refine (HB2.out _).mono ?_;rintro e v2 ⟨V4, c4, rfl, hl4, hb1⟩;have hnow := HCUR.out.trans (hb1.mono HCUR.out.size);have HL4 := hid (hl4.more (S' := fun b => W.heap.size ≤ b ∧ b < v2.heap.size) fun b hb _ => ⟨Nat.le_trans HCUR.out.size hb.1, hb.2⟩);replace HL3 := hid ((HL3.out.below hb1 (fun b hb => hb.2)).more (S' := fun b => W.heap.size ≤ b ∧ b < v2.heap.size) fun b hb _ => ⟨hb.1, Nat.lt_of_lt_of_le hb.2 hb1.size⟩);replace HCUR := hid hnow;clear HB2 hb1 hnow hl4))
 have hown := (congrArg (fun l => World.ownsRow (v2.alloc (.cells #[.int .i64 0, .int .u64 aR, .string ByteArray.empty, .slice none 0 0, .int .i64 0, .int .u64 aN, .string ByteArray.empty, .slice none 0 0, .int .i64 0, .int .u64 aS, .string ByteArray.empty, .slice none 0 0, .int .i64 2, .int .u64 0, .string ByteArray.empty, .slice V3 2 c3, .int .i64 2, .int .u64 0, .string ByteArray.empty, .slice V4 2 c4] 95)) W.heap.size 95 4 (.slice (some ⟨v2.heap.size, 0, none⟩) 5 5) 5 l) (HR5.out V3 c3 V4 c4)).mp (World.ownsRow_lit (base := W.heap.size) (e := 95) (size := 4) v2 #[.int .i64 0, .int .u64 aR, .string ByteArray.empty, .slice none 0 0, .int .i64 0, .int .u64 aN, .string ByteArray.empty, .slice none 0 0, .int .i64 0, .int .u64 aS, .string ByteArray.empty, .slice none 0 0, .int .i64 2, .int .u64 0, .string ByteArray.empty, .slice V3 2 c3, .int .i64 2, .int .u64 0, .string ByteArray.empty, .slice V4 2 c4] 5 HCUR.out.size (by decide) rfl);have hs5 := size_alloc v2 (.cells #[.int .i64 0, .int .u64 aR, .string ByteArray.empty, .slice none 0 0, .int .i64 0, .int .u64 aN, .string ByteArray.empty, .slice none 0 0, .int .i64 0, .int .u64 aS, .string ByteArray.empty, .slice none 0 0, .int .i64 2, .int .u64 0, .string ByteArray.empty, .slice V3 2 c3, .int .i64 2, .int .u64 0, .string ByteArray.empty, .slice V4 2 c4] 95);have hbw := HCUR.out.alloc HCUR.out.size (.cells #[.int .i64 0, .int .u64 aR, .string ByteArray.empty, .slice none 0 0, .int .i64 0, .int .u64 aN, .string ByteArray.empty, .slice none 0 0, .int .i64 0, .int .u64 aS, .string ByteArray.empty, .slice none 0 0, .int .i64 2, .int .u64 0, .string ByteArray.empty, .slice V3 2 c3, .int .i64 2, .int .u64 0, .string ByteArray.empty, .slice V4 2 c4] 95);replace HL3 := hid (HL3.out.alloc (.cells #[.int .i64 0, .int .u64 aR, .string ByteArray.empty, .slice none 0 0, .int .i64 0, .int .u64 aN, .string ByteArray.empty, .slice none 0 0, .int .i64 0, .int .u64 aS, .string ByteArray.empty, .slice none 0 0, .int .i64 2, .int .u64 0, .string ByteArray.empty, .slice V3 2 c3, .int .i64 2, .int .u64 0, .string ByteArray.empty, .slice V4 2 c4] 95));replace HL4 := hid (HL4.out.alloc (.cells #[.int .i64 0, .int .u64 aR, .string ByteArray.empty, .slice none 0 0, .int .i64 0, .int .u64 aN, .string ByteArray.empty, .slice none 0 0, .int .i64 0, .int .u64 aS, .string ByteArray.empty, .slice none 0 0, .int .i64 2, .int .u64 0, .string ByteArray.empty, .slice V3 2 c3, .int .i64 2, .int .u64 0, .string ByteArray.empty, .slice V4 2 c4] 95));generalize v2.alloc (.cells #[.int .i64 0, .int .u64 aR, .string ByteArray.empty, .slice none 0 0, .int .i64 0, .int .u64 aN, .string ByteArray.empty, .slice none 0 0, .int .i64 0, .int .u64 aS, .string ByteArray.empty, .slice none 0 0, .int .i64 2, .int .u64 0, .string ByteArray.empty, .slice V3 2 c3, .int .i64 2, .int .u64 0, .string ByteArray.empty, .slice V4 2 c4] 95) = W5 at hown hs5 hbw HL3 HL4 ⊢;have HO := hid hown;have HBW := hid hbw;have HS5 := hid hs5;have HSV := hid HCUR.out.size;obtain ⟨q0, q1, q2, q3, q4, q5, q6, q7, q8, q9, q10, q11, q12, q13, q14, q15⟩ := blk16 (HK.out.bel hbw);obtain ⟨y0, y1, y2, y3⟩ := blk4 (HY.out.bel hbw);have hblk := HX.out.bel hbw;clear hown hs5 hbw HCUR p0 p1 p2 p3 p4 p5 p6 p7 p8 p9 p10 p11 p12 p13 p14 p15;by_cases hs : aS = 0
 case pos =>
  have b0 : (aS != 0) = false := by simpa using hs
  have hrow := row_own4 (S := fun b => (S b ∨ W.heap.size ≤ b) ∧ b < W5.heap.size) HO.out (hung5_lies HC.out (HL3.out.more fun b hb _ => ⟨.inr hb.1, by have := HS5.out; omega⟩) (HL4.out.more fun b hb _ => ⟨.inr hb.1, by have := HS5.out; omega⟩)) (fun b hb hb' => ⟨.inr hb, hb'⟩);have HIT := hid (show laidIt ⟨(aR, aN), aS, (aB, aC), (aT, aU), ⟨aK, aL, aQ, aY, aV, aZ⟩, ⟨al, aE, aG⟩⟩ y = .mk 2 0 ByteArray.empty (fronts ⟨(aR, aN), aS, (aB, aC), (aT, aU), ⟨aK, aL, aQ, aY, aV, aZ⟩, ⟨al, aE, aG⟩⟩) from by unfold laidIt; rw [if_pos hs]);have HROW := hid hrow;have HBK := hid hblk;clear hrow hblk hs HCM y0 y1 y2 y3;go_wp2_with fail
  refine (list_more (some ⟨v2.heap.size, 0, none⟩) 5 5 _ (fronts ⟨(aR, aN), aS, (aB, aC), (aT, aU), ⟨aK, aL, aQ, aY, aV, aZ⟩, ⟨al, aE, aG⟩⟩) W5 HROW.out (fun b hb => hb.2) (by rw [wts_fronts]; decide)).mono ?_;rintro e w5 ⟨V9, c9, rfl, hr5, hb5⟩;have hq5 := hr5.more (S' := fun b => (S b ∨ W.heap.size ≤ b) ∧ b < w5.heap.size) fun b hb _ => ⟨by rcases hb.2 with h | h; exact h.1; exact .inr (by have := HBW.out.size; omega), hb.1⟩
  have hz5 := hb5.size;have hblk5 := HBK.out.bel hb5;obtain ⟨c0, c1, c2, c3'⟩ := blk4 hblk5;have z0 := hblk5.soft 0;have z1 := hblk5.soft 1;have z2 := hblk5.soft 2;have z3 := hblk5.soft 3;have HQ5 := hid hq5;have HB5 := hid (HBW.out.trans (hb5.mono HBW.out.size));have HZ5 := hid hz5;clear hq5 hb5 hz5 hr5;go_wp2_with fail
  obtain ⟨hblk2, hgr⟩ := blk4_set hblk5 (.int .i64 2) (.int .u64 0) (.string ByteArray.empty) (.slice V9 5 c9);generalize (((w5.setCell ⟨w.heap.size + 2, 0, none⟩ (.int .i64 2)).setCell ⟨w.heap.size + 2, 1, none⟩ (.int .u64 0)).setCell ⟨w.heap.size + 2, 2, none⟩ (.string ByteArray.empty)).setCell ⟨w.heap.size + 2, 3, none⟩ (.slice V9 5 c9) = w9 at hblk2 hgr ⊢;obtain ⟨d0, d1, d2, d3⟩ := blk4 hblk2;refine bodyPost_ret (v := .agg #[.int .i64 2, .int .u64 0, .string ByteArray.empty, .slice V9 5 c9]) (by simp [results, Tryz.results55, go_sem, d0, d1, d2, d3]) rfl ?_;have hs9 := hgr.size;have e1 := HSW.out;have e2 := HB5.out.size;have hrow9 : Cod.Row w9 (fun b => (S b ∨ w.heap.size ≤ b) ∧ b < w9.heap.size) V9 5 c9 (fronts ⟨(aR, aN), aS, (aB, aC), (aT, aU), ⟨aK, aL, aQ, aY, aV, aZ⟩, ⟨al, aE, aG⟩⟩) := (HQ5.out.grown hgr (fun b hb e => by injection e with e; rcases hb.1 with h | h; have := HSS.out b h; omega; omega)).more fun b hb _ => ⟨by rcases hb.1 with h | h; exact .inl h; exact .inr (by omega), by omega⟩
  rw [HIT.out];refine ⟨V9, c9, rfl, hrow9.lies (by omega) (by omega) (by decide), ?_⟩;exact (HB0.out.trans (HB5.out.mono (by omega))).trans (gr_below hgr (by omega) fun b hb => by injection hb with hb; omega)
 have b0 : (aS != 0) = true := by simpa using hs
 have HIT := hid (show laidIt ⟨(aR, aN), aS, (aB, aC), (aT, aU), ⟨aK, aL, aQ, aY, aV, aZ⟩, ⟨al, aE, aG⟩⟩ y = .mk 2 0 ByteArray.empty (fronts ⟨(aR, aN), aS, (aB, aC), (aT, aU), ⟨aK, aL, aQ, aY, aV, aZ⟩, ⟨al, aE, aG⟩⟩ ++ [Cmd.cmIt ⟨aK, aL, aQ, aY, aV, aZ⟩, y]) from by unfold laidIt; rw [if_neg hs]);have HCUR := hid (Below.drew (Below.refl W5.heap.size W5));have HK5 := hid (HK.out.bel HBW.out);have HY5 := hid (HY.out.bel HBW.out);have HC7 := hid (HCM.out · hs);have HSZ := hid (wts_seven HC.out hs HWT.out);have HBK0 := hid hblk;have HYL5 := hid (HYL.out.below HBW.out (fun b hb => by have := HSS.out b hb; have := HSW.out; omega));have h5W := HS5.out;have hWv := HSV.out;have HN1 := hid (show some w.heap.size ≠ (Value.slice (some ⟨v2.heap.size, 0, none⟩) 5 5).ownBlock from fun e => by simp [Value.ownBlock] at e; omega);have HN2 := hid (show some (w.heap.size + 1) ≠ (Value.slice (some ⟨v2.heap.size, 0, none⟩) 5 5).ownBlock from fun e => by simp [Value.ownBlock] at e; have := HSW.out; omega);clear hs hblk HCM;go_wp2_with fail
 go_region_held3 (fun w' => w'.cell? ⟨w.heap.size, 7, none⟩ = some (.int .i64 aK) ∧ w'.cell? ⟨w.heap.size, 8, none⟩ = some (.int .i64 aL) ∧ w'.cell? ⟨w.heap.size, 9, none⟩ = some (.int .i64 aQ) ∧ w'.cell? ⟨w.heap.size, 10, none⟩ = some (.string aY) ∧ w'.cell? ⟨w.heap.size, 11, none⟩ = some (.string aV) ∧ w'.cell? ⟨w.heap.size, 12, none⟩ = some (.int .i64 aZ) ∧ w'.cell? ⟨w.heap.size + 1, 0, none⟩ = some (.int .i64 y.kind) ∧ w'.cell? ⟨w.heap.size + 1, 1, none⟩ = some (.int .u64 (y.num : Int)) ∧ w'.cell? ⟨w.heap.size + 1, 2, none⟩ = some (.string y.str) ∧ w'.cell? ⟨w.heap.size + 1, 3, none⟩ = some (.slice yA ym yc)) (first | (with_reducible exact HS3.out) | (with_reducible exact held10a HK5.out HY5.out HCUR.out _) | (with_reducible exact held10 HK5.out HY5.out HCUR.out))
  (first
  | (go_at_call 97
     refine (HC7.out _).mono ?_;rintro e v3 ⟨V5, c5, rfl, hl5, hb1⟩;have hnow := HCUR.out.trans (hb1.mono HCUR.out.size);have HL5 := hid (hl5.more (S' := fun b => W5.heap.size ≤ b ∧ b < v3.heap.size) fun b hb _ => ⟨Nat.le_trans HCUR.out.size hb.1, hb.2⟩);have HO2 := hid (ownsRow_below HO.out hnow);have HNW := hid (World.news_of_block (Blk.new v3 95 #[.int .i64 2, .int .u64 0, .string ByteArray.empty, .slice V5 6 c5, .int .i64 y.kind, .int .u64 (y.num : Int), .string y.str, .slice yA ym yc]));have hsv := hnow.size;replace HCUR := hid hnow;clear HC7 hb1 hnow hl5)
  | (refine step_append_lies _ rfl (.tmp 30) (.tmp 35) 93 rfl W.heap.size 95 i0 _ 4 56 Tryz.underlying93 hi hz0 hz1 hz2 rfl (by omega) (.slice (some ⟨v2.heap.size, 0, none⟩) 5 5) 5 _ (by simp [Act.eval]) (HO2.out.alloc _) ⟨v3.heap.size, 0, none⟩ 2 2 [.int .i64 2, .int .u64 0, .string ByteArray.empty, .slice V5 6 c5, .int .i64 y.kind, .int .u64 (y.num : Int), .string y.str, .slice yA ym yc] (by simp [Act.eval]) rfl HNW.out (by intro u hu; simp at hu; rcases hu with rfl | rfl | rfl | rfl | rfl | rfl | rfl | rfl <;> rfl) (by omega) (by unfold maxLen; omega) (by omega) (by rw [size_alloc]; omega) (v3.heap.size + 1) (size_alloc _ _) ?_
     intro g3 cap3 w3 hown3 hgrow3 _ _;have HS3 := hid (held10g HK5.out HY5.out HCUR.out _ hgrow3 HN1.out HN2.out);have HO3 := hid hown3;have HG3 := hid hgrow3;clear hown3 hgrow3))
 have hb3 : Below W.heap.size W w3 := ((HBW.out.trans (HCUR.out.mono HBW.out.size)).alloc (Nat.le_trans HBW.out.size HCUR.out.size) (.cells #[.int .i64 2, .int .u64 0, .string ByteArray.empty, .slice V5 6 c5, .int .i64 y.kind, .int .u64 (y.num : Int), .string y.str, .slice yA ym yc] 95)).trans (gr_below HG3.out (by rw [size_alloc]; omega) fun b hb => by simp [Value.ownBlock] at hb; omega);have hne : ∀ b, b ≠ v2.heap.size → some b ≠ (Value.slice (some ⟨v2.heap.size, 0, none⟩) 5 5).ownBlock := fun b hb e => by simp [Value.ownBlock] at e; omega
 have hs3 := HG3.out.size;rw [size_alloc] at hs3;have l3 := (((HL3.out.below HCUR.out (fun b hb => by omega)).alloc (.cells #[.int .i64 2, .int .u64 0, .string ByteArray.empty, .slice V5 6 c5, .int .i64 y.kind, .int .u64 (y.num : Int), .string y.str, .slice yA ym yc] 95)).grown HG3.out (fun b hb => hne b (by omega))).more (S' := fun b => (S b ∨ W.heap.size ≤ b) ∧ b < w3.heap.size) fun b hb _ => ⟨.inr hb.1, by omega⟩
 have l4 := (((HL4.out.below HCUR.out (fun b hb => by omega)).alloc (.cells #[.int .i64 2, .int .u64 0, .string ByteArray.empty, .slice V5 6 c5, .int .i64 y.kind, .int .u64 (y.num : Int), .string y.str, .slice yA ym yc] 95)).grown HG3.out (fun b hb => hne b (by omega))).more (S' := fun b => (S b ∨ W.heap.size ≤ b) ∧ b < w3.heap.size) fun b hb _ => ⟨.inr hb.1, by omega⟩
 have l5 := ((HL5.out.alloc (.cells #[.int .i64 2, .int .u64 0, .string ByteArray.empty, .slice V5 6 c5, .int .i64 y.kind, .int .u64 (y.num : Int), .string y.str, .slice yA ym yc] 95)).grown HG3.out (fun b hb => hne b (by omega))).more (S' := fun b => (S b ∨ W.heap.size ≤ b) ∧ b < w3.heap.size) fun b hb _ => ⟨.inr (by omega), by omega⟩
 have l6 := (((HYL5.out.below HCUR.out (fun b hb => by have := HSS.out b hb; omega)).alloc (.cells #[.int .i64 2, .int .u64 0, .string ByteArray.empty, .slice V5 6 c5, .int .i64 y.kind, .int .u64 (y.num : Int), .string y.str, .slice yA ym yc] 95)).grown HG3.out (fun b hb => hne b (by have := HSS.out b hb; omega))).more (S' := fun b => (S b ∨ W.heap.size ≤ b) ∧ b < w3.heap.size) fun b hb _ => ⟨.inl hb, by have := HSS.out b hb; omega⟩
 have hown7 : w3.ownsRow W.heap.size 95 4 (.slice (some ⟨g3, 0, none⟩) 7 cap3) 7 (cells4 (hung5 ⟨(aR, aN), aS, (aB, aC), (aT, aU), ⟨aK, aL, aQ, aY, aV, aZ⟩, ⟨al, aE, aG⟩⟩ V3 c3 V4 c4 ++ [⟨Cmd.cmIt ⟨aK, aL, aQ, aY, aV, aZ⟩, V5, c5⟩, ⟨y, yA, yc⟩])) := by
  have h := HO3.out;rw [cells4_append]
  have e : cells4 [(⟨Cmd.cmIt ⟨aK, aL, aQ, aY, aV, aZ⟩, V5, c5⟩ : Hung), ⟨y, yA, yc⟩] = [.int .i64 2, .int .u64 0, .string ByteArray.empty, .slice V5 6 c5, .int .i64 y.kind, .int .u64 (y.num : Int), .string y.str, .slice yA ym yc] := by
   rw [← HYM.out];rfl
  rw [e];exact h
 have hrow := row_own4 (S := fun b => (S b ∨ W.heap.size ≤ b) ∧ b < w3.heap.size) hown7 (by
  intro h hh;rcases List.mem_append.1 hh with hh | hh
  · exact hung5_lies HC.out l3 l4 h hh
  · simp only [List.mem_cons, List.not_mem_nil, or_false] at hh
    rcases hh with rfl | rfl
    · exact l5
    · exact l6) (fun b hb hb' => ⟨.inr hb, hb'⟩)
 have HROW := hid (show Cod.Row w3 (fun b => (S b ∨ W.heap.size ≤ b) ∧ b < w3.heap.size) (some ⟨g3, 0, none⟩) 7 cap3 (fronts ⟨(aR, aN), aS, (aB, aC), (aT, aU), ⟨aK, aL, aQ, aY, aV, aZ⟩, ⟨al, aE, aG⟩⟩ ++ [Cmd.cmIt ⟨aK, aL, aQ, aY, aV, aZ⟩, y]) from hrow);have HB3 := hid hb3;have HBK := hid (HX.out.bel hb3);clear hb3 hne hs3 l3 l4 l5 l6 hown7 hrow;go_wp2_with fail
 refine (list_more (some ⟨g3, 0, none⟩) 7 cap3 _ (fronts ⟨(aR, aN), aS, (aB, aC), (aT, aU), ⟨aK, aL, aQ, aY, aV, aZ⟩, ⟨al, aE, aG⟩⟩ ++ [Cmd.cmIt ⟨aK, aL, aQ, aY, aV, aZ⟩, y]) w3 HROW.out (fun b hb => hb.2) HSZ.out).mono ?_;rintro e w5 ⟨V9, c9, rfl, hr5, hb5⟩;have hq5 := hr5.more (S' := fun b => (S b ∨ W.heap.size ≤ b) ∧ b < w5.heap.size) fun b hb _ => ⟨by rcases hb.2 with h | h; exact h.1; exact .inr (by have := HB3.out.size; omega), hb.1⟩
 have hz5 := hb5.size;have hblk5 := HBK.out.bel hb5;obtain ⟨c0, c1, c2, c3'⟩ := blk4 hblk5;have z0 := hblk5.soft 0;have z1 := hblk5.soft 1;have z2 := hblk5.soft 2;have z3 := hblk5.soft 3;have HQ5 := hid hq5;have HB5 := hid (HB3.out.trans (hb5.mono HB3.out.size));have HZ5 := hid hz5;clear hq5 hb5 hz5 hr5;go_wp2_with fail
 obtain ⟨hblk2, hgr⟩ := blk4_set hblk5 (.int .i64 2) (.int .u64 0) (.string ByteArray.empty) (.slice V9 7 c9);generalize (((w5.setCell ⟨w.heap.size + 2, 0, none⟩ (.int .i64 2)).setCell ⟨w.heap.size + 2, 1, none⟩ (.int .u64 0)).setCell ⟨w.heap.size + 2, 2, none⟩ (.string ByteArray.empty)).setCell ⟨w.heap.size + 2, 3, none⟩ (.slice V9 7 c9) = w9 at hblk2 hgr ⊢;obtain ⟨d0, d1, d2, d3⟩ := blk4 hblk2;refine bodyPost_ret (v := .agg #[.int .i64 2, .int .u64 0, .string ByteArray.empty, .slice V9 7 c9]) (by simp [results, Tryz.results55, go_sem, d0, d1, d2, d3]) rfl ?_;have hs9 := hgr.size;have e1 := HSW.out;have e2 := HB5.out.size;have hrow9 : Cod.Row w9 (fun b => (S b ∨ w.heap.size ≤ b) ∧ b < w9.heap.size) V9 7 c9 (fronts ⟨(aR, aN), aS, (aB, aC), (aT, aU), ⟨aK, aL, aQ, aY, aV, aZ⟩, ⟨al, aE, aG⟩⟩ ++ [Cmd.cmIt ⟨aK, aL, aQ, aY, aV, aZ⟩, y]) := (HQ5.out.grown hgr (fun b hb e => by injection e with e; rcases hb.1 with h | h; have := HSS.out b h; omega; omega)).more fun b hb _ => ⟨by rcases hb.1 with h | h; exact .inl h; exact .inr (by omega), by omega⟩
 rw [HIT.out];refine ⟨V9, c9, rfl, hrow9.lies (by omega) (by omega) (by decide), ?_⟩;exact (HB0.out.trans (HB5.out.mono (by omega))).trans (gr_below hgr (by omega) fun b hb => by injection hb with hb; omega)
end Go.Proofs.YtkejjdoaljoooaaGreatDoor.Rk
/- rec's parts: the next one of them, counted; a part that is a number. -/
namespace Go.Proofs.YtkejjdoaljoooaaGreatDoor.Rk
open Lib (hid)
open Go.RowKit Mem Ids Att Cod
def up1 (k n : Nat) : Nat := if k = n then k else k + 1
def NextsAt (S : Nat → Prop) (w : World) (p : Nat) (A : Option Addr) (n c k : Nat) (y : It) (e : Ending) (w' : World) : Prop :=
 ∃ V cv, e = .returned (.agg #[.int .i64 y.kind, .int .u64 (y.num : Int), .string y.str, .slice V y.kids.length cv]) ∧ Lies w' S y V cv ∧ w.grownBy w' (some p) ∧ Blk w' p 168 #[.slice A n c, .int .i64 (up1 k n : Int)]
theorem row_at {w : World} {S : Nat → Prop} {A : Option Addr} {n c k : Nat} {l : List It} (h : Cod.Row w S A n c l) (hk : k < n) :
 ∃ g o A' c', A = some ⟨g, o, none⟩ ∧ S g ∧ g < w.heap.size ∧ w.cell? ⟨g, o + k * 4, none⟩ = some (.int .i64 (l.getD k Cmd.zeroIt).kind) ∧ w.cell? ⟨g, o + k * 4 + 1, none⟩ = some (.int .u64 ((l.getD k Cmd.zeroIt).num : Int)) ∧ w.cell? ⟨g, o + k * 4 + 2, none⟩ = some (.string (l.getD k Cmd.zeroIt).str) ∧ w.cell? ⟨g, o + k * 4 + 3, none⟩ = some (.slice A' (l.getD k Cmd.zeroIt).kids.length c') ∧ Lies w S (l.getD k Cmd.zeroIt) A' c' := by
 have hl : Lies w S (.mk 0 0 ByteArray.empty l) A c := by
  have := h.lies (k := 0) (n := 0) (s := ByteArray.empty) (by decide) (by decide) (by decide);exact this
 have hn : l.length = n := h.1;obtain ⟨g, o, A', c', e, hS, hg, r0, r1, r2, r3, hly⟩ := lies_kid hl (i := k) (by show k < l.length; omega)
 have hy : (It.mk 0 0 ByteArray.empty l).kids[k]'(by show k < l.length; omega) = l.getD k Cmd.zeroIt := by
  show l[k]'(by omega) = _;rw [List.getD_eq_getElem?_getD, List.getElem?_eq_getElem (by omega)];rfl
 rw [hy] at r0 r1 r2 r3 hly;exact ⟨g, o, A', c', e, hS, hg, r0, r1, r2, r3, hly⟩
set_option maxRecDepth 100000 in
set_option maxHeartbeats 4000000 in
theorem next_any (p : Nat) (A : Option Addr) (n c k : Nat) (l : List It) (S : Nat → Prop) (w : World) (hr : Cod.Row w S A n c l) (hk : k ≤ n) (hn : n ≤ 1000000000) (hp : Blk w p 168 #[.slice A n c, .int .i64 (k : Int)]) (hSp : ¬ S p) (hS : ∀ b, S b → b < w.heap.size) :
 Calls Tryz.prog 98 #[.pointer (some ⟨p, 0, none⟩)] w (NextsAt S w p A n c k (l.getD k Cmd.zeroIt)) := by
 obtain ⟨y, hy⟩ : ∃ y, l.getD k Cmd.zeroIt = y := ⟨_, rfl⟩
 rw [hy];have HY := hid hy;clear hy;have hb := bel_alloc (Below.refl w.heap.size w) (.cells #[.int .i64 0, .int .u64 0, .string ⟨#[]⟩, .slice none 0 0] 95);have hx := Blk.new w 95 #[.int .i64 0, .int .u64 0, .string ⟨#[]⟩, .slice none 0 0];have hpl := hp.lt;have hpa := hp.alloc (.cells #[.int .i64 0, .int .u64 0, .string ⟨#[]⟩, .slice none 0 0] 95);have hra := hr.below hb hS;have hsz := size_alloc w (.cells #[.int .i64 0, .int .u64 0, .string ⟨#[]⟩, .slice none 0 0] 95);obtain ⟨W, hW⟩ : ∃ W, w.alloc (.cells #[.int .i64 0, .int .u64 0, .string ⟨#[]⟩, .slice none 0 0] 95) = W := ⟨_, rfl⟩
 rw [hW] at hb hx hpa hra hsz;have HW := hid hW;have HB := hid hb;have HX := hid hx;have HP := hid hpa;have HR := hid hra;have HSS := hid hS;have HSP := hid hSp;have p0 := hpa.cell 0;have p1 := hpa.cell 1;simp at p0 p1;have hlt : p < W.heap.size := by omega
 clear hW hb hx hpa hra hS hSp hr hp;go_enter Tryz.func98, Tryz.ntmps98
 go_wp2_with fail
 rw [HW.out];by_cases hkn : k = n
 · have b1 : ((k : Int) == (n : Int)) = true := by rw [hkn]; simp
   go_region_held3 (fun w' => w'.cell? ⟨p, 0, none⟩ = some (.slice A n c) ∧ w'.cell? ⟨p, 1, none⟩ = some (.int .i64 (k : Int))) (go_keep) (fail)
   have HBX := hid (HX.out);obtain ⟨c0, c1, c2, c3⟩ := blk4 HBX.out;have z0 := HBX.out.soft 0;have z1 := HBX.out.soft 1;have z2 := HBX.out.soft 2;have z3 := HBX.out.soft 3;go_wp2_with fail
   obtain ⟨hblk2, hgr⟩ := blk4_set HBX.out (.int .i64 0) (.int .u64 0) (.string ⟨#[]⟩) (.slice none 0 0);have hp9 := HP.out.grown hgr (fun e => by injection e with e; omega);generalize (((W.setCell ⟨w.heap.size, 0, none⟩ (.int .i64 0)).setCell ⟨w.heap.size, 1, none⟩ (.int .u64 0)).setCell ⟨w.heap.size, 2, none⟩ (.string ⟨#[]⟩)).setCell ⟨w.heap.size, 3, none⟩ (.slice none 0 0) = w9 at hblk2 hgr hp9 ⊢;obtain ⟨d0, d1, d2, d3⟩ := blk4 hblk2;refine bodyPost_ret (v := .agg #[.int .i64 0, .int .u64 0, .string ByteArray.empty, .slice none 0 0]) (by simp [results, Tryz.results98, go_sem, d0, d1, d2, d3]; rfl) rfl ?_
   have hz : y = Cmd.zeroIt := by
    rw [← HY.out];have := HR.out.1;rw [List.getD_eq_getElem?_getD, List.getElem?_eq_none (by omega)];rfl
   rw [hz];have hu : up1 k n = k := if_pos hkn;refine ⟨none, 0, rfl, lies_leaf _ _ (by decide) (by decide) (by decide), gr_drew (gr_step (below_gr HB.out _) hgr fun b hb => by injection hb with hb; exact .inl (by omega)), ?_⟩;rw [hu];exact hp9.drew
 · have b1 : ((k : Int) == (n : Int)) = false := beq_false_of_ne (by omega)
   go_region_held3 (fun w' => w'.cell? ⟨p, 0, none⟩ = some (.slice A n c) ∧ w'.cell? ⟨p, 1, none⟩ = some (.int .i64 (k : Int))) (go_keep) (fail)
   have z0 := HP.out.soft 1;have hw1 : IntKind.i64.wrap ((k : Int) + 1) = (k : Int) + 1 := wrap64 (by omega) (by omega);have hw2 : IntKind.i64.wrap ((k : Int) + 1 - 1) = (k : Int) := (by rw [wrap64 (by omega) (by omega)]; omega);go_wp2_with fail
   have hp2 : Blk (W.setCell ⟨p, 1, none⟩ (.int .i64 ((k : Int) + 1))).drew p 168 #[.slice A n c, .int .i64 ((k : Int) + 1)] := (by simpa using (HP.out.put 1 (.int .i64 ((k : Int) + 1))).drew);have hg2 : W.grownBy (W.setCell ⟨p, 1, none⟩ (.int .i64 ((k : Int) + 1))).drew (some p) := gr_drew (gr_set (gr_refl W _) (.inl rfl) _);generalize (W.setCell ⟨p, 1, none⟩ (.int .i64 ((k : Int) + 1))).drew = W2 at hp2 hg2 ⊢;have hx2 := HX.out.grown hg2 (fun e => by injection e with e; omega);have hr2 := HR.out.grown hg2 (fun b hb e => by injection e with e; exact HSP.out (e ▸ hb));obtain ⟨g, o, A', c', e, hSg, hgl, r0, r1, r2, r3, hly⟩ := row_at hr2 (Nat.lt_of_le_of_ne hk hkn);subst e;have p0 := hp2.cell 0;have p1 := hp2.cell 1;simp at p0 p1;obtain ⟨y0, y1, y2, y3⟩ := blk4 hx2;have s0 := hx2.soft 0;have s1 := hx2.soft 1;have s2 := hx2.soft 2;have s3 := hx2.soft 3;rw [HY.out] at r0 r1 r2 r3 hly;have HG2 := hid hg2;have HP2 := hid hp2;have HX2 := hid hx2;have HLY := hid hly;have hgw := HSS.out g hSg;clear hg2 hp2 hx2 hr2 hly b1 z0;go_region;go_wp2_with fail
   obtain ⟨hblk2, hgr⟩ := blk4_set HX2.out (.int .i64 y.kind) (.int .u64 (y.num : Int)) (.string y.str) (.slice A' y.kids.length c');have hp9 := HP2.out.grown hgr (fun e => by injection e with e; omega);have hl9 := HLY.out.grown hgr (fun b hb e => by injection e with e; have := HSS.out b hb; omega);generalize (((W2.setCell ⟨w.heap.size, 0, none⟩ (.int .i64 y.kind)).setCell ⟨w.heap.size, 1, none⟩ (.int .u64 (y.num : Int))).setCell ⟨w.heap.size, 2, none⟩ (.string y.str)).setCell ⟨w.heap.size, 3, none⟩ (.slice A' y.kids.length c') = w9 at hblk2 hgr hp9 hl9 ⊢;obtain ⟨d0, d1, d2, d3⟩ := blk4 hblk2;refine bodyPost_ret (v := .agg #[.int .i64 y.kind, .int .u64 (y.num : Int), .string y.str, .slice A' y.kids.length c']) (by simp [results, Tryz.results98, go_sem, d0, d1, d2, d3]) rfl ?_;have hu : ((up1 k n : Nat) : Int) = (k : Int) + 1 := (by rw [up1, if_neg hkn]; omega);refine ⟨A', c', rfl, hl9.keep y (fun _ h _ => h) (Nat.le_refl _) (fun _ _ _ => rfl), gr_drew (gr_step (gr_step (below_gr HB.out _) HG2.out fun b hb => .inr hb) hgr fun b hb => by injection hb with hb; exact .inl (by omega)), ?_⟩;rw [hu];exact hp9.drew
end Go.Proofs.YtkejjdoaljoooaaGreatDoor.Rk
/- rec.Item: the item of a right record, in memory of the call's own. -/
namespace Go.Proofs.YtkejjdoaljoooaaGreatDoor.Rk
open Lib (hid)
open Go.RowKit Mem Ids Att Cod
theorem held16 {w w' : World} {g : Nat} {t : TypeId} {v0 v1 v2 v3 v4 v5 v6 v7 v8 v9 v10 v11 v12 v13 v14 v15 : Value} (h1 : Blk w g t #[v0, v1, v2, v3, v4, v5, v6, v7, v8, v9, v10, v11, v12, v13, v14, v15]) (hb : Below w.heap.size w w') : w'.cell? ⟨g, 0, none⟩ = some v0 ∧ w'.cell? ⟨g, 1, none⟩ = some v1 ∧ w'.cell? ⟨g, 2, none⟩ = some v2 ∧ w'.cell? ⟨g, 3, none⟩ = some v3 ∧ w'.cell? ⟨g, 4, none⟩ = some v4 ∧ w'.cell? ⟨g, 5, none⟩ = some v5 ∧ w'.cell? ⟨g, 6, none⟩ = some v6 ∧ w'.cell? ⟨g, 7, none⟩ = some v7 ∧ w'.cell? ⟨g, 8, none⟩ = some v8 ∧ w'.cell? ⟨g, 9, none⟩ = some v9 ∧ w'.cell? ⟨g, 10, none⟩ = some v10 ∧ w'.cell? ⟨g, 11, none⟩ = some v11 ∧ w'.cell? ⟨g, 12, none⟩ = some v12 ∧ w'.cell? ⟨g, 13, none⟩ = some v13 ∧ w'.cell? ⟨g, 14, none⟩ = some v14 ∧ w'.cell? ⟨g, 15, none⟩ = some v15 := blk16 (h1.bel hb)
theorem held16s {w w' : World} {g : Nat} {t : TypeId} {v0 v1 v2 v3 v4 v5 v6 v7 v8 v9 v10 v11 v12 v13 v14 v15 : Value} {r : Nat} (h1 : Blk w g t #[v0, v1, v2, v3, v4, v5, v6, v7, v8, v9, v10, v11, v12, v13, v14, v15]) (hb : Below w.heap.size w w') (hr : g ≠ r) (x0 x1 x2 x3 : Value) : ((((w'.setCell ⟨r, 0, none⟩ x0).setCell ⟨r, 1, none⟩ x1).setCell ⟨r, 2, none⟩ x2).setCell ⟨r, 3, none⟩ x3).cell? ⟨g, 0, none⟩ = some v0 ∧ ((((w'.setCell ⟨r, 0, none⟩ x0).setCell ⟨r, 1, none⟩ x1).setCell ⟨r, 2, none⟩ x2).setCell ⟨r, 3, none⟩ x3).cell? ⟨g, 1, none⟩ = some v1 ∧ ((((w'.setCell ⟨r, 0, none⟩ x0).setCell ⟨r, 1, none⟩ x1).setCell ⟨r, 2, none⟩ x2).setCell ⟨r, 3, none⟩ x3).cell? ⟨g, 2, none⟩ = some v2 ∧ ((((w'.setCell ⟨r, 0, none⟩ x0).setCell ⟨r, 1, none⟩ x1).setCell ⟨r, 2, none⟩ x2).setCell ⟨r, 3, none⟩ x3).cell? ⟨g, 3, none⟩ = some v3 ∧ ((((w'.setCell ⟨r, 0, none⟩ x0).setCell ⟨r, 1, none⟩ x1).setCell ⟨r, 2, none⟩ x2).setCell ⟨r, 3, none⟩ x3).cell? ⟨g, 4, none⟩ = some v4 ∧ ((((w'.setCell ⟨r, 0, none⟩ x0).setCell ⟨r, 1, none⟩ x1).setCell ⟨r, 2, none⟩ x2).setCell ⟨r, 3, none⟩ x3).cell? ⟨g, 5, none⟩ = some v5 ∧ ((((w'.setCell ⟨r, 0, none⟩ x0).setCell ⟨r, 1, none⟩ x1).setCell ⟨r, 2, none⟩ x2).setCell ⟨r, 3, none⟩ x3).cell? ⟨g, 6, none⟩ = some v6 ∧ ((((w'.setCell ⟨r, 0, none⟩ x0).setCell ⟨r, 1, none⟩ x1).setCell ⟨r, 2, none⟩ x2).setCell ⟨r, 3, none⟩ x3).cell? ⟨g, 7, none⟩ = some v7 ∧ ((((w'.setCell ⟨r, 0, none⟩ x0).setCell ⟨r, 1, none⟩ x1).setCell ⟨r, 2, none⟩ x2).setCell ⟨r, 3, none⟩ x3).cell? ⟨g, 8, none⟩ = some v8 ∧ ((((w'.setCell ⟨r, 0, none⟩ x0).setCell ⟨r, 1, none⟩ x1).setCell ⟨r, 2, none⟩ x2).setCell ⟨r, 3, none⟩ x3).cell? ⟨g, 9, none⟩ = some v9 ∧ ((((w'.setCell ⟨r, 0, none⟩ x0).setCell ⟨r, 1, none⟩ x1).setCell ⟨r, 2, none⟩ x2).setCell ⟨r, 3, none⟩ x3).cell? ⟨g, 10, none⟩ = some v10 ∧ ((((w'.setCell ⟨r, 0, none⟩ x0).setCell ⟨r, 1, none⟩ x1).setCell ⟨r, 2, none⟩ x2).setCell ⟨r, 3, none⟩ x3).cell? ⟨g, 11, none⟩ = some v11 ∧ ((((w'.setCell ⟨r, 0, none⟩ x0).setCell ⟨r, 1, none⟩ x1).setCell ⟨r, 2, none⟩ x2).setCell ⟨r, 3, none⟩ x3).cell? ⟨g, 12, none⟩ = some v12 ∧ ((((w'.setCell ⟨r, 0, none⟩ x0).setCell ⟨r, 1, none⟩ x1).setCell ⟨r, 2, none⟩ x2).setCell ⟨r, 3, none⟩ x3).cell? ⟨g, 13, none⟩ = some v13 ∧ ((((w'.setCell ⟨r, 0, none⟩ x0).setCell ⟨r, 1, none⟩ x1).setCell ⟨r, 2, none⟩ x2).setCell ⟨r, 3, none⟩ x3).cell? ⟨g, 14, none⟩ = some v14 ∧ ((((w'.setCell ⟨r, 0, none⟩ x0).setCell ⟨r, 1, none⟩ x1).setCell ⟨r, 2, none⟩ x2).setCell ⟨r, 3, none⟩ x3).cell? ⟨g, 15, none⟩ = some v15 :=
 blk16 (((((h1.bel hb).far (p := ⟨r, 0, none⟩) hr x0).far (p := ⟨r, 1, none⟩) hr x1).far (p := ⟨r, 2, none⟩) hr x2).far (p := ⟨r, 3, none⟩) hr x3)
theorem wt_attItem (a : At) : wt (attItem a) ≤ 60000 := by
 unfold attItem;split
 · have := (wt_att (by assumption)).1
   omega
 · decide
theorem wt_attOld (a : At) : wt (attOld a).1 ≤ 60000 := by
 unfold attOld;split
 · split
   · have := (wt_att (by assumption)).2
     show wt (oldIt a) ≤ _;omega
   · show wt zeroIt ≤ _
     decide
 · show wt zeroIt ≤ _
   decide
set_option maxRecDepth 100000 in
set_option maxHeartbeats 4000000 in
theorem item_any (aR aN aS aB aC aT aU aK aL aQ : Int) (aY aV : ByteArray) (aZ : Int) (aA : Option Addr) (an ac : Nat) (aE aG : Int) (al : List (Int × Int)) (w : World) (ha : Rs w aA an ac al) :
 Calls Tryz.prog 59 #[.agg #[.int .i64 aR, .int .i64 aN, .int .i64 aS, .int .i64 aB, .int .i64 aC, .int .i64 aT, .int .i64 aU, .int .i64 aK, .int .i64 aL, .int .i64 aQ, .string aY, .string aV, .int .i64 aZ, .slice aA an ac, .int .i64 aE, .int .i64 aG]] w (GivesNew w (recItem ⟨(aR, aN), aS, (aB, aC), (aT, aU), ⟨aK, aL, aQ, aY, aV, aZ⟩, ⟨al, aE, aG⟩⟩)) := by
 obtain ⟨W, hW⟩ : ∃ W, (w.alloc (.cells #[.int .i64 aR, .int .i64 aN, .int .i64 aS, .int .i64 aB, .int .i64 aC, .int .i64 aT, .int .i64 aU, .int .i64 aK, .int .i64 aL, .int .i64 aQ, .string aY, .string aV, .int .i64 aZ, .slice aA an ac, .int .i64 aE, .int .i64 aG] 43)).alloc (.cells #[.int .i64 0, .int .u64 0, .string ⟨#[]⟩, .slice none 0 0] 95) = W := ⟨_, rfl⟩
 obtain ⟨k1, k2, kb, hsW⟩ := two_kinds w _ _ _ _ W hW;have HK := hid k1;have HX := hid k2;have HB0 := hid kb;have HW := hid hW;have HSW := hid hsW;have HNE := hid (show w.heap.size ≠ w.heap.size + 1 by omega);have HRS := hid (ha.below kb);obtain ⟨p0, p1, p2, p3, p4, p5, p6, p7, p8, p9, p10, p11, p12, p13, p14, p15⟩ := blk16 k1;obtain ⟨y0, y1, y2, y3⟩ := blk4 k2;have hwW : w.heap.size < W.heap.size := by omega
 have hck := rcheck_any aR aN aS aB aC aT aU aK aL aQ aY aV aZ aA an ac aE aG al W (ha.below kb);clear k1 k2 kb hW ha hsW;go_enter Tryz.func59, Tryz.ntmps59
 go_wp2_with fail
 rw [HW.out];cases hc : rgt ⟨(aR, aN), aS, (aB, aC), (aT, aU), ⟨aK, aL, aQ, aY, aV, aZ⟩, ⟨al, aE, aG⟩⟩ with
 | false =>
   have hit : recItem ⟨(aR, aN), aS, (aB, aC), (aT, aU), ⟨aK, aL, aQ, aY, aV, aZ⟩, ⟨al, aE, aG⟩⟩ = zeroIt := if_neg (by rw [hc]; decide);have hv : rchk ⟨(aR, aN), aS, (aB, aC), (aT, aU), ⟨aK, aL, aQ, aY, aV, aZ⟩, ⟨al, aE, aG⟩⟩ = 4 := if_neg (by rw [hc]; decide);rw [hv] at hck;have HIT := hid hit;have HCK := hid hck;clear hck hit hv hc p0 p1 p2 p3 p4 p5 p6 p7 p8 p9 p10 p11 p12 p13 p14 p15 y0 y1 y2 y3;refine HCK.out.mono ?_;rintro e w2 ⟨rfl, hb2⟩;have HBK := hid (HX.out.bel hb2);have HD := hid (bel_trans HB0.out hb2);have e1 := HSW.out;clear hb2;obtain ⟨c0, c1, c2, c3⟩ := blk4 HBK.out;have z0 := HBK.out.soft 0;have z1 := HBK.out.soft 1;have z2 := HBK.out.soft 2;have z3 := HBK.out.soft 3;go_wp2_with fail
   obtain ⟨hblk2, hgr⟩ := blk4_set HBK.out (.int .i64 0) (.int .u64 0) (.string ⟨#[]⟩) (.slice none 0 0);generalize (((w2.setCell ⟨w.heap.size + 1, 0, none⟩ (.int .i64 0)).setCell ⟨w.heap.size + 1, 1, none⟩ (.int .u64 0)).setCell ⟨w.heap.size + 1, 2, none⟩ (.string ⟨#[]⟩)).setCell ⟨w.heap.size + 1, 3, none⟩ (.slice none 0 0) = w9 at hblk2 hgr ⊢;obtain ⟨d0, d1, d2, d3⟩ := blk4 hblk2;refine bodyPost_ret (v := .agg #[.int .i64 0, .int .u64 0, .string ByteArray.empty, .slice none 0 0]) (by simp [results, Tryz.results59, go_sem, d0, d1, d2, d3]; rfl) rfl ?_;rw [HIT.out];exact ⟨none, 0, rfl, lies_leaf _ _ (by decide) (by decide) (by decide), HD.out.trans (gr_below hgr (by have := HD.out.size; omega) fun b hb => by cases hb; omega)⟩
 | true =>
 have hv : rchk ⟨(aR, aN), aS, (aB, aC), (aT, aU), ⟨aK, aL, aQ, aY, aV, aZ⟩, ⟨al, aE, aG⟩⟩ = 0 := if_pos hc;rw [hv] at hck;have hit : recItem ⟨(aR, aN), aS, (aB, aC), (aT, aU), ⟨aK, aL, aQ, aY, aV, aZ⟩, ⟨al, aE, aG⟩⟩ = laidIt ⟨(aR, aN), aS, (aB, aC), (aT, aU), ⟨aK, aL, aQ, aY, aV, aZ⟩, ⟨al, aE, aG⟩⟩ (attItem ⟨al, aE, aG⟩) := by rw [recItem, if_pos hc]; exact (rec_laid hc).symm
 have hai := fun w (h : Rs w aA an ac al) => attitem_any al aE aG aA an ac w h;have hyw := wt_attItem ⟨al, aE, aG⟩;generalize attItem ⟨al, aE, aG⟩ = y at hit hai hyw;have hfm := (fun v (V : Option Addr) (c : Nat) (h : Lies v (fun b => W.heap.size ≤ b ∧ b < v.heap.size) y V c) => form_any aR aN aS aB aC aT aU aK aL aQ aY aV aZ aA an ac aE aG al y V c _ v hc h (fun b hb => hb.2) hyw)
 generalize laidIt ⟨(aR, aN), aS, (aB, aC), (aT, aU), ⟨aK, aL, aQ, aY, aV, aZ⟩, ⟨al, aE, aG⟩⟩ y = x at hit hfm;have HIT := hid hit;have HAI := hid hai;have HFM := hid hfm;have HCK := hid hck;clear hck hit hai hfm hyw hv hc p0 p1 p2 p3 p4 p5 p6 p7 p8 p9 p10 p11 p12 p13 p14 p15 y0 y1 y2 y3;refine HCK.out.mono ?_;rintro e w2 ⟨rfl, hb2⟩;have HCUR := hid (Below.drew hb2);obtain ⟨p0, p1, p2, p3, p4, p5, p6, p7, p8, p9, p10, p11, p12, p13, p14, p15⟩ := blk16 (HK.out.bel hb2);obtain ⟨y0, y1, y2, y3⟩ := blk4 (HX.out.bel hb2);clear hb2 HCK;go_wp2_with fail
 go_region_held3 (fun w' => w'.cell? ⟨w.heap.size, 0, none⟩ = some (.int .i64 aR) ∧ w'.cell? ⟨w.heap.size, 1, none⟩ = some (.int .i64 aN) ∧ w'.cell? ⟨w.heap.size, 2, none⟩ = some (.int .i64 aS) ∧ w'.cell? ⟨w.heap.size, 3, none⟩ = some (.int .i64 aB) ∧ w'.cell? ⟨w.heap.size, 4, none⟩ = some (.int .i64 aC) ∧ w'.cell? ⟨w.heap.size, 5, none⟩ = some (.int .i64 aT) ∧ w'.cell? ⟨w.heap.size, 6, none⟩ = some (.int .i64 aU) ∧ w'.cell? ⟨w.heap.size, 7, none⟩ = some (.int .i64 aK) ∧ w'.cell? ⟨w.heap.size, 8, none⟩ = some (.int .i64 aL) ∧ w'.cell? ⟨w.heap.size, 9, none⟩ = some (.int .i64 aQ) ∧ w'.cell? ⟨w.heap.size, 10, none⟩ = some (.string aY) ∧ w'.cell? ⟨w.heap.size, 11, none⟩ = some (.string aV) ∧ w'.cell? ⟨w.heap.size, 12, none⟩ = some (.int .i64 aZ) ∧ w'.cell? ⟨w.heap.size, 13, none⟩ = some (.slice aA an ac) ∧ w'.cell? ⟨w.heap.size, 14, none⟩ = some (.int .i64 aE) ∧ w'.cell? ⟨w.heap.size, 15, none⟩ = some (.int .i64 aG)) (first | (with_reducible exact held16s HK.out HCUR.out HNE.out _ _ _ _) | (with_reducible exact held16 HK.out HCUR.out))
  (first
  | (go_at_call 109
     with_reducible refine (HAI.out _ (HRS.out.below HCUR.out)).mono ?_
     rintro e v1 ⟨V1, c1, rfl, hl1, hb1⟩;have hnow := HCUR.out.trans (hb1.mono HCUR.out.size);have HL1 := hid (hl1.more (S' := fun b => W.heap.size ≤ b ∧ b < v1.heap.size) fun b hb _ => ⟨Nat.le_trans HCUR.out.size hb.1, hb.2⟩);have hsv := hnow.size;replace HCUR := hid hnow;clear HAI hb1 hnow hl1)
  | (go_at_call 55
     with_reducible refine (HFM.out v1 V1 c1 HL1.out).mono ?_
     rintro e w5 ⟨V9, c9, rfl, hl9, hb1⟩;have hnow := HCUR.out.trans (hb1.mono HCUR.out.size);have HLI := hid (hl9.more (S' := fun b => W.heap.size ≤ b ∧ b < w5.heap.size) fun b hb _ => ⟨by rcases hb.1 with h | h; exact h.1; omega, hb.2⟩);have HBK := hid (HX.out.bel hnow);obtain ⟨c0, c1', c2, c3⟩ := blk4 HBK.out;have z0 := HBK.out.soft 0;have z1 := HBK.out.soft 1;have z2 := HBK.out.soft 2;have z3 := HBK.out.soft 3;have HD := hid (HB0.out.trans (hnow.mono (by omega)));replace HCUR := hid hnow;clear HFM hb1 hnow hl9))
 go_wp2_with fail
 obtain ⟨hblk2, hgr⟩ := blk4_set HBK.out (.int .i64 x.kind) (.int .u64 (x.num : Int)) (.string x.str) (.slice V9 x.kids.length c9);generalize (((w5.setCell ⟨w.heap.size + 1, 0, none⟩ (.int .i64 x.kind)).setCell ⟨w.heap.size + 1, 1, none⟩ (.int .u64 (x.num : Int))).setCell ⟨w.heap.size + 1, 2, none⟩ (.string x.str)).setCell ⟨w.heap.size + 1, 3, none⟩ (.slice V9 x.kids.length c9) = w9 at hblk2 hgr ⊢;obtain ⟨d0, d1, d2, d3⟩ := blk4 hblk2;refine bodyPost_ret (v := .agg #[.int .i64 x.kind, .int .u64 (x.num : Int), .string x.str, .slice V9 x.kids.length c9]) (by simp [results, Tryz.results59, go_sem, d0, d1, d2, d3]) rfl ?_;have hs9 := hgr.size;have e1 := HSW.out;have hli9 := (HLI.out.grown hgr (fun b hb e => by injection e with e; omega)).more (S' := fun b => w.heap.size ≤ b ∧ b < w9.heap.size) fun b hb _ => by omega
 rw [HIT.out];exact ⟨V9, c9, rfl, hli9, HD.out.trans (gr_below hgr (by have := HD.out.size; omega) fun b hb => by injection hb with hb; omega)⟩
end Go.Proofs.YtkejjdoaljoooaaGreatDoor.Rk
/- rec.Old: the old form of a right record, in memory of the call's own. -/
namespace Go.Proofs.YtkejjdoaljoooaaGreatDoor.Rk
open Lib (hid)
open Go.RowKit Mem Ids Att Cod
set_option maxRecDepth 100000 in
set_option maxHeartbeats 4000000 in
theorem old_any (aR aN aS aB aC aT aU aK aL aQ : Int) (aY aV : ByteArray) (aZ : Int) (aA : Option Addr) (an ac : Nat) (aE aG : Int) (al : List (Int × Int)) (w : World) (ha : Rs w aA an ac al) :
 Calls Tryz.prog 32 #[.agg #[.int .i64 aR, .int .i64 aN, .int .i64 aS, .int .i64 aB, .int .i64 aC, .int .i64 aT, .int .i64 aU, .int .i64 aK, .int .i64 aL, .int .i64 aQ, .string aY, .string aV, .int .i64 aZ, .slice aA an ac, .int .i64 aE, .int .i64 aG]] w (GivesOld w (recOld ⟨(aR, aN), aS, (aB, aC), (aT, aU), ⟨aK, aL, aQ, aY, aV, aZ⟩, ⟨al, aE, aG⟩⟩)) := by
 obtain ⟨W, hW⟩ : ∃ W, (w.alloc (.cells #[.int .i64 aR, .int .i64 aN, .int .i64 aS, .int .i64 aB, .int .i64 aC, .int .i64 aT, .int .i64 aU, .int .i64 aK, .int .i64 aL, .int .i64 aQ, .string aY, .string aV, .int .i64 aZ, .slice aA an ac, .int .i64 aE, .int .i64 aG] 43)).alloc (.cells #[.int .i64 0, .int .u64 0, .string ⟨#[]⟩, .slice none 0 0] 95) = W := ⟨_, rfl⟩
 obtain ⟨k1, k2, kb, hsW⟩ := two_kinds w _ _ _ _ W hW;have HK := hid k1;have HX := hid k2;have HB0 := hid kb;have HW := hid hW;have HSW := hid hsW;have HNE := hid (show w.heap.size ≠ w.heap.size + 1 by omega);have HRS := hid (ha.below kb);obtain ⟨p0, p1, p2, p3, p4, p5, p6, p7, p8, p9, p10, p11, p12, p13, p14, p15⟩ := blk16 k1;obtain ⟨y0, y1, y2, y3⟩ := blk4 k2;have hwW : w.heap.size < W.heap.size := by omega
 have hck := rcheck_any aR aN aS aB aC aT aU aK aL aQ aY aV aZ aA an ac aE aG al W (ha.below kb);clear k1 k2 kb hW ha hsW;go_enter Tryz.func32, Tryz.ntmps32
 go_wp2_with fail
 rw [HW.out];clear p0 p1 p2 p3 p4 p5 p6 p7 p8 p9 p10 p11 p12 p13 p14 p15 y0 y1 y2 y3;cases hc : rgt ⟨(aR, aN), aS, (aB, aC), (aT, aU), ⟨aK, aL, aQ, aY, aV, aZ⟩, ⟨al, aE, aG⟩⟩ with
 | false =>
   have hit : recOld ⟨(aR, aN), aS, (aB, aC), (aT, aU), ⟨aK, aL, aQ, aY, aV, aZ⟩, ⟨al, aE, aG⟩⟩ = (zeroIt, 4) := if_neg (by rw [hc]; decide);have hv : rchk ⟨(aR, aN), aS, (aB, aC), (aT, aU), ⟨aK, aL, aQ, aY, aV, aZ⟩, ⟨al, aE, aG⟩⟩ = 4 := if_neg (by rw [hc]; decide);rw [hv] at hck;have HIT := hid hit;have HCK := hid hck;clear hck hit hv hc;refine HCK.out.mono ?_;rintro e w2 ⟨rfl, hb2⟩;have HBK := hid (HX.out.bel hb2);have HD := hid (bel_trans HB0.out hb2);have e1 := HSW.out;obtain ⟨p0, p1, p2, p3, p4, p5, p6, p7, p8, p9, p10, p11, p12, p13, p14, p15⟩ := blk16 (HK.out.bel hb2);clear hb2;obtain ⟨c0, c1, c2, c3⟩ := blk4 HBK.out;have z0 := HBK.out.soft 0;have z1 := HBK.out.soft 1;have z2 := HBK.out.soft 2;have z3 := HBK.out.soft 3;go_wp2_with fail
   obtain ⟨hblk2, hgr⟩ := blk4_set HBK.out (.int .i64 0) (.int .u64 0) (.string ⟨#[]⟩) (.slice none 0 0);generalize (((w2.setCell ⟨w.heap.size + 1, 0, none⟩ (.int .i64 0)).setCell ⟨w.heap.size + 1, 1, none⟩ (.int .u64 0)).setCell ⟨w.heap.size + 1, 2, none⟩ (.string ⟨#[]⟩)).setCell ⟨w.heap.size + 1, 3, none⟩ (.slice none 0 0) = w9 at hblk2 hgr ⊢;obtain ⟨d0, d1, d2, d3⟩ := blk4 hblk2;refine bodyPost_ret (v := .tuple #[.agg #[.int .i64 0, .int .u64 0, .string ByteArray.empty, .slice none 0 0], .int .i64 4]) (by simp [results, Tryz.results32, go_sem, d0, d1, d2, d3]; rfl) rfl ?_;rw [HIT.out];exact ⟨none, 0, rfl, lies_leaf _ _ (by decide) (by decide) (by decide), HD.out.trans (gr_below hgr (by have := HD.out.size; omega) fun b hb => by cases hb; omega)⟩
 | true =>
 have hv : rchk ⟨(aR, aN), aS, (aB, aC), (aT, aU), ⟨aK, aL, aQ, aY, aV, aZ⟩, ⟨al, aE, aG⟩⟩ = 0 := if_pos hc;rw [hv] at hck;have HCK := hid hck;clear hv hck;by_cases ht : aG = 2
 · have hit : recOld ⟨(aR, aN), aS, (aB, aC), (aT, aU), ⟨aK, aL, aQ, aY, aV, aZ⟩, ⟨al, aE, aG⟩⟩ = (zeroIt, 17) := by rw [recOld, if_pos hc, if_pos (.inl ht)]; rfl
   have HIT := hid hit;have b1 : (aG == 2) = true := (by simpa using ht);clear hit ht hc;skip;refine HCK.out.mono ?_;rintro e w2 ⟨rfl, hb2⟩;have HBK := hid (HX.out.bel hb2);have HD := hid (bel_trans HB0.out hb2);have e1 := HSW.out;obtain ⟨p0, p1, p2, p3, p4, p5, p6, p7, p8, p9, p10, p11, p12, p13, p14, p15⟩ := blk16 (HK.out.bel hb2);clear hb2;obtain ⟨c0, c1, c2, c3⟩ := blk4 HBK.out;have z0 := HBK.out.soft 0;have z1 := HBK.out.soft 1;have z2 := HBK.out.soft 2;have z3 := HBK.out.soft 3;go_wp2_with fail
   obtain ⟨hblk2, hgr⟩ := blk4_set HBK.out (.int .i64 0) (.int .u64 0) (.string ⟨#[]⟩) (.slice none 0 0);generalize (((w2.setCell ⟨w.heap.size + 1, 0, none⟩ (.int .i64 0)).setCell ⟨w.heap.size + 1, 1, none⟩ (.int .u64 0)).setCell ⟨w.heap.size + 1, 2, none⟩ (.string ⟨#[]⟩)).setCell ⟨w.heap.size + 1, 3, none⟩ (.slice none 0 0) = w9 at hblk2 hgr ⊢;obtain ⟨d0, d1, d2, d3⟩ := blk4 hblk2;refine bodyPost_ret (v := .tuple #[.agg #[.int .i64 0, .int .u64 0, .string ByteArray.empty, .slice none 0 0], .int .i64 17]) (by simp [results, Tryz.results32, go_sem, d0, d1, d2, d3]; rfl) rfl ?_;rw [HIT.out];exact ⟨none, 0, rfl, lies_leaf _ _ (by decide) (by decide) (by decide), HD.out.trans (gr_below hgr (by have := HD.out.size; omega) fun b hb => by cases hb; omega)⟩
 by_cases hk : aK = 6
 · have hit : recOld ⟨(aR, aN), aS, (aB, aC), (aT, aU), ⟨aK, aL, aQ, aY, aV, aZ⟩, ⟨al, aE, aG⟩⟩ = (zeroIt, 17) := by rw [recOld, if_pos hc, if_pos (.inr hk)]; rfl
   have HIT := hid hit;have b1 : (aG == 2) = false := (by simpa using ht);have b2 : (aK == 6) = true := (by simpa using hk);clear hit ht hk hc;skip;refine HCK.out.mono ?_;rintro e w2 ⟨rfl, hb2⟩;have HBK := hid (HX.out.bel hb2);have HD := hid (bel_trans HB0.out hb2);have e1 := HSW.out;obtain ⟨p0, p1, p2, p3, p4, p5, p6, p7, p8, p9, p10, p11, p12, p13, p14, p15⟩ := blk16 (HK.out.bel hb2);clear hb2;obtain ⟨c0, c1, c2, c3⟩ := blk4 HBK.out;have z0 := HBK.out.soft 0;have z1 := HBK.out.soft 1;have z2 := HBK.out.soft 2;have z3 := HBK.out.soft 3;go_wp2_with fail
   obtain ⟨hblk2, hgr⟩ := blk4_set HBK.out (.int .i64 0) (.int .u64 0) (.string ⟨#[]⟩) (.slice none 0 0);generalize (((w2.setCell ⟨w.heap.size + 1, 0, none⟩ (.int .i64 0)).setCell ⟨w.heap.size + 1, 1, none⟩ (.int .u64 0)).setCell ⟨w.heap.size + 1, 2, none⟩ (.string ⟨#[]⟩)).setCell ⟨w.heap.size + 1, 3, none⟩ (.slice none 0 0) = w9 at hblk2 hgr ⊢;obtain ⟨d0, d1, d2, d3⟩ := blk4 hblk2;refine bodyPost_ret (v := .tuple #[.agg #[.int .i64 0, .int .u64 0, .string ByteArray.empty, .slice none 0 0], .int .i64 17]) (by simp [results, Tryz.results32, go_sem, d0, d1, d2, d3]; rfl) rfl ?_;rw [HIT.out];exact ⟨none, 0, rfl, lies_leaf _ _ (by decide) (by decide) (by decide), HD.out.trans (gr_below hgr (by have := HD.out.size; omega) fun b hb => by cases hb; omega)⟩
 have b1 : (aG == 2) = false := by simpa using ht
 have b2 : (aK == 6) = false := by simpa using hk
 have hit : recOld ⟨(aR, aN), aS, (aB, aC), (aT, aU), ⟨aK, aL, aQ, aY, aV, aZ⟩, ⟨al, aE, aG⟩⟩ = (laidIt ⟨(aR, aN), aS, (aB, aC), (aT, aU), ⟨aK, aL, aQ, aY, aV, aZ⟩, ⟨al, aE, aG⟩⟩ (attOld ⟨al, aE, aG⟩).1, 0) := by
  have hn : ¬ (aG = 2 ∨ aK = 6) := fun h => by rcases h with h | h; exact ht h; exact hk h
  rw [recOld, if_pos hc, if_neg hn, old_laid hc hn]
 have hai := fun w (h : Rs w aA an ac al) => attold_any al aE aG aA an ac w h;have hyw := wt_attOld ⟨al, aE, aG⟩;generalize attOld ⟨al, aE, aG⟩ = y at hit hai hyw;obtain ⟨y, ye⟩ := y;simp only at hit hyw;have hfm := (fun v (V : Option Addr) (c : Nat) (h : Lies v (fun b => W.heap.size ≤ b ∧ b < v.heap.size) y V c) => form_any aR aN aS aB aC aT aU aK aL aQ aY aV aZ aA an ac aE aG al y V c _ v hc h (fun b hb => hb.2) hyw)
 generalize laidIt ⟨(aR, aN), aS, (aB, aC), (aT, aU), ⟨aK, aL, aQ, aY, aV, aZ⟩, ⟨al, aE, aG⟩⟩ y = x at hit hfm;have HIT := hid hit;have HAI := hid hai;have HFM := hid hfm;clear hit hai hfm hyw hc ht hk;refine HCK.out.mono ?_;rintro e w2 ⟨rfl, hb2⟩;have HCUR := hid hb2;obtain ⟨p0, p1, p2, p3, p4, p5, p6, p7, p8, p9, p10, p11, p12, p13, p14, p15⟩ := blk16 (HK.out.bel hb2);clear hb2 HCK;go_wp2_with fail
 refine (HAI.out _ (HRS.out.below HCUR.out)).mono ?_;rintro e v1 ⟨V1, c1, rfl, hl1, hb1⟩;simp only at hl1 ⊢;have hnow := HCUR.out.trans (hb1.mono HCUR.out.size);have hs1 := hnow.size;have hl2 := (hl1.more (S' := fun b => W.heap.size ≤ b ∧ b < v1.heap.size) fun b hb _ => ⟨Nat.le_trans HCUR.out.size hb.1, hb.2⟩).alloc (.cells #[.int .i64 y.kind, .int .u64 (y.num : Int), .string y.str, .slice V1 y.kids.length c1] 95);have hb3 := bel_alloc hnow (.cells #[.int .i64 y.kind, .int .u64 (y.num : Int), .string y.str, .slice V1 y.kids.length c1] 95);have hk3 := Blk.new v1 95 #[.int .i64 y.kind, .int .u64 (y.num : Int), .string y.str, .slice V1 y.kids.length c1];have hsz := size_alloc v1 (.cells #[.int .i64 y.kind, .int .u64 (y.num : Int), .string y.str, .slice V1 y.kids.length c1] 95);have HL1 := hid (hl2.more (S' := fun b => W.heap.size ≤ b ∧ b < (v1.alloc (.cells #[.int .i64 y.kind, .int .u64 (y.num : Int), .string y.str, .slice V1 y.kids.length c1] 95)).heap.size) fun b hb _ => ⟨hb.1, by omega⟩);replace HCUR := hid hb3;have HK3 := hid hk3;have HSZ := hid hsz;clear hb1 hnow hl1 hl2 hb3 hk3 hsz p0 p1 p2 p3 p4 p5 p6 p7 p8 p9 p10 p11 p12 p13 p14 p15;obtain ⟨V3, hV3⟩ : ∃ v, v1.alloc (.cells #[.int .i64 y.kind, .int .u64 (y.num : Int), .string y.str, .slice V1 y.kids.length c1] 95) = v := ⟨_, rfl⟩
 rw [hV3] at HL1 HCUR HK3 HSZ;have HV3 := hid hV3;clear hV3;obtain ⟨p0, p1, p2, p3, p4, p5, p6, p7, p8, p9, p10, p11, p12, p13, p14, p15⟩ := blk16 (HK.out.bel HCUR.out);obtain ⟨q0, q1, q2, q3⟩ := blk4 HK3.out;go_wp2_with (rw [HV3.out])
 refine (HFM.out V3 V1 c1 HL1.out).mono ?_;rintro e w5 ⟨V9, c9, rfl, hl9, hb1⟩;have hnow := HCUR.out.trans (hb1.mono HCUR.out.size);have hs3 := HCUR.out.size;have HLI := hid (hl9.more (S' := fun b => W.heap.size ≤ b ∧ b < w5.heap.size) fun b hb _ => ⟨by rcases hb.1 with h | h; exact h.1; omega, hb.2⟩);have HBK := hid (HX.out.bel hnow);obtain ⟨c0, c1', c2, c3⟩ := blk4 HBK.out;have z0 := HBK.out.soft 0;have z1 := HBK.out.soft 1;have z2 := HBK.out.soft 2;have z3 := HBK.out.soft 3;have HD := hid (HB0.out.trans (hnow.mono (by omega)));clear HFM hb1 hnow hl9 p0 p1 p2 p3 p4 p5 p6 p7 p8 p9 p10 p11 p12 p13 p14 p15 q0 q1 q2 q3 hs3 hs1;go_wp2_with fail
 obtain ⟨hblk2, hgr⟩ := blk4_set HBK.out (.int .i64 x.kind) (.int .u64 (x.num : Int)) (.string x.str) (.slice V9 x.kids.length c9);generalize (((w5.setCell ⟨w.heap.size + 1, 0, none⟩ (.int .i64 x.kind)).setCell ⟨w.heap.size + 1, 1, none⟩ (.int .u64 (x.num : Int))).setCell ⟨w.heap.size + 1, 2, none⟩ (.string x.str)).setCell ⟨w.heap.size + 1, 3, none⟩ (.slice V9 x.kids.length c9) = w9 at hblk2 hgr ⊢;obtain ⟨d0, d1, d2, d3⟩ := blk4 hblk2;refine bodyPost_ret (v := .tuple #[.agg #[.int .i64 x.kind, .int .u64 (x.num : Int), .string x.str, .slice V9 x.kids.length c9], .int .i64 0]) (by simp [results, Tryz.results32, go_sem, d0, d1, d2, d3]) rfl ?_;have hs9 := hgr.size;have e1 := HSW.out;have hli9 := (HLI.out.grown hgr (fun b hb e => by injection e with e; omega)).more (S' := fun b => w.heap.size ≤ b ∧ b < w9.heap.size) fun b hb _ => by omega
 rw [HIT.out];exact ⟨V9, c9, rfl, hli9, HD.out.trans (gr_below hgr (by have := HD.out.size; omega) fun b hb => by injection hb with hb; omega)⟩
end Go.Proofs.YtkejjdoaljoooaaGreatDoor.Rk
/- rec.part at each of its types: the next part, taken. -/
namespace Go.Proofs.YtkejjdoaljoooaaGreatDoor.Rk
open Lib (hid)
open Go.RowKit Mem Ids Att Cod
set_option maxRecDepth 100000 in
set_option maxHeartbeats 1000000 in
theorem number_any (y : It) (V : Option Addr) (cv : Nat) (w : World) :
 Calls Tryz.prog 100 #[.agg #[.int .i64 y.kind, .int .u64 (y.num : Int), .string y.str, .slice V y.kids.length cv]] w fun e w' => (∃ b, e = .returned (.tuple #[.int .i64 (Cmd.w64 y.num), .bool b])) ∧ Below w.heap.size w w' := by
 obtain ⟨W, hW⟩ : ∃ W, w.alloc (.cells #[.int .i64 y.kind, .int .u64 (y.num : Int), .string y.str, .slice V y.kids.length cv] 95) = W := ⟨_, rfl⟩
 have hx := Blk.new w 95 #[.int .i64 y.kind, .int .u64 (y.num : Int), .string y.str, .slice V y.kids.length cv];have hb := bel_alloc (Below.refl w.heap.size w) (.cells #[.int .i64 y.kind, .int .u64 (y.num : Int), .string y.str, .slice V y.kids.length cv] 95);rw [hW] at hx hb;have HW := hid hW;have HB := hid hb;obtain ⟨x0, x1, x2, x3⟩ := blk4 hx;obtain ⟨R, hR⟩ : ∃ R, Cmd.w64 y.num = R := ⟨_, rfl⟩
 rw [hR];unfold Cmd.w64 at hR;clear hx hb hW;go_enter Tryz.func100, Tryz.ntmps100
 go_wp2_with fail
 rw [HW.out];go_region_held3 (fun w' => w'.cell? ⟨w.heap.size, 0, none⟩ = some (.int .i64 y.kind) ∧ w'.cell? ⟨w.heap.size, 1, none⟩ = some (.int .u64 (y.num : Int))) (go_keep) (fail)
 go_wp2_with fail
 exact bodyPost_ret (v := .tuple #[.int .i64 R, .bool (y.kind == 0)]) (by simp [results, Tryz.results100, go_sem]) rfl ⟨⟨_, rfl⟩, Below.drew HB.out⟩
set_option maxRecDepth 100000 in
set_option maxHeartbeats 1000000 in
theorem partint_any (p : Nat) (A : Option Addr) (n c k : Nat) (l : List It) (S : Nat → Prop) (w : World) (hr : Cod.Row w S A n c l) (hk : k ≤ n) (hn : n ≤ 1000000000) (hp : Blk w p 168 #[.slice A n c, .int .i64 (k : Int)]) (hSp : ¬ S p) (hS : ∀ b, S b → b < w.heap.size) :
 Calls Tryz.prog 99 #[.func (.func 98) #[.pointer (some ⟨p, 0, none⟩)] #[], .func (.func 100) #[] #[]] w fun e w' => e = .returned (.int .i64 (Cmd.w64 (l.getD k Cmd.zeroIt).num)) ∧ w.grownBy w' (some p) ∧ Blk w' p 168 #[.slice A n c, .int .i64 (up1 k n : Int)] := by
 have h1 := next_any p A n c k l S w hr hk hn hp hSp hS;generalize l.getD k Cmd.zeroIt = y at h1 ⊢;have H1 := hid h1;clear h1 hr hk hn hp hSp hS;go_enter Tryz.func99, Tryz.ntmps99
 go_wp2_with fail
 refine H1.out.mono ?_;rintro e w1 ⟨V, cv, rfl, hl, hg, hp1⟩;have HG := hid hg;have HP := hid hp1;clear hl hg hp1 H1;go_wp2_with fail
 refine (number_any y V cv w1).mono ?_;rintro e w2 ⟨⟨b, rfl⟩, hb2⟩;have HB := hid hb2;clear hb2;go_wp2_with fail
 go_ret;exact ⟨rfl, gr_bel HG.out HB.out, HP.out.bel HB.out⟩
def PartBal (w : World) (p : Nat) (A : Option Addr) (n c k : Nat) (y : It) (e : Ending) (w' : World) : Prop :=
 ∃ b : Int × Int, e = .returned (.agg #[.int .i64 b.1, .int .i64 b.2]) ∧ b = (Bal.balTake y).getD (0, 0) ∧ w.grownBy w' (some p) ∧ Blk w' p 168 #[.slice A n c, .int .i64 (up1 k n : Int)]
def PartCm (w : World) (p : Nat) (A : Option Addr) (n c k : Nat) (y : It) (e : Ending) (w' : World) : Prop :=
 ∃ m : Cmd.Cm, e = .returned (.agg #[.int .i64 m.kd, .int .i64 m.cl, .int .i64 m.sq, .string m.ky, .string m.vl, .int .i64 m.rv]) ∧ m = (Cmd.takeOf y).getD Cmd.zeroCm ∧ w.grownBy w' (some p) ∧ Blk w' p 168 #[.slice A n c, .int .i64 (up1 k n : Int)]
def PartAt (T : It → Option At) (w : World) (p : Nat) (A : Option Addr) (n c k : Nat) (y : It) (e : Ending) (w' : World) : Prop :=
 ∃ V nv cv, e = .returned (.agg #[.slice V nv cv, .int .i64 ((T y).getD zeroAt).sq, .int .i64 ((T y).getD zeroAt).tg]) ∧ Rs w' V nv cv ((T y).getD zeroAt).dp ∧ (∀ g o, V = some ⟨g, o, none⟩ → w.heap.size ≤ g) ∧ w.grownBy w' (some p) ∧ Blk w' p 168 #[.slice A n c, .int .i64 (up1 k n : Int)]
theorem blk3_set3 {w : World} {g : Nat} {t : TypeId} {a b c : Value} (h : Blk w g t #[a, b, c]) (a' b' c' : Value) :
 Blk (((w.setCell ⟨g, 0, none⟩ a').setCell ⟨g, 1, none⟩ b').setCell ⟨g, 2, none⟩ c') g t #[a', b', c'] ∧ w.grownBy (((w.setCell ⟨g, 0, none⟩ a').setCell ⟨g, 1, none⟩ b').setCell ⟨g, 2, none⟩ c') (some g) :=
 ⟨by simpa using ((h.put 0 a').put 1 b').put 2 c', gr_set (p := ⟨g, 2, none⟩) (gr_set (p := ⟨g, 1, none⟩) (gr_set (p := ⟨g, 0, none⟩) (gr_refl w (some g)) (.inl rfl) _) (.inl rfl) _) (.inl rfl) _⟩
set_option maxRecDepth 100000 in
set_option maxHeartbeats 4000000 in
theorem partbal_any (p : Nat) (A : Option Addr) (n c k : Nat) (l : List It) (S : Nat → Prop) (w : World) (hr : Cod.Row w S A n c l) (hk : k ≤ n) (hn : n ≤ 1000000000) (hp : Blk w p 168 #[.slice A n c, .int .i64 (k : Int)]) (hSp : ¬ S p) (hS : ∀ b, S b → b < w.heap.size) :
 Calls Tryz.prog 101 #[.func (.func 98) #[.pointer (some ⟨p, 0, none⟩)] #[], .func (.func 102) #[] #[]] w (PartBal w p A n c k (l.getD k Cmd.zeroIt)) := by
 have hb := bel_alloc (Below.refl w.heap.size w) (.cells #[.int .i64 0, .int .i64 0] 36);have hx := Blk.new w 36 #[.int .i64 0, .int .i64 0];have hpl := hp.lt;have hpa := hp.alloc (.cells #[.int .i64 0, .int .i64 0] 36);have hra := hr.below hb hS;have hsz := size_alloc w (.cells #[.int .i64 0, .int .i64 0] 36);obtain ⟨W, hW⟩ : ∃ W, w.alloc (.cells #[.int .i64 0, .int .i64 0] 36) = W := ⟨_, rfl⟩
 rw [hW] at hb hx hpa hra hsz;have h1 := next_any p A n c k l S W hra hk hn hpa hSp (fun b hb => by have := hS b hb; omega);generalize l.getD k Cmd.zeroIt = y at h1 ⊢;have H1 := hid h1;have HW := hid hW;have HB := hid hb;have HX := hid hx;have HSS := hid hS;have HSZ := hid hsz;have HPL := hid hpl;clear h1 hr hk hn hp hSp hS hW hb hx hpa hra hsz hpl;go_enter Tryz.func101, Tryz.ntmps101
 go_wp2_with fail
 rw [HW.out];refine H1.out.mono ?_;rintro e w1 ⟨V, cv, rfl, hl, hg, hp1⟩;have hx1 := HX.out.grown hg (fun e => by injection e with e; have := HPL.out; omega);have hs1 := hg.size;have htk := Bal.baltake_any y V cv S w1 hl (fun b hb => by have := HSS.out b hb; have := HSZ.out; omega);have HG := hid hg;have HP := hid hp1;have HX1 := hid hx1;have HT := hid htk;have HS1 := hid hs1;clear hl hg hp1 H1 hx1 htk hs1;go_wp2_with fail
 refine HT.out.mono ?_;rintro e w2 ⟨rfl, hb2⟩;obtain ⟨b, hb⟩ : ∃ b, (Bal.balTake y).getD (0, 0) = b := ⟨_, rfl⟩
 rw [hb];have HBB := hid hb;clear hb HT;have hw3 := bel_alloc hb2 (.cells #[.int .i64 b.1, .int .i64 b.2] 36);have hk3 := Blk.new w2 36 #[.int .i64 b.1, .int .i64 b.2];have hx3 := HX1.out.bel hw3;obtain ⟨w3, hw3'⟩ : ∃ w3, w2.alloc (.cells #[.int .i64 b.1, .int .i64 b.2] 36) = w3 := ⟨_, rfl⟩
 rw [hw3'] at hw3 hk3 hx3;have HW3 := hid hw3';have HB3 := hid hw3;have hblk3 := hx3;obtain ⟨c0, c1⟩ := Bal.blk2 hblk3;have z0 := hblk3.soft 0;have z1 := hblk3.soft 1;obtain ⟨k0, k1⟩ := Bal.blk2 hk3;clear hw3 hk3 hx3 hw3' hb2;go_wp2_with (rw [HW3.out])
 obtain ⟨hblk2, hgr⟩ := Bal.blk2_set hblk3 (.int .i64 b.1) (.int .i64 b.2);have hp9 := (HP.out.bel HB3.out).grown hgr (fun e => by injection e with e; have := HPL.out; omega);generalize (w3.setCell ⟨w.heap.size, 0, none⟩ (.int .i64 b.1)).setCell ⟨w.heap.size, 1, none⟩ (.int .i64 b.2) = w9 at hblk2 hgr hp9 ⊢;obtain ⟨d0, d1⟩ := Bal.blk2 hblk2;refine bodyPost_ret (v := .agg #[.int .i64 b.1, .int .i64 b.2]) (by simp [results, Tryz.results101, go_sem, d0, d1]) rfl ?_;have hgg : w.grownBy w9 (some p) := gr_step (gr_bel (gr_step (below_gr HB.out _) HG.out fun b hb => .inr hb) HB3.out) hgr fun b hb => by injection hb with hb; exact .inl (by omega)
 exact ⟨b, rfl, HBB.out.symm, hgg, hp9⟩
set_option maxRecDepth 100000 in
set_option maxHeartbeats 4000000 in
theorem partcm_any (p : Nat) (A : Option Addr) (n c k : Nat) (l : List It) (S : Nat → Prop) (w : World) (hr : Cod.Row w S A n c l) (hk : k ≤ n) (hn : n ≤ 1000000000) (hp : Blk w p 168 #[.slice A n c, .int .i64 (k : Int)]) (hSp : ¬ S p) (hS : ∀ b, S b → b < w.heap.size) :
 Calls Tryz.prog 103 #[.func (.func 98) #[.pointer (some ⟨p, 0, none⟩)] #[], .func (.func 104) #[] #[]] w (PartCm w p A n c k (l.getD k Cmd.zeroIt)) := by
 have hb := bel_alloc (Below.refl w.heap.size w) (.cells #[.int .i64 0, .int .i64 0, .int .i64 0, .string ⟨#[]⟩, .string ⟨#[]⟩, .int .i64 0] 38);have hx := Blk.new w 38 #[.int .i64 0, .int .i64 0, .int .i64 0, .string ⟨#[]⟩, .string ⟨#[]⟩, .int .i64 0];have hpl := hp.lt;have hpa := hp.alloc (.cells #[.int .i64 0, .int .i64 0, .int .i64 0, .string ⟨#[]⟩, .string ⟨#[]⟩, .int .i64 0] 38);have hra := hr.below hb hS;have hsz := size_alloc w (.cells #[.int .i64 0, .int .i64 0, .int .i64 0, .string ⟨#[]⟩, .string ⟨#[]⟩, .int .i64 0] 38);obtain ⟨W, hW⟩ : ∃ W, w.alloc (.cells #[.int .i64 0, .int .i64 0, .int .i64 0, .string ⟨#[]⟩, .string ⟨#[]⟩, .int .i64 0] 38) = W := ⟨_, rfl⟩
 rw [hW] at hb hx hpa hra hsz;have h1 := next_any p A n c k l S W hra hk hn hpa hSp (fun b hb => by have := hS b hb; omega);generalize l.getD k Cmd.zeroIt = y at h1 ⊢;have H1 := hid h1;have HW := hid hW;have HB := hid hb;have HX := hid hx;have HSS := hid hS;have HSZ := hid hsz;have HPL := hid hpl;clear h1 hr hk hn hp hSp hS hW hb hx hpa hra hsz hpl;go_enter Tryz.func103, Tryz.ntmps103
 go_wp2_with fail
 rw [HW.out];refine H1.out.mono ?_;rintro e w1 ⟨V, cv, rfl, hl, hg, hp1⟩;have hx1 := HX.out.grown hg (fun e => by injection e with e; have := HPL.out; omega);have hs1 := hg.size;have htk := Cw.cmtake_any y V cv S w1 hl (fun b hb => by have := HSS.out b hb; have := HSZ.out; omega);have HG := hid hg;have HP := hid hp1;have HX1 := hid hx1;have HT := hid htk;have HS1 := hid hs1;clear hl hg hp1 H1 hx1 htk hs1;go_wp2_with fail
 refine HT.out.mono ?_;rintro e w2 ⟨m, ok, rfl, hm, _, hb2⟩;have HM := hid hm;clear hm HT;have hw3 := bel_alloc hb2 (.cells #[.int .i64 m.kd, .int .i64 m.cl, .int .i64 m.sq, .string m.ky, .string m.vl, .int .i64 m.rv] 38);have hk3 := Blk.new w2 38 #[.int .i64 m.kd, .int .i64 m.cl, .int .i64 m.sq, .string m.ky, .string m.vl, .int .i64 m.rv];have hx3 := HX1.out.bel hw3;obtain ⟨w3, hw3'⟩ : ∃ w3, w2.alloc (.cells #[.int .i64 m.kd, .int .i64 m.cl, .int .i64 m.sq, .string m.ky, .string m.vl, .int .i64 m.rv] 38) = w3 := ⟨_, rfl⟩
 rw [hw3'] at hw3 hk3 hx3;have HW3 := hid hw3';have HB3 := hid hw3;have hblk3 := hx3;obtain ⟨c0, c1, c2, c3, c4, c5⟩ := Cw.blk6 hblk3;have z0 := hblk3.soft 0;have z1 := hblk3.soft 1;have z2 := hblk3.soft 2;have z3 := hblk3.soft 3;have z4 := hblk3.soft 4;have z5 := hblk3.soft 5;obtain ⟨k0, k1, k2, k3, k4, k5⟩ := Cw.blk6 hk3;clear hw3 hk3 hx3 hw3' hb2;go_wp2_with (rw [HW3.out])
 obtain ⟨hblk2, hgr⟩ := Cw.blk6_set hblk3 (.int .i64 m.kd) (.int .i64 m.cl) (.int .i64 m.sq) (.string m.ky) (.string m.vl) (.int .i64 m.rv);have hp9 := (HP.out.bel HB3.out).grown hgr (fun e => by injection e with e; have := HPL.out; omega);generalize (((((w3.setCell ⟨w.heap.size, 0, none⟩ (.int .i64 m.kd)).setCell ⟨w.heap.size, 1, none⟩ (.int .i64 m.cl)).setCell ⟨w.heap.size, 2, none⟩ (.int .i64 m.sq)).setCell ⟨w.heap.size, 3, none⟩ (.string m.ky)).setCell ⟨w.heap.size, 4, none⟩ (.string m.vl)).setCell ⟨w.heap.size, 5, none⟩ (.int .i64 m.rv) = w9 at hblk2 hgr hp9 ⊢;obtain ⟨d0, d1, d2, d3, d4, d5⟩ := Cw.blk6 hblk2;refine bodyPost_ret (v := .agg #[.int .i64 m.kd, .int .i64 m.cl, .int .i64 m.sq, .string m.ky, .string m.vl, .int .i64 m.rv]) (by simp [results, Tryz.results103, go_sem, d0, d1, d2, d3, d4, d5]) rfl ?_;have hgg : w.grownBy w9 (some p) := gr_step (gr_bel (gr_step (below_gr HB.out _) HG.out fun b hb => .inr hb) HB3.out) hgr fun b hb => by injection hb with hb; exact .inl (by omega)
 exact ⟨m, rfl, HM.out, hgg, hp9⟩
set_option maxRecDepth 100000 in
set_option maxHeartbeats 4000000 in
theorem partat_any (p : Nat) (A : Option Addr) (n c k : Nat) (l : List It) (S : Nat → Prop) (w : World) (hr : Cod.Row w S A n c l) (hk : k ≤ n) (hn : n ≤ 1000000000) (hp : Blk w p 168 #[.slice A n c, .int .i64 (k : Int)]) (hSp : ¬ S p) (hS : ∀ b, S b → b < w.heap.size) :
 Calls Tryz.prog 105 #[.func (.func 98) #[.pointer (some ⟨p, 0, none⟩)] #[], .func (.func 60) #[] #[]] w ((PartAt attTake) w p A n c k (l.getD k Cmd.zeroIt)) := by
 have hb := bel_alloc (Below.refl w.heap.size w) (.cells #[.slice none 0 0, .int .i64 0, .int .i64 0] 41);have hx := Blk.new w 41 #[.slice none 0 0, .int .i64 0, .int .i64 0];have hpl := hp.lt;have hpa := hp.alloc (.cells #[.slice none 0 0, .int .i64 0, .int .i64 0] 41);have hra := hr.below hb hS;have hsz := size_alloc w (.cells #[.slice none 0 0, .int .i64 0, .int .i64 0] 41);obtain ⟨W, hW⟩ : ∃ W, w.alloc (.cells #[.slice none 0 0, .int .i64 0, .int .i64 0] 41) = W := ⟨_, rfl⟩
 rw [hW] at hb hx hpa hra hsz;have h1 := next_any p A n c k l S W hra hk hn hpa hSp (fun b hb => by have := hS b hb; omega);generalize l.getD k Cmd.zeroIt = y at h1 ⊢;have H1 := hid h1;have HW := hid hW;have HB := hid hb;have HX := hid hx;have HSS := hid hS;have HSZ := hid hsz;have HPL := hid hpl;clear h1 hr hk hn hp hSp hS hW hb hx hpa hra hsz hpl;go_enter Tryz.func105, Tryz.ntmps105
 go_wp2_with fail
 rw [HW.out];refine H1.out.mono ?_;rintro e w1 ⟨V, cv, rfl, hl, hg, hp1⟩;have hx1 := HX.out.grown hg (fun e => by injection e with e; have := HPL.out; omega);have hs1 := hg.size;have htk := atttake_any y V cv S w1 hl (fun b hb => by have := HSS.out b hb; have := HSZ.out; omega);have HG := hid hg;have HP := hid hp1;have HX1 := hid hx1;have HT := hid htk;have HS1 := hid hs1;clear hl hg hp1 H1 hx1 htk hs1;go_wp2_with fail
 refine HT.out.mono ?_;rintro e w2 ⟨D, dn, dc, rfl, hrs, hb2, hnew⟩;obtain ⟨a, ha⟩ : ∃ a, (attTake y).getD zeroAt = a := ⟨_, rfl⟩
 rw [ha] at hrs ⊢;obtain ⟨al, aE, aG⟩ := a;simp only at hrs ⊢;have HAA := hid ha;clear ha HT;have hw3 := bel_alloc hb2 (.cells #[.slice D dn dc, .int .i64 aE, .int .i64 aG] 41);have hk3 := Blk.new w2 41 #[.slice D dn dc, .int .i64 aE, .int .i64 aG];have hx3 := HX1.out.bel hw3;have hrs3 := hrs.alloc (.cells #[.slice D dn dc, .int .i64 aE, .int .i64 aG] 41);obtain ⟨w3, hw3'⟩ : ∃ w3, w2.alloc (.cells #[.slice D dn dc, .int .i64 aE, .int .i64 aG] 41) = w3 := ⟨_, rfl⟩
 rw [hw3'] at hw3 hk3 hx3 hrs3;have HW3 := hid hw3';have HB3 := hid hw3;have hblk3 := hx3;obtain ⟨c0, c1, c2⟩ := blk3 hblk3;have z0 := hblk3.soft 0;have z1 := hblk3.soft 1;have z2 := hblk3.soft 2;obtain ⟨k0, k1, k2⟩ := blk3 hk3;clear hw3 hk3 hx3 hw3' hb2;go_wp2_with (rw [HW3.out])
 obtain ⟨hblk2, hgr⟩ := blk3_set3 hblk3 (.slice D dn dc) (.int .i64 aE) (.int .i64 aG);have hp9 := (HP.out.bel HB3.out).grown hgr (fun e => by injection e with e; have := HPL.out; omega);have HNEW := hid hnew;have hrs9 := Go.Proofs.YtkejjdoaljoooaaGreatDoor.Rs.set3n (base := w1.heap.size) hrs3 hnew (r := w.heap.size) (by have := HS1.out; have := HSZ.out; omega) (.slice D dn dc) (.int .i64 aE) (.int .i64 aG);generalize ((w3.setCell ⟨w.heap.size, 0, none⟩ (.slice D dn dc)).setCell ⟨w.heap.size, 1, none⟩ (.int .i64 aE)).setCell ⟨w.heap.size, 2, none⟩ (.int .i64 aG) = w9 at hblk2 hgr hp9 hrs9 ⊢;obtain ⟨d0, d1, d2⟩ := blk3 hblk2;refine bodyPost_ret (v := .agg #[.slice D dn dc, .int .i64 aE, .int .i64 aG]) (by simp [results, Tryz.results105, go_sem, d0, d1, d2]) rfl ?_;have hgg : w.grownBy w9 (some p) := gr_step (gr_bel (gr_step (below_gr HB.out _) HG.out fun b hb => .inr hb) HB3.out) hgr fun b hb => by injection hb with hb; exact .inl (by omega)
 exact ⟨D, dn, dc, by rw [HAA.out], by rw [HAA.out]; exact hrs9, fun g o e => by have := HNEW.out g o e; have := HS1.out; have := HSZ.out; omega, hgg, hp9⟩
set_option maxRecDepth 100000 in
set_option maxHeartbeats 4000000 in
theorem partold_any (p : Nat) (A : Option Addr) (n c k : Nat) (l : List It) (S : Nat → Prop) (w : World) (hr : Cod.Row w S A n c l) (hk : k ≤ n) (hn : n ≤ 1000000000) (hp : Blk w p 168 #[.slice A n c, .int .i64 (k : Int)]) (hSp : ¬ S p) (hS : ∀ b, S b → b < w.heap.size) :
 Calls Tryz.prog 105 #[.func (.func 98) #[.pointer (some ⟨p, 0, none⟩)] #[], .func (.func 57) #[] #[]] w ((PartAt oldTake) w p A n c k (l.getD k Cmd.zeroIt)) := by
 have hb := bel_alloc (Below.refl w.heap.size w) (.cells #[.slice none 0 0, .int .i64 0, .int .i64 0] 41);have hx := Blk.new w 41 #[.slice none 0 0, .int .i64 0, .int .i64 0];have hpl := hp.lt;have hpa := hp.alloc (.cells #[.slice none 0 0, .int .i64 0, .int .i64 0] 41);have hra := hr.below hb hS;have hsz := size_alloc w (.cells #[.slice none 0 0, .int .i64 0, .int .i64 0] 41);obtain ⟨W, hW⟩ : ∃ W, w.alloc (.cells #[.slice none 0 0, .int .i64 0, .int .i64 0] 41) = W := ⟨_, rfl⟩
 rw [hW] at hb hx hpa hra hsz;have h1 := next_any p A n c k l S W hra hk hn hpa hSp (fun b hb => by have := hS b hb; omega);generalize l.getD k Cmd.zeroIt = y at h1 ⊢;have H1 := hid h1;have HW := hid hW;have HB := hid hb;have HX := hid hx;have HSS := hid hS;have HSZ := hid hsz;have HPL := hid hpl;clear h1 hr hk hn hp hSp hS hW hb hx hpa hra hsz hpl;go_enter Tryz.func105, Tryz.ntmps105
 go_wp2_with fail
 rw [HW.out];refine H1.out.mono ?_;rintro e w1 ⟨V, cv, rfl, hl, hg, hp1⟩;have hx1 := HX.out.grown hg (fun e => by injection e with e; have := HPL.out; omega);have hs1 := hg.size;have htk := oldtake_any y V cv S w1 hl (fun b hb => by have := HSS.out b hb; have := HSZ.out; omega);have HG := hid hg;have HP := hid hp1;have HX1 := hid hx1;have HT := hid htk;have HS1 := hid hs1;clear hl hg hp1 H1 hx1 htk hs1;go_wp2_with fail
 refine HT.out.mono ?_;rintro e w2 ⟨D, dn, dc, rfl, hrs, hb2, hnew⟩;obtain ⟨a, ha⟩ : ∃ a, (oldTake y).getD zeroAt = a := ⟨_, rfl⟩
 rw [ha] at hrs ⊢;obtain ⟨al, aE, aG⟩ := a;simp only at hrs ⊢;have HAA := hid ha;clear ha HT;have hw3 := bel_alloc hb2 (.cells #[.slice D dn dc, .int .i64 aE, .int .i64 aG] 41);have hk3 := Blk.new w2 41 #[.slice D dn dc, .int .i64 aE, .int .i64 aG];have hx3 := HX1.out.bel hw3;have hrs3 := hrs.alloc (.cells #[.slice D dn dc, .int .i64 aE, .int .i64 aG] 41);obtain ⟨w3, hw3'⟩ : ∃ w3, w2.alloc (.cells #[.slice D dn dc, .int .i64 aE, .int .i64 aG] 41) = w3 := ⟨_, rfl⟩
 rw [hw3'] at hw3 hk3 hx3 hrs3;have HW3 := hid hw3';have HB3 := hid hw3;have hblk3 := hx3;obtain ⟨c0, c1, c2⟩ := blk3 hblk3;have z0 := hblk3.soft 0;have z1 := hblk3.soft 1;have z2 := hblk3.soft 2;obtain ⟨k0, k1, k2⟩ := blk3 hk3;clear hw3 hk3 hx3 hw3' hb2;go_wp2_with (rw [HW3.out])
 obtain ⟨hblk2, hgr⟩ := blk3_set3 hblk3 (.slice D dn dc) (.int .i64 aE) (.int .i64 aG);have hp9 := (HP.out.bel HB3.out).grown hgr (fun e => by injection e with e; have := HPL.out; omega);have HNEW := hid hnew;have hrs9 := Go.Proofs.YtkejjdoaljoooaaGreatDoor.Rs.set3n (base := w1.heap.size) hrs3 hnew (r := w.heap.size) (by have := HS1.out; have := HSZ.out; omega) (.slice D dn dc) (.int .i64 aE) (.int .i64 aG);generalize ((w3.setCell ⟨w.heap.size, 0, none⟩ (.slice D dn dc)).setCell ⟨w.heap.size, 1, none⟩ (.int .i64 aE)).setCell ⟨w.heap.size, 2, none⟩ (.int .i64 aG) = w9 at hblk2 hgr hp9 hrs9 ⊢;obtain ⟨d0, d1, d2⟩ := blk3 hblk2;refine bodyPost_ret (v := .agg #[.slice D dn dc, .int .i64 aE, .int .i64 aG]) (by simp [results, Tryz.results105, go_sem, d0, d1, d2]) rfl ?_;have hgg : w.grownBy w9 (some p) := gr_step (gr_bel (gr_step (below_gr HB.out _) HG.out fun b hb => .inr hb) HB3.out) hgr fun b hb => by injection hb with hb; exact .inl (by omega)
 exact ⟨D, dn, dc, by rw [HAA.out], by rw [HAA.out]; exact hrs9, fun g o e => by have := HNEW.out g o e; have := HS1.out; have := HSZ.out; omega, hgg, hp9⟩
end Go.Proofs.YtkejjdoaljoooaaGreatDoor.Rk
/- A record that came in, opened. -/
namespace Go.Proofs.YtkejjdoaljoooaaGreatDoor.Rk
open Lib (hid)
open Go.ChangeShapes Go.WideShapes Go.ChangeAt Go.RowKit Mem Ids Att
section
variable {H : Type} {enc : TypeId × Value → H} {W : World} {held : Bool}
set_option maxRecDepth 100000 in
theorem rec_of {fuel : Nat} {cs : List Value} {x : DataW H × List MemPlace} (h : DataW.trod enc Tryz.prog W 0 (fun _ => true) held fuel 43 cs = some x) :
 ∃ (y : Rc) (A : Option Addr) (n c : Nat), cs = [.int .i64 y.id.1, .int .i64 y.id.2, .int .i64 y.st, .int .i64 y.bl.1, .int .i64 y.bl.2, .int .i64 y.tk.1, .int .i64 y.tk.2, .int .i64 y.cm.kd, .int .i64 y.cm.cl, .int .i64 y.cm.sq, .string y.cm.ky, .string y.cm.vl, .int .i64 y.cm.rv, .slice A n c, .int .i64 y.at_.sq, .int .i64 y.at_.tg] ∧ Rs W A n c y.at_.dp := by
 obtain ⟨ys, n, _, _, hlen, hyl, hf⟩ := DataW.trod_struct Tryz.underlying43 h;have hC : Tryz.prog.cellsOf 43 = 16 := by kernel_rfl
 have hc1 : Tryz.prog.cellsOf 3 = 1 := by kernel_rfl
 have hc2 : Tryz.prog.cellsOf 34 = 2 := by kernel_rfl
 have hc3 : Tryz.prog.cellsOf 36 = 2 := by kernel_rfl
 have hc4 : Tryz.prog.cellsOf 38 = 6 := by kernel_rfl
 have hc5 : Tryz.prog.cellsOf 41 = 3 := by kernel_rfl
 match ys, hyl with
 | [y0, y1, y2, y3, y4, y5], _ =>
 match cs, hlen.trans hC with
 | [c0, c1, c2, c3, c4, c5, c6, c7, c8, c9, c10, c11, c12, c13, c14, c15], _ =>
 have g0 := hf 0 _ rfl;have g1 := hf 1 _ rfl;have g2 := hf 2 _ rfl;have g3 := hf 3 _ rfl;have g4 := hf 4 _ rfl;have g5 := hf 5 _ rfl;simp [hc1, hc2, hc3, hc4, hc5] at g0 g1 g2 g3 g4 g5;obtain ⟨i, e0, _⟩ := id_of g0;obtain ⟨k1, hk1, _, w1⟩ := DataW.trod_int Tryz.underlying3 g1;obtain ⟨b, e2, _⟩ := Bal.bal_of g2;obtain ⟨t, e3, _⟩ := Bal.bal_of g3;obtain ⟨m, e4, _⟩ := cmd_of g4;obtain ⟨a, A, n', c', e5, hr⟩ := att_of g5;simp only [List.cons.injEq, and_true] at e0 hk1 e2 e3 e4 e5;obtain ⟨rfl, rfl⟩ := e0;subst hk1;obtain ⟨rfl, rfl⟩ := e2;obtain ⟨rfl, rfl⟩ := e3;obtain ⟨rfl, rfl, rfl, rfl, rfl, rfl⟩ := e4;obtain ⟨rfl, rfl, rfl⟩ := e5;exact ⟨⟨i, k1, b, t, m, a⟩, A, n', c', rfl, hr⟩
end
end Go.Proofs.YtkejjdoaljoooaaGreatDoor.Rk
