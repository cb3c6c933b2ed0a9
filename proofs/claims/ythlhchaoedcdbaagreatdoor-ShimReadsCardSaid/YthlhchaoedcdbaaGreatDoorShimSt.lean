/-
  Texts of earlier layers, as one.
-/
import Derived.Test.YthlhchaoedcdbaaGreatDoorShimRef
import Derived.Test.YthlhchaoedcdbaaGreatDoorMsgAw
import Derived.Deep.MidRow
/- Where what a message hangs on lies in its item, what another item in its place makes of it, and what comes up of that; plain mathematics. -/
namespace Go.Proofs.YthlhchaoedcdbaaGreatDoor.Mg
open Lib (hid)
open Cod Rk
def placeN (k : Nat) : Nat := [0, 5, 4, 5, 0, 4, 0, 7, 0, 0].getD k 0
def placeOf (x : It) : Nat :=
 if x.kids.length = 0 then 0 else if 10 ≤ (x.kids.getD 0 Cmd.zeroIt).num then 0 else if x.kids.length ≤ placeN (x.kids.getD 0 Cmd.zeroIt).num then 0 else placeN (x.kids.getD 0 Cmd.zeroIt).num
def setAt (x : It) (p : Nat) (y : It) : It := .mk x.kind x.num x.str (x.kids.set p y)
def swapIt (x y : It) : It := if 0 < placeOf x then setAt x (placeOf x) y else x
theorem place_lt {x : It} (h : 0 < placeOf x) : placeOf x < x.kids.length := by
 unfold placeOf at h ⊢;split at h
 · omega
 · rename_i h1
   rw [if_neg h1];split at h
   · omega
   · rename_i h2
     rw [if_neg h2];split at h
     · omega
     · rename_i h3
       rw [if_neg h3];omega
theorem getD_set_pos {l : List It} {p : Nat} {y d : It} (h : 0 < p) : (l.set p y).getD 0 d = l.getD 0 d := by
 rw [List.getD_eq_getElem?_getD, List.getD_eq_getElem?_getD, List.getElem?_set_ne (by omega)]
theorem place_set {x : It} {p : Nat} {y : It} (h : 0 < p) : placeOf (setAt x p y) = placeOf x := by
 unfold placeOf;have e : (setAt x p y).kids = x.kids.set p y := rfl;rw [e, List.length_set, getD_set_pos h]
theorem place_swap (x y : It) : placeOf (swapIt x y) = placeOf x := by
 unfold swapIt;split
 · rename_i h
   exact place_set h
 · rfl
theorem place_laid {m : Mg} (h : mright m = true) (y : It) :
 (hAt m = true → 0 < placeOf (laidMg m y) ∧ (laidMg m y).kids[placeOf (laidMg m y)]? = some y ∧ ∀ z, setAt (laidMg m y) (placeOf (laidMg m y)) z = laidMg m z) ∧
 (hAt m = false → placeOf (laidMg m y) = 0 ∧ ∀ z, laidMg m z = laidMg m y) := by
 have hk := (mright_parts h).1;clear h;obtain ⟨kd, ⟨i1, i2⟩, bl, tk, st, cm, att, vn⟩ := m;simp only at hk;have hkc : kd = 1 ∨ kd = 2 ∨ kd = 3 ∨ kd = 4 ∨ kd = 5 ∨ kd = 6 ∨ kd = 7 ∨ kd = 8 ∨ kd = 9 := by omega
 rcases hkc with rfl | rfl | rfl | rfl | rfl | rfl | rfl | rfl | rfl
 · have e : placeOf (laidMg ⟨1, (i1, i2), bl, tk, st, cm, att, vn⟩ y) = 5 := rfl
   rw [e];exact ⟨fun _ => ⟨by decide, rfl, fun _ => rfl⟩, fun h => Bool.noConfusion (show true = false from h)⟩
 · have e : placeOf (laidMg ⟨2, (i1, i2), bl, tk, st, cm, att, vn⟩ y) = 4 := rfl
   rw [e];exact ⟨fun _ => ⟨by decide, rfl, fun _ => rfl⟩, fun h => Bool.noConfusion (show true = false from h)⟩
 · have e : placeOf (laidMg ⟨3, (i1, i2), bl, tk, st, cm, att, vn⟩ y) = 5 := rfl
   rw [e];exact ⟨fun _ => ⟨by decide, rfl, fun _ => rfl⟩, fun h => Bool.noConfusion (show true = false from h)⟩
 · have e : placeOf (laidMg ⟨4, (i1, i2), bl, tk, st, cm, att, vn⟩ y) = 0 := rfl
   rw [e];exact ⟨fun h => Bool.noConfusion (show false = true from h), fun _ => ⟨rfl, fun _ => rfl⟩⟩
 · have e : placeOf (laidMg ⟨5, (i1, i2), bl, tk, st, cm, att, vn⟩ y) = 4 := rfl
   rw [e];exact ⟨fun _ => ⟨by decide, rfl, fun _ => rfl⟩, fun h => Bool.noConfusion (show true = false from h)⟩
 · have e : placeOf (laidMg ⟨6, (i1, i2), bl, tk, st, cm, att, vn⟩ y) = 0 := rfl
   rw [e];exact ⟨fun h => Bool.noConfusion (show false = true from h), fun _ => ⟨rfl, fun _ => rfl⟩⟩
 · by_cases hs : st = 0
   · subst hs
     have e : placeOf (laidMg ⟨7, (i1, i2), bl, tk, 0, cm, att, vn⟩ y) = 0 := rfl;rw [e];exact ⟨fun h => Bool.noConfusion (show false = true from h), fun _ => ⟨rfl, fun _ => rfl⟩⟩
   · have hc : hCmd ⟨7, (i1, i2), bl, tk, st, cm, att, vn⟩ = true := by simp [hCmd, hs]
     have ha : hAt ⟨7, (i1, i2), bl, tk, st, cm, att, vn⟩ = true := by rw [hAt, hc]; rfl
     have el : ∀ z, laidMg ⟨7, (i1, i2), bl, tk, st, cm, att, vn⟩ z = .mk 2 0 ByteArray.empty [Cmd.numIt 7, Cmd.numIt i1, Cmd.numIt i2, Bal.balIt bl, Cmd.numIt st, Bal.balIt tk, Cmd.cmIt cm, z] := fun z => by
      unfold laidMg mparts;rw [hc, ha];rfl
     rw [ha];simp only [el];exact ⟨fun _ => ⟨by show 0 < 7; decide, rfl, fun _ => rfl⟩, fun h => by cases h⟩
 · have e : placeOf (laidMg ⟨8, (i1, i2), bl, tk, st, cm, att, vn⟩ y) = 0 := rfl
   rw [e];exact ⟨fun h => Bool.noConfusion (show false = true from h), fun _ => ⟨rfl, fun _ => rfl⟩⟩
 · have e : placeOf (laidMg ⟨9, (i1, i2), bl, tk, st, cm, att, vn⟩ y) = 0 := rfl
   rw [e];exact ⟨fun h => Bool.noConfusion (show false = true from h), fun _ => ⟨rfl, fun _ => rfl⟩⟩
theorem swap_laid {m : Mg} (h : mright m = true) (y z : It) : swapIt (laidMg m y) z = laidMg m z := by
 obtain ⟨h1, h2⟩ := place_laid h y;unfold swapIt;cases ha : hAt m with
 | true =>
   obtain ⟨p0, _, p2⟩ := h1 ha;rw [if_pos p0];exact p2 z
 | false =>
   obtain ⟨p0, p1⟩ := h2 ha;rw [if_neg (by omega)];exact (p1 z).symm
theorem attItem_is {a b : Att.At} (hb : Att.achk b = 0) (h : Att.attItem a = Att.attIt b) : a = b := by
 unfold Att.attItem at h;split at h
 · rename_i ha
   have h1 := Att.att_put ha;rw [h, Att.att_put hb] at h1;injection h1 with h1;exact h1.symm
 · exact absurd (show (0 : Int) = 2 from congrArg It.kind h) (by decide)
theorem chk_zeroAt : ¬ Att.achk Att.zeroAt = 0 := fun h => by
 have h1 := (Att.achk_sq h).2.2.1;exact absurd h1 (by decide)
noncomputable def upOf (y : It) : It := Att.attItem ((Att.oldTake y).getD Att.zeroAt)
noncomputable def upIt (x : It) : It := swapIt x (upOf (x.kids.getD (placeOf x) Cmd.zeroIt))
theorem getD_at {l : List It} {p : Nat} {y d : It} (h : l[p]? = some y) : l.getD p d = y := by
 rw [List.getD_eq_getElem?_getD, h];rfl
theorem upIt_old {m : Mg} (h : mright m = true) (hn : noOld m = false) : upIt (oldMg m) = mgIt m := by
 unfold upIt oldMg;rw [swap_laid h];obtain ⟨h1, h2⟩ := place_laid h (Att.oldIt m.at_);cases ha : hAt m with
 | true =>
   obtain ⟨_, p1, _⟩ := h1 ha;rw [getD_at p1];unfold upOf;rw [Att.old_put (right_att h ha) (tag_one h hn ha)];unfold mgIt Att.attItem;rw [Option.getD_some, if_pos (right_att h ha)]
 | false =>
   obtain ⟨_, p1⟩ := h2 ha;unfold mgIt;rw [p1 (Att.attIt m.at_)];exact p1 _
theorem kid_nums {x : It} (fx : Fit x) : ∀ k ∈ x.kids, k.num ≤ 18446744073709551615 := fun k hk => by
 rw [fit_eq] at fx;have h := fx.2.2.2 k hk;rw [fit_eq] at h;omega
theorem kid_fit {x : It} (fx : Fit x) {p : Nat} {y : It} (h : x.kids[p]? = some y) : Fit y := by
 rw [fit_eq] at fx;exact fx.2.2.2 y (List.mem_of_getElem? h)
theorem upIt_back {x : It} {m : Mg} (fx : Fit x) (h : mright m = true) (e : upIt x = mgIt m) : oldMg m = x := by
 have hp : placeOf x = placeOf (mgIt m) := by rw [← e]; exact (place_swap _ _).symm
 obtain ⟨h1, h2⟩ := place_laid h (Att.attIt m.at_);cases ha : hAt m with
 | false =>
   obtain ⟨p0, p1⟩ := h2 ha
   have e1 : upIt x = x := by
    unfold upIt swapIt;rw [if_neg (by rw [hp]; unfold mgIt; omega)]
   rw [← e1, e];exact p1 _
 | true =>
   obtain ⟨p0, p1, p2⟩ := h1 ha;have q0 : 0 < placeOf x := (by rw [hp]; exact p0);have hlt := place_lt q0;obtain ⟨y, hy⟩ : ∃ y, x.kids[placeOf x]? = some y := ⟨_, List.getElem?_eq_getElem hlt⟩
   have e1 : upIt x = setAt x (placeOf x) (upOf y) := by
    unfold upIt swapIt;rw [if_pos q0, getD_at hy]
   have e2 : (mgIt m).kids[placeOf x]? = some (upOf y) := by
    rw [← e, e1];show (x.kids.set (placeOf x) (upOf y))[placeOf x]? = some (upOf y);rw [List.getElem?_set_self hlt]
   rw [hp] at e2
   have e3 : upOf y = Att.attIt m.at_ := by
    have e4 : (mgIt m).kids[placeOf (mgIt m)]? = some (Att.attIt m.at_) := p1;rw [e4] at e2;injection e2 with e2;exact e2.symm
   have e5 := attItem_is (right_att h ha) e3
   have e6 : Att.oldIt m.at_ = y := by
    cases ho : Att.oldTake y with
    | none =>
      rw [ho] at e5;exact absurd (right_att h ha) (by rw [← e5]; exact chk_zeroAt)
    | some a =>
      rw [ho] at e5;obtain ⟨_, _, h3⟩ := Att.old_is (kid_nums (kid_fit fx hy)) ho;have e7 : a = m.at_ := e5;rw [← e7];exact h3
   have e8 : x = setAt (mgIt m) (placeOf (mgIt m)) y := by
    rw [← hp, ← e, e1];obtain ⟨k, n, s, l⟩ := x;unfold setAt;simp only [It.kind, It.num, It.str, It.kids] at hy ⊢;rw [List.set_set];obtain ⟨hi, rfl⟩ := List.getElem?_eq_some_iff.1 hy;rw [List.set_getElem_self]
   rw [e8];unfold oldMg;rw [e6];exact (p2 y).symm
theorem up_is {x : It} (fx : Fit x) (fy : Fit (upIt x)) (hl : (form (upIt x)).length ≤ 1048576) {R : Mg × Nat} (hR : ownTake (openX 2 (if chk (upIt x) 0 = 0 then frame 2 (form (upIt x)) else [])) = R) :
 (R.2 = 0 → noOld R.1 = false → refUp (x, 0) = (R.1, 0)) ∧ ((R.2 = 0 → noOld R.1 = true) → refUp (x, 0) = (zeroMg, 4)) := by
 rw [own_ref] at hR;have hs : openX 2 [] = (Cmd.zeroIt, 2) := open_short 2 (by decide);by_cases hc : chk (upIt x) 0 = 0
 · rw [if_pos hc, open_item 2 hc fy hl] at hR
   refine ⟨fun h1 h2 => ?_, fun h1 => ?_⟩
   · have h3 : refTake (upIt x, 0) = (R.1, 0) := by rw [hR, ← h1]
     obtain ⟨h4, h5⟩ := refTake_iff.1 h3;exact refUp_iff.2 ⟨h4, h2, upIt_back fx h4 h5.symm⟩
   · refine refUp_no fun m hm hn ho => ?_
     have h3 : upIt x = mgIt m := (by rw [← ho]; exact upIt_old hm hn);rw [refTake_iff.2 ⟨hm, h3.symm⟩] at hR;rw [← hR] at h1;have h4 : noOld m = true := h1 rfl;rw [hn] at h4;cases h4
 · rw [if_neg hc, hs] at hR
   have h2 : R.2 = 2 := (by rw [← hR]; rfl);refine ⟨fun h1 => by omega, fun _ => refUp_no fun m hm hn ho => hc ?_⟩;have h3 : upIt x = mgIt m := (by rw [← ho]; exact upIt_old hm hn);rw [h3];exact chk_mg m
theorem forms_set : ∀ (l : List It) (p : Nat) (y z : It), l[p]? = some z → (forms (l.set p y)).length + (form z).length = (forms l).length + (form y).length
 | [], p, y, z, h => by cases h
 | a :: l, 0, y, z, h => by
   injection h with h;subst h;simp only [List.set_cons_zero, forms, List.length_append];omega
 | a :: l, p + 1, y, z, h => by
   have := forms_set l p y z h;simp only [List.set_cons_succ, forms, List.length_append];omega
theorem form_set {x : It} {p : Nat} {y z : It} (h : x.kids[p]? = some z) (hl : (form y).length ≤ (form z).length + 2) : (form (setAt x p y)).length ≤ (form x).length + 2 := by
 obtain ⟨k, n, s, l⟩ := x;have h1 := forms_set l p y z h;show (form (.mk k n s (l.set p y))).length ≤ (form (.mk k n s l)).length + 2;rw [form, form];by_cases k0 : k = 0
 · simp only [if_pos k0]
   omega
 · simp only [if_neg k0]
   by_cases k1 : k = 1
   · simp only [if_pos k1]
     omega
   · simp only [if_neg k1]
     simp only [List.length_cons, List.length_append, List.length_set];omega
theorem upOf_len {y : It} (fy : Fit y) : (form (upOf y)).length ≤ (form y).length + 2 := by
 unfold upOf;cases ho : Att.oldTake y with
 | none =>
   have h1 : Att.attItem Att.zeroAt = Cmd.zeroIt := if_neg chk_zeroAt;have h2 : (form Cmd.zeroIt).length = 2 := rfl;rw [Option.getD_none, h1, h2];omega
 | some a =>
   obtain ⟨h1, h2, h3⟩ := Att.old_is (kid_nums fy) ho;rw [Option.getD_some, ← h3];unfold Att.attItem;rw [if_pos h1];unfold Att.attIt Att.oldIt;rw [h2, form2 rfl, form2 rfl];have e1 : (form (Ids.numIt 1)).length = 2 := rfl;have e2 : (Num.put 3).length = 1 := rfl;have e3 : (Num.put 2).length = 1 := rfl;show (2 :: (Num.put 3 ++ (form (Ids.numIt 1) ++ (form (Ids.numIt a.sq) ++ (form (Ids.setIt a.dp) ++ []))))).length ≤ (2 :: (Num.put 2 ++ (form (Ids.numIt a.sq) ++ (form (Ids.setIt a.dp) ++ [])))).length + 2;simp only [List.length_cons, List.length_append, List.length_nil];omega
theorem upIt_len {x : It} (fx : Fit x) : (form (upIt x)).length ≤ (form x).length + 2 := by
 unfold upIt swapIt;split
 · rename_i h
   obtain ⟨y, hy⟩ : ∃ y, x.kids[placeOf x]? = some y := ⟨_, List.getElem?_eq_getElem (place_lt h)⟩
   rw [getD_at hy];exact form_set hy (upOf_len (kid_fit fx hy))
 · omega
theorem open_len {v : Nat} {b : List Nat} {x : It} (hb : ∀ x ∈ b, x < 256) (h : openX v b = (x, 0)) : (form x).length ≤ b.length ∧ Fit x := by
 unfold openX at h;split at h
 · injection h with _ h; cases h
 split at h
 · injection h with _ h; cases h
 split at h
 · injection h with _ h; cases h
 split at h
 · injection h with h1 h2
   have hd : ∀ x ∈ b.drop 5, x < 256 := fun x hx => hb x (List.mem_of_mem_drop hx);cases hg : Cod.get (b.drop 5) with
   | bad e p =>
     have h3 := (Cp.get_parts_bad hg).2.1;rw [h3] at h2;exact absurd h2 (Cp.get_bad_ne hg)
   | ok y q =>
     have h3 := (Cp.get_parts_ok hg).1;rw [h3] at h1;obtain ⟨_, g2, g3⟩ := get_good hd hg;rw [← h1, g3, List.length_drop];exact ⟨by omega, g2⟩
 · injection h with _ h; cases h
theorem down_swap {m : Mg} (h : mright m = true) (hn : noOld m = false) : swapIt (mgIt m) (Att.attOld m.at_).1 = oldMg m := by
 unfold mgIt;rw [swap_laid h];unfold oldMg;cases ha : hAt m with
 | true =>
   unfold Att.attOld;rw [if_pos (right_att h ha), if_pos (tag_one h hn ha)]
 | false => exact ((place_laid h (Att.oldIt m.at_)).2 ha).2 _
end Go.Proofs.YthlhchaoedcdbaaGreatDoor.Mg
/- An item of a row of one's own written over: the row, and the item that it is the list of. -/
namespace Go.Proofs.YthlhchaoedcdbaaGreatDoor.Mg
open Lib (hid)
open Go.RowKit Mem Cod
theorem step_store_mid {P : Program} {ops : Array Oper} {o : Oper} {a : Act} {w : World} {K : Act → World → Prop} {Q : Exit → Act → World → Prop} {E : Prop} (hgd : o.guard = none) (ty : TypeId) (x y : Operand) (ho : o.op = .store ty x y)
 (b off : Nat) (cells : Array Value) (hx : a.eval x = .pointer (some ⟨b, off, none⟩)) (hy : a.eval y = .agg cells) (ht : w.there b off cells.size) (hi : (P.info? ty).map (·.size) = some cells.size) (h1 : cells.all (·.oneCell') = true)
 (h : ∀ w', w' = w.setCells b off cells.toList → K (a.put o.dst undef) w') : if Region.wanted o (yielded ops a.tmps) = true then Oper.wp P o a w K Q else E := by
 have hw : Region.wanted o (yielded ops a.tmps) = true := by simp [Region.wanted, hgd]
 rw [if_pos hw];exact wp_store_mid ty x y ho b off cells hx hy ht hi h1 (h _ rfl)
theorem cells4_set : ∀ (hs : List Hung) (p : Nat) (h : Hung), p < hs.length →
 ((((cells4 hs).set (p * 4) (.int .i64 h.x.kind)).set (p * 4 + 1) (.int .u64 (h.x.num : Int))).set (p * 4 + 1 + 1) (.string h.x.str)).set (p * 4 + 1 + 1 + 1) (.slice h.A h.x.kids.length h.c) = cells4 (hs.set p h)
 | [], p, h, hp => by cases hp
 | k :: hs, 0, h, _ => rfl
 | k :: hs, p + 1, h, hp => by
   have ih := cells4_set hs p h (by simpa using hp);have e : (p + 1) * 4 = p * 4 + 1 + 1 + 1 + 1 := (by omega);have e1 : cells4 (k :: hs) = .int .i64 k.x.kind :: .int .u64 (k.x.num : Int) :: .string k.x.str :: .slice k.A k.x.kids.length k.c :: cells4 hs := rfl;have e2 : cells4 (k :: hs.set p h) = .int .i64 k.x.kind :: .int .u64 (k.x.num : Int) :: .string k.x.str :: .slice k.A k.x.kids.length k.c :: cells4 (hs.set p h) := rfl;rw [List.set_cons_succ, e2, ← ih, e1, e];simp only [List.set_cons_succ]
theorem Whole.addr {w : World} {B : Nat} {x : It} {A : Option Addr} {c : Nat} (h : Whole w B x A c) (hp : 0 < x.kids.length) : ∃ g, A = some ⟨g, 0, none⟩ ∧ B ≤ g ∧ g < w.heap.size := by
 obtain ⟨_, hs, h2, _, _⟩ := h;have hlt := h2.lt;rcases h2.2 with ⟨_, h0⟩ | ⟨g, cap, cur, e, hb, hg, _⟩
 · omega
 · injection e with e1 _ _
   exact ⟨g, e1, hb, (Array.getElem?_eq_some_iff.1 hg).1⟩
theorem Whole.there {w : World} {B g : Nat} {x : It} {c p : Nat} (h : Whole w B x (some ⟨g, 0, none⟩) c) (hp : p < x.kids.length) : w.there g (p * 4) 4 := by
 obtain ⟨_, hs, h2, _, _⟩ := h;intro j hj;refine ⟨?_, h2.frozenAt _⟩;rw [h2.cellAt _ (by omega)];have hl := h2.1;rw [List.getElem?_eq_getElem (by omega)];rfl
theorem Whole.set {w : World} {B g : Nat} {x y : It} {c p : Nat} {A' : Option Addr} {c' : Nat} (h : Whole w B x (some ⟨g, 0, none⟩) c) (hp : p < x.kids.length) (hy : Lies w (fun b => B ≤ b ∧ b ≠ g) y A' c') {w' : World}
 (e : w' = w.setCells g (p * 4) #[.int .i64 y.kind, .int .u64 (y.num : Int), .string y.str, .slice A' y.kids.length c'].toList) : Whole w' B (setAt x p y) (some ⟨g, 0, none⟩) c ∧ w.grownBy w' (some g) := by
 obtain ⟨h1, hs, h2, h3, h4⟩ := h;have hl := congrArg List.length h3;rw [List.length_map] at hl;have s0 := h2.stored (p * 4) (.int .i64 y.kind);have s1 := s0.1.stored (p * 4 + 1) (.int .u64 (y.num : Int));have s2 := s1.1.stored (p * 4 + 1 + 1) (.string y.str);have s3 := s2.1.stored (p * 4 + 1 + 1 + 1) (.slice A' y.kids.length c')
 have hgr : w.grownBy w' (some g) := by
  subst e;exact gr_set (p := ⟨g, p * 4 + 1 + 1 + 1, none⟩) (gr_set (p := ⟨g, p * 4 + 1 + 1, none⟩) (gr_set (p := ⟨g, p * 4 + 1, none⟩) (gr_set (p := ⟨g, p * 4, none⟩) (gr_refl w (some g)) (.inl rfl) _) (.inl rfl) _) (.inl rfl) _) (.inl rfl) _
 have hown : w'.ownsRow B 57 4 (.slice (some ⟨g, 0, none⟩) x.kids.length c) x.kids.length (cells4 (hs.set p ⟨y, A', c'⟩)) := by
  rw [← cells4_set hs p ⟨y, A', c'⟩ (by omega)];subst e;exact s3.1
 have hk : ∀ k ∈ hs.set p ⟨y, A', c'⟩, Lies w' (fun b => B ≤ b ∧ some b ≠ (Value.slice (some ⟨g, 0, none⟩) x.kids.length c).ownBlock) k.x k.A k.c := by
  intro k hk;rcases List.mem_or_eq_of_mem_set hk with hk | rfl
  · exact (h4 k hk).grown hgr fun b hb => hb.2
  · exact (hy.grown hgr fun b hb e => hb.2 (by injection e)).more fun b hb _ => ⟨hb.1, fun e => hb.2 (by injection e)⟩
 have hm : (hs.set p ⟨y, A', c'⟩).map (·.x) = x.kids.set p y := by rw [List.map_set, h3]
 have hlen : (setAt x p y).kids.length = x.kids.length := List.length_set;have hb := h1.bounds;refine ⟨⟨?_, hs.set p ⟨y, A', c'⟩, ?_, hm, ?_⟩, hgr⟩
 · have hr := Cp.own_row4 (S := fun b => B ≤ b) hown (fun b hb => hb) fun k hk' => (hk k hk').more fun b hb _ => hb.1
   rw [hm] at hr;exact hr.lies ⟨hb.1, hb.2.1⟩ hb.2.2.1 hb.2.2.2.1
 · rw [hlen]
   exact hown
 · rw [hlen]
   exact hk
theorem frame_set (v : Nat) (x y : It) (p : Nat) (A : Option Addr) (c : Nat) (S : Nat → Prop) (w : World) (hv : v < 256) (ht : Cr.Tab w) (hn : (form (setAt x p y)).length ≤ 1000000) (hl : Lies w S (setAt x p y) A c) (hS : ∀ b, S b → b < w.heap.size) :
 Calls Tryz.prog 24 #[.int .u8 (v : Int), .agg #[.int .i64 x.kind, .int .u64 (x.num : Int), .string x.str, .slice A x.kids.length c]] w (FrameIs v (setAt x p y) w) := by
 have h := ownframe_any v (setAt x p y) A c S w hv ht hn hl hS;have e : (setAt x p y).kids.length = x.kids.length := List.length_set;rw [e] at h;exact h
end Go.Proofs.YthlhchaoedcdbaaGreatDoor.Mg
/- The program's onlyNew and place. -/
namespace Go.Proofs.YthlhchaoedcdbaaGreatDoor.Mg
open Lib (hid)
open Go.RowKit Mem Ids Att Rk Cod
set_option maxRecDepth 20000 in
set_option maxHeartbeats 4000000 in
theorem onlynew_any (aM aR aN aB aC aT aU aS aK aL aQ : Int) (aY aV : ByteArray) (aZ : Int) (aA : Option Addr) (an ac : Nat) (aE aG aW : Int) (al : List (Int × Int)) (w : World) :
 Calls Tryz.prog 20 #[.agg #[.int .i64 aM, .int .i64 aR, .int .i64 aN, .int .i64 aB, .int .i64 aC, .int .i64 aT, .int .i64 aU, .int .i64 aS, .int .i64 aK, .int .i64 aL, .int .i64 aQ, .string aY, .string aV, .int .i64 aZ, .slice aA an ac, .int .i64 aE, .int .i64 aG, .int .i64 aW]] w (Tells (noOld ⟨aM, (aR, aN), (aB, aC), (aT, aU), aS, ⟨aK, aL, aQ, aY, aV, aZ⟩, ⟨al, aE, aG⟩, aW⟩) w) := by
 obtain ⟨k1, hbb⟩ := box1 w 32 #[.int .i64 aM, .int .i64 aR, .int .i64 aN, .int .i64 aB, .int .i64 aC, .int .i64 aT, .int .i64 aU, .int .i64 aS, .int .i64 aK, .int .i64 aL, .int .i64 aQ, .string aY, .string aV, .int .i64 aZ, .slice aA an ac, .int .i64 aE, .int .i64 aG, .int .i64 aW];obtain ⟨W, hW⟩ : ∃ v, w.alloc (.cells #[.int .i64 aM, .int .i64 aR, .int .i64 aN, .int .i64 aB, .int .i64 aC, .int .i64 aT, .int .i64 aU, .int .i64 aS, .int .i64 aK, .int .i64 aL, .int .i64 aQ, .string aY, .string aV, .int .i64 aZ, .slice aA an ac, .int .i64 aE, .int .i64 aG, .int .i64 aW] 32) = v := ⟨_, rfl⟩
 rw [hW] at k1 hbb;have HKa := hid k1;have HB := hid hbb;have HW := hid hW;clear hbb hW k1;obtain ⟨T, hT⟩ : ∃ T, noOld ⟨aM, (aR, aN), (aB, aC), (aT, aU), aS, ⟨aK, aL, aQ, aY, aV, aZ⟩, ⟨al, aE, aG⟩, aW⟩ = T := ⟨_, rfl⟩
 rw [hT];have hT : (decide (aG = 2) || decide (aK = 6)) = T := hT;have q2 : (aG == 2) = decide (aG = 2) := rfl;have q6 : (aK == 6) = decide (aK = 6) := rfl;generalize decide (aG = 2) = g2 at q2 hT;generalize decide (aK = 6) = g6 at q6 hT;have HT := hid hT;clear hT;have xa8 := HKa.out.cell 8;have xa16 := HKa.out.cell 16;simp at xa8 xa16;go_enter Tryz.func20, Tryz.ntmps20
 go_upto_region 1 with fail
 rw [HW.out];cases g2 with
 | true =>
   go_wp2_with fail
   go_ret;exact ⟨congrArg (fun b => Ending.returned (.bool b)) HT.out, HB.out⟩
 | false =>
   cases g6 with
   | true =>
     go_wp2_with fail
     go_ret;exact ⟨congrArg (fun b => Ending.returned (.bool b)) HT.out, HB.out⟩
   | false =>
     go_wp2_with fail
     go_ret;exact ⟨congrArg (fun b => Ending.returned (.bool b)) HT.out, HB.out⟩
theorem plc_at (k : Nat) (hk : k < 10) : plc.getD k 0 = ((placeN k : Nat) : Int) := by
 have h : k = 0 ∨ k = 1 ∨ k = 2 ∨ k = 3 ∨ k = 4 ∨ k = 5 ∨ k = 6 ∨ k = 7 ∨ k = 8 ∨ k = 9 := by omega
 rcases h with rfl | rfl | rfl | rfl | rfl | rfl | rfl | rfl | rfl | rfl <;> rfl
theorem place_none {x : It} (h : x.kids.length = 0) : placeOf x = 0 := if_pos h
theorem place_far {x : It} (h : 0 < x.kids.length) (h2 : 10 ≤ (x.kids.getD 0 Cmd.zeroIt).num) : placeOf x = 0 := by
 unfold placeOf;rw [if_neg (by omega), if_pos h2]
theorem place_at {x : It} (h : 0 < x.kids.length) (h2 : (x.kids.getD 0 Cmd.zeroIt).num < 10) : placeOf x = if x.kids.length ≤ placeN (x.kids.getD 0 Cmd.zeroIt).num then 0 else placeN (x.kids.getD 0 Cmd.zeroIt).num := by
 unfold placeOf;rw [if_neg (by omega), if_neg (by omega)]
set_option maxRecDepth 20000 in
set_option maxHeartbeats 4000000 in
theorem place_any (x : It) (A : Option Addr) (c : Nat) (S : Nat → Prop) (w : World) (hP : Pla w) (hl : Lies w S x A c) (hS : ∀ b, S b → b < w.heap.size) :
 Calls Tryz.prog 22 #[.agg #[.int .i64 x.kind, .int .u64 (x.num : Int), .string x.str, .slice A x.kids.length c]] w (Counts ((placeOf x : Nat) : Int) w) := by
 have hbx := bel_alloc (Below.refl w.heap.size w) (.cells #[.int .i64 x.kind, .int .u64 (x.num : Int), .string x.str, .slice A x.kids.length c] 57);have hk1 := Blk.new w 57 #[.int .i64 x.kind, .int .u64 (x.num : Int), .string x.str, .slice A x.kids.length c];obtain ⟨W, hW⟩ : ∃ W, w.alloc (.cells #[.int .i64 x.kind, .int .u64 (x.num : Int), .string x.str, .slice A x.kids.length c] 57) = W := ⟨_, rfl⟩
 rw [hW] at hbx hk1;have hlw := (hl.below hbx hS).row;have hPW := hP.below hbx;obtain ⟨n, hn⟩ : ∃ n, x.kids.length = n := ⟨_, rfl⟩
 have hle := hl.bounds.2.2.2.2;have h0 := place_none (x := x);have h1 := place_far (x := x);have h2 := place_at (x := x);rw [hn] at hlw hk1 hW hle h0 h1 h2 ⊢;obtain ⟨P, hp⟩ : ∃ P, placeOf x = P := ⟨_, rfl⟩
 rw [hp] at h0 h1 h2 ⊢;clear hp hl hP hn;obtain ⟨x0, x1, x2, x3⟩ := blk4 hk1;have HW := hid hW;have HB := hid hbx;clear hbx hk1 hW hS;by_cases hz : n = 0
 · have HP := hid (h0 hz)
   subst hz;clear h0 h1 h2 hlw hPW hle;go_enter Tryz.func22, Tryz.ntmps22
   go_upto_region 1 with fail
   rw [HW.out];go_wp2_with fail
   go_ret;exact ⟨by rw [HP.out]; rfl, HB.out⟩
 obtain ⟨g, o, A', c', rfl, _, _, q0, q1, q2, q3, _⟩ := Rk.row_at hlw (k := 0) (by omega);obtain ⟨y, hy⟩ : ∃ y, x.kids.getD 0 Cmd.zeroIt = y := ⟨_, rfl⟩
 rw [hy] at h1 h2 q1;obtain ⟨N, hN⟩ : ∃ N, y.num = N := ⟨_, rfl⟩
 rw [hN] at h1 h2 q1;clear hy hN q0 q2 q3 hlw h0;have q1 : W.cell? ⟨g, o + 1, none⟩ = some (.int .u64 (N : Int)) := by simpa using q1
 have b1 : ((n : Int) == 0) = false := beq_false_of_ne (by omega);have bn : ¬ n = 0 := hz;have bn0 : 0 < n := by omega
 by_cases hf : 10 ≤ N
 · have HP := hid (h1 bn0 hf)
   have b2 : decide ((10 : Int) ≤ (N : Int)) = true := decide_eq_true (by omega);clear h1 h2 hPW;go_enter Tryz.func22, Tryz.ntmps22
   go_upto_region 1 with fail
   rw [HW.out];go_wp2_with fail
   go_ret;exact ⟨by rw [HP.out]; rfl, HB.out⟩
 have b2 : decide ((10 : Int) ≤ (N : Int)) = false := decide_eq_false (by omega);have hN10 : N < 10 := by omega
 have hc := hPW N hN10;rw [plc_at N hN10] at hc;have h2 := h2 bn0 hN10;generalize placeN N = p at hc h2;clear h1 hPW;by_cases hpn : n ≤ p
 · rw [if_pos hpn] at h2
   have HP := hid h2;have b3 : decide ((n : Int) ≤ (p : Int)) = true := decide_eq_true (by omega);clear h2;go_enter Tryz.func22, Tryz.ntmps22
   go_upto_region 1 with fail
   rw [HW.out];go_wp2_with fail
   go_ret;exact ⟨by rw [HP.out]; rfl, HB.out⟩
 · rw [if_neg hpn] at h2
   have HP := hid h2;have b3 : decide ((n : Int) ≤ (p : Int)) = false := decide_eq_false (by omega);clear h2;go_enter Tryz.func22, Tryz.ntmps22
   go_upto_region 1 with fail
   rw [HW.out];go_wp2_with fail
   go_ret;exact ⟨by rw [HP.out]; rfl, HB.out⟩
end Go.Proofs.YthlhchaoedcdbaaGreatDoor.Mg
