/-
  Texts of earlier layers, as one.
-/
import Derived.Test.YthlhchaoedcdbaaGreatDoorMsgFr
import Derived.Test.YthlhchaoedcdbaaGreatDoorMsgPl
/- What is framed is opened as it was, at its version alone; plain mathematics. -/
namespace Go.Proofs.YthlhchaoedcdbaaGreatDoor.Mg
open Cod
theorem word_sb {s : Nat} (h : s < 4294967296) : word (sb s) = s := by
 simp only [word, sb, List.foldl_cons, List.foldl_nil];omega
theorem length_frame (v : Nat) (p : List Nat) : (frame v p).length = 5 + p.length := by
 simp only [frame, sb, List.length_cons, List.length_append, List.length_nil];omega
theorem open_frame (v : Nat) {p : List Nat} (hp : ∀ b ∈ p, b < 256) : openX v (frame v p) = (Cp.getX p, Cp.getE p) := by
 have h1 := length_frame v p;have h2 : (frame v p).getD 0 0 = v := rfl;have h3 : ((frame v p).drop 1).take 4 = sb (Crc.sum p) := rfl;have h4 : (frame v p).drop 5 = p := rfl;unfold openX;rw [if_neg (by omega), h2, if_neg (by omega), if_neg (by omega), h3, h4, word_sb (Crc.sum_lt p hp), if_pos rfl]
theorem open_item (v : Nat) {x : It} (hc : chk x 0 = 0) (fx : Fit x) (hl : (form x).length ≤ 1048576) : openX v (frame v (form x)) = (x, 0) := by
 rw [open_frame v (Cp.form_bytes x fx)];obtain ⟨h1, h2, _⟩ := Cp.get_parts_ok (get_form hc fx hl);rw [h1, h2]
end Go.Proofs.YthlhchaoedcdbaaGreatDoor.Mg
/- The program's way with messages, plainly: what a kind names, what is left of a message without the rest, what is right of it, and what it reads of an item's parts; plain mathematics. -/
namespace Go.Proofs.YthlhchaoedcdbaaGreatDoor.Mg
open Cod Rk
def tab (k : Nat) : Int := [0, 27, 19, 27, 3, 25, 3, 31, 3, 32].getD k 0
def pts (m : Mg) : Int := if decide (0 ≤ m.kd) && decide (m.kd ≤ 9) then (if decide (m.kd = 7) && decide (m.st = 0) then 7 else tab m.kd.toNat) else 0
def bare (m : Mg) : Mg :=
 ⟨m.kd, if hId m = true then m.id else (0, 0), if hBal m = true then m.bl else (0, 0), if m.kd = 7 then m.tk else (0, 0), if m.kd = 7 then m.st else 0, if hCmd m = true then m.cm else Cmd.zeroCm, if hAt m = true then m.at_ else Att.zeroAt, if m.kd = 9 then m.vn else 0⟩
def sound (m : Mg) : Bool :=
 if m.kd = 9 then decide (m.vn = 1) || decide (m.vn = 2) else if m.kd = 7 then rgt (recOf m)
 else if (hCmd m && !decide (Cmd.chk m.cm = 0)) = true then false else if (hAt m && (!decide (Att.achk m.at_ = 0) || decide (m.id ∈ m.at_.dp))) = true then false
 else Ids.right m.id && Bal.right m.bl
theorem pts_zero (m : Mg) : pts m = 0 ↔ ¬ (1 ≤ m.kd ∧ m.kd ≤ 9) := by
 unfold pts;by_cases h : 0 ≤ m.kd ∧ m.kd ≤ 9
 · have hk : m.kd = 0 ∨ m.kd = 1 ∨ m.kd = 2 ∨ m.kd = 3 ∨ m.kd = 4 ∨ m.kd = 5 ∨ m.kd = 6 ∨ m.kd = 7 ∨ m.kd = 8 ∨ m.kd = 9 := by omega
   rcases hk with e | e | e | e | e | e | e | e | e | e <;> rw [e] <;> simp [tab];split <;> decide
 · rw [if_neg (by simpa using h)]
   simp;omega
theorem bare_right {m : Mg} (h : mright m = true) : bare m = m := by
 obtain ⟨hk, f1, f2, f3, f4, f5, f6, _⟩ := mright_parts h;obtain ⟨kd, id, bl, tk, st, cm, att, vn⟩ := m;simp only at hk f1 f2 f3 f4 f5 f6;simp only [bare, Mg.mk.injEq, true_and];refine ⟨?_, ?_, ?_, ?_, ?_, ?_, ?_⟩
 · split
   · rfl
   · rename_i e; exact (f1 (by simpa using e)).symm
 · split
   · rfl
   · rename_i e; exact (f2 (by simpa using e)).symm
 · split
   · rfl
   · rename_i e; exact (f3 e).2.symm
 · split
   · rfl
   · rename_i e; exact (f3 e).1.symm
 · split
   · rfl
   · rename_i e; exact (f4 (by simpa using e)).symm
 · split
   · rfl
   · rename_i e; exact (f6 (by simpa using e)).symm
 · split
   · rfl
   · rename_i e; exact (f5 e).symm
theorem rgt_all {r : Rc} (h : rgt r = true) : Ids.right r.id = true ∧ Bal.right r.bl = true ∧ (¬ r.st = 0 → Cmd.chk r.cm = 0 ∧ Att.achk r.at_ = 0 ∧ r.id ∉ r.at_.dp) := by
 simp only [rgt, promised, Bool.and_eq_true] at h;obtain ⟨⟨h1, ⟨h2, _⟩, _⟩, h4⟩ := h;refine ⟨h1, h2, fun hs => ?_⟩;unfold filled at h4;rw [if_neg hs] at h4;split at h4
 · simp only [Bool.and_eq_true, Bool.not_eq_true', decide_eq_true_eq, decide_eq_false_iff_not] at h4
   exact ⟨h4.1.1, h4.1.2, h4.2⟩
 · cases h4
theorem bare_parts {m : Mg} (h : bare m = m) : (hId m = false → m.id = (0, 0)) ∧ (hBal m = false → m.bl = (0, 0)) ∧ (¬ m.kd = 7 → m.st = 0 ∧ m.tk = (0, 0)) ∧ (hCmd m = false → m.cm = Cmd.zeroCm) ∧ (¬ m.kd = 9 → m.vn = 0) ∧ (hAt m = false → m.at_ = Att.zeroAt) := by
 have e1 : (bare m).id = m.id := by rw [h]
 have e2 : (bare m).bl = m.bl := by rw [h]
 have e3 : (bare m).tk = m.tk := by rw [h]
 have e4 : (bare m).st = m.st := by rw [h]
 have e5 : (bare m).cm = m.cm := by rw [h]
 have e6 : (bare m).at_ = m.at_ := by rw [h]
 have e7 : (bare m).vn = m.vn := by rw [h]
 simp only [bare] at e1 e2 e3 e4 e5 e6 e7;refine ⟨fun e => ?_, fun e => ?_, fun e => ⟨?_, ?_⟩, fun e => ?_, fun e => ?_, fun e => ?_⟩
 · rw [if_neg (by simp [e])] at e1; exact e1.symm
 · rw [if_neg (by simp [e])] at e2; exact e2.symm
 · rw [if_neg e] at e4; exact e4.symm
 · rw [if_neg e] at e3; exact e3.symm
 · rw [if_neg (by simp [e])] at e5; exact e5.symm
 · rw [if_neg e] at e7; exact e7.symm
 · rw [if_neg (by simp [e])] at e6; exact e6.symm
theorem mright_eq (m : Mg) : mright m = (!decide (pts m = 0) && (msame m (bare m) && sound m)) := by
 rw [Bool.eq_iff_iff];constructor
 · intro h
   obtain ⟨hk, f1, f2, f3, f4, f5, f6, g1, g2, g3, g4, g5, g6⟩ := mright_parts h;rw [bare_right h, msame_refl, Bool.true_and, Bool.and_eq_true];refine ⟨by rw [Bool.not_eq_true', decide_eq_false_iff_not, pts_zero]; exact fun h => h hk, ?_⟩;unfold sound;by_cases h9 : m.kd = 9
   · rw [if_pos h9, Bool.or_eq_true]
     rcases g6 h9 with e | e
     · exact .inl (decide_eq_true e)
     · exact .inr (decide_eq_true e)
   · rw [if_neg h9]
     by_cases h7 : m.kd = 7
     · rw [if_pos h7]; exact g5 h7
     · rw [if_neg h7]
       have hi : hId m = true := by simp [hId]; omega
       have hb : Bal.right m.bl = true := by
        cases e : hBal m with
        | true => exact g2 e
        | false => rw [f2 e]; rfl
       rw [if_neg, if_neg]
       · rw [g1 hi, hb]; rfl
       · rw [Bool.not_eq_true, Bool.and_eq_false_iff]
         cases e : hAt m with
         | false => exact .inl rfl
         | true => exact .inr (by rw [decide_eq_true (g4 e).1, decide_eq_false (g4 e).2]; rfl)
       · rw [Bool.not_eq_true, Bool.and_eq_false_iff]
         cases e : hCmd m with
         | false => exact .inl rfl
         | true => exact .inr (by rw [decide_eq_true (g3 e)]; rfl)
 · intro h
   simp only [Bool.and_eq_true, Bool.not_eq_true', decide_eq_false_iff_not, pts_zero, Classical.not_not] at h;obtain ⟨hk, hb, hs⟩ := h;have hb := (msame_iff.1 hb).symm;obtain ⟨f1, f2, f3, f4, f5, f6⟩ := bare_parts hb;have hin : (decide (m.kd < 1) || decide (9 < m.kd)) = false := by rw [decide_eq_false (by omega), decide_eq_false (by omega)]; rfl
   have hmore : more m = false := by
    unfold more
    have a1 : (!hId m && !decide (m.id = (0, 0))) = false := by
     cases e : hId m with
     | true => rfl
     | false => rw [decide_eq_true (f1 e)]; rfl
    have a2 : (!hBal m && !decide (m.bl = (0, 0))) = false := by
     cases e : hBal m with
     | true => rfl
     | false => rw [decide_eq_true (f2 e)]; rfl
    have a3 : (!decide (m.kd = 7) && (!decide (m.st = 0) || !decide (m.tk = (0, 0)))) = false := by
     by_cases e : m.kd = 7
     · rw [decide_eq_true e]; rfl
     · rw [decide_eq_true (f3 e).1, decide_eq_true (f3 e).2, decide_eq_false e]; rfl
    have a4 : (!hCmd m && !Cmd.eqv m.cm Cmd.zeroCm) = false := by
     cases e : hCmd m with
     | true => rfl
     | false => rw [Cmd.eqv_iff.2 (f4 e)]; rfl
    have a5 : (!decide (m.kd = 9) && !decide (m.vn = 0)) = false := by
     by_cases e : m.kd = 9
     · rw [decide_eq_true e]; rfl
     · rw [decide_eq_true (f5 e), decide_eq_false e]; rfl
    rw [a1, a2, a3, a4, a5];rfl
   have hhung : hung m = false := by
    unfold hung;cases e : hAt m with
    | true => rfl
    | false => rw [f6 e]; rfl
   unfold mright;rw [if_neg (by rw [hin]; decide), if_neg (by rw [hmore]; decide), if_neg (by rw [hhung]; decide)];unfold sound at hs;by_cases h9 : m.kd = 9
   · rw [if_pos h9] at hs
     have e1 : hId m = false := (by simp [hId]; omega);have e2 : hBal m = false := (by simp [hBal, e1]);have e3 : hCmd m = false := (by simp [hCmd]; omega);have e4 : hAt m = false := (by simp [hAt, e3]; omega);have hw : wrong m = false := (by simp [wrong, e1, e2, e3]);have hwa : wrongAt m = false := (by simp [wrongAt, e4]);rw [if_neg (by rw [hw]; decide), if_neg (by rw [hwa]; decide), if_neg (by omega), hs, Bool.or_true]
   · rw [if_neg h9] at hs
     by_cases h7 : m.kd = 7
     · rw [if_pos h7] at hs
       obtain ⟨r1, r2, r3⟩ := rgt_all hs;simp only [recOf] at r1 r2 r3;have hc : hCmd m = !decide (m.st = 0) := (by simp [hCmd, h7]);have ha : hAt m = !decide (m.st = 0) := by simp [hAt, hc, h7]
       have hw : wrong m = false := by
        unfold wrong;rw [r1, r2, hc];by_cases e : m.st = 0
        · rw [decide_eq_true e]; simp
        · rw [decide_eq_true (r3 e).1]; simp
       have hwa : wrongAt m = false := by
        unfold wrongAt;rw [ha];by_cases e : m.st = 0
        · rw [decide_eq_true e]; rfl
        · rw [decide_eq_true (r3 e).2.1, decide_eq_false (r3 e).2.2]; simp
       rw [if_neg (by rw [hw]; decide), if_neg (by rw [hwa]; decide), if_pos h7, hs]
     · rw [if_neg h7] at hs
       split at hs
       · cases hs
       rename_i c1;split at hs
       · cases hs
       rename_i c2;rw [Bool.and_eq_true] at hs;rw [Bool.not_eq_true] at c1 c2
       have hw : wrong m = false := by
        unfold wrong;rw [hs.1, hs.2, c1];simp
       have hwa : wrongAt m = false := c2;rw [if_neg (by rw [hw]; decide), if_neg (by rw [hwa]; decide), if_neg h7, decide_eq_false h9];rfl
def hd (l : List It) : It := l.getD 0 Cmd.zeroIt
def tl (l : List It) : List It := l.drop 1
def q1 (s : Mg × List It) : Mg × List It := if hId s.1 = true then ({ s.1 with id := (Cmd.w64 (hd s.2).num, Cmd.w64 (hd (tl s.2)).num) }, tl (tl s.2)) else s
def q2 (s : Mg × List It) : Mg × List It := if hBal s.1 = true then ({ s.1 with bl := (Bal.balTake (hd s.2)).getD (0, 0) }, tl s.2) else s
def q3 (s : Mg × List It) : Mg × List It := if s.1.kd = 7 then ({ s.1 with st := Cmd.w64 (hd s.2).num, tk := (Bal.balTake (hd (tl s.2))).getD (0, 0) }, tl (tl s.2)) else s
def q4 (s : Mg × List It) : Mg × List It := if hCmd s.1 = true then ({ s.1 with cm := (Cmd.takeOf (hd s.2)).getD Cmd.zeroCm }, tl s.2) else s
noncomputable def q5 (s : Mg × List It) : Mg × List It := if hAt s.1 = true then ({ s.1 with at_ := (Att.attTake (hd s.2)).getD Att.zeroAt }, tl s.2) else s
def q6 (s : Mg × List It) : Mg × List It := if s.1.kd = 9 then ({ s.1 with vn := Cmd.w64 (hd s.2).num }, tl s.2) else s
def q0 (l : List It) : Mg × List It := (⟨Cmd.w64 (hd l).num, (0, 0), (0, 0), (0, 0), 0, Cmd.zeroCm, Att.zeroAt, 0⟩, tl l)
noncomputable def readOwn (l : List It) : Mg := (q6 (q5 (q4 (q3 (q2 (q1 (q0 l))))))).1
theorem w64n {v : Int} (h : 0 ≤ v) (h' : v ≤ 1099511627776) : Cmd.w64 (Cmd.numIt v).num = v := by
 show Cmd.w64 v.toNat = v;rw [Cmd.w64_small (by omega)];omega
theorem own_laid {m : Mg} (h : mright m = true) : readOwn (mparts m (Att.attIt m.at_)) = m := by
 obtain ⟨hk, f1, f2, f3, f4, f5, f6, g1, g2, g3, g4, g5, g6⟩ := mright_parts h;obtain ⟨kd, ⟨i1, i2⟩, bl, tk, st, cm, att, vn⟩ := m;simp only at hk f1 f2 f3 f4 f5 f6 g1 g2 g3 g4 g5 g6
 have hid : hId ⟨kd, (i1, i2), bl, tk, st, cm, att, vn⟩ = true → Cmd.w64 (Cmd.numIt i1).num = i1 ∧ Cmd.w64 (Cmd.numIt i2).num = i2 := fun e => by
  have h := of_decide_eq_true (g1 e);exact ⟨w64n (by omega) (by omega), w64n (by omega) (by omega)⟩
 have hbl : hBal ⟨kd, (i1, i2), bl, tk, st, cm, att, vn⟩ = true → (Bal.balTake (Bal.balIt bl)).getD (0, 0) = bl := fun e => by rw [Bal.take_bal (g2 e)]; rfl
 have hcm : hCmd ⟨kd, (i1, i2), bl, tk, st, cm, att, vn⟩ = true → (Cmd.takeOf (Cmd.cmIt cm)).getD Cmd.zeroCm = cm := fun e => by rw [Cmd.take_cm (g3 e)]; rfl
 have hat : hAt ⟨kd, (i1, i2), bl, tk, st, cm, att, vn⟩ = true → (Att.attTake (Att.attIt att)).getD Att.zeroAt = att := fun e => by rw [Att.att_put (g4 e).1]; rfl
 have hkc : kd = 1 ∨ kd = 2 ∨ kd = 3 ∨ kd = 4 ∨ kd = 5 ∨ kd = 6 ∨ kd = 7 ∨ kd = 8 ∨ kd = 9 := by omega
 have e0 : q0 (mparts ⟨kd, (i1, i2), bl, tk, st, cm, att, vn⟩ (Att.attIt att)) = (⟨kd, (0, 0), (0, 0), (0, 0), 0, Cmd.zeroCm, Att.zeroAt, 0⟩, tl (mparts ⟨kd, (i1, i2), bl, tk, st, cm, att, vn⟩ (Att.attIt att))) := by
  show ((⟨Cmd.w64 (Cmd.numIt kd).num, (0, 0), (0, 0), (0, 0), 0, Cmd.zeroCm, Att.zeroAt, 0⟩ : Mg), tl (mparts ⟨kd, (i1, i2), bl, tk, st, cm, att, vn⟩ (Att.attIt att))) = _;rw [w64n (by omega) (by omega)]
 unfold readOwn;rw [e0];clear e0;rcases hkc with rfl | rfl | rfl | rfl | rfl | rfl | rfl | rfl | rfl
 · obtain ⟨e1, e2⟩ := hid rfl
   obtain ⟨rfl, rfl⟩ := f3 (by decide);obtain rfl := f5 (by decide);show (⟨1, (Cmd.w64 (Cmd.numIt i1).num, Cmd.w64 (Cmd.numIt i2).num), (Bal.balTake (Bal.balIt bl)).getD (0, 0), (0, 0), 0, (Cmd.takeOf (Cmd.cmIt cm)).getD Cmd.zeroCm, (Att.attTake (Att.attIt att)).getD Att.zeroAt, 0⟩ : Mg) = _;rw [e1, e2, hbl rfl, hcm rfl, hat rfl]
 · obtain ⟨e1, e2⟩ := hid rfl
   obtain ⟨rfl, rfl⟩ := f3 (by decide);obtain rfl := f4 rfl;obtain rfl := f5 (by decide);show (⟨2, (Cmd.w64 (Cmd.numIt i1).num, Cmd.w64 (Cmd.numIt i2).num), (Bal.balTake (Bal.balIt bl)).getD (0, 0), (0, 0), 0, Cmd.zeroCm, (Att.attTake (Att.attIt att)).getD Att.zeroAt, 0⟩ : Mg) = _;rw [e1, e2, hbl rfl, hat rfl]
 · obtain ⟨e1, e2⟩ := hid rfl
   obtain ⟨rfl, rfl⟩ := f3 (by decide);obtain rfl := f5 (by decide);show (⟨3, (Cmd.w64 (Cmd.numIt i1).num, Cmd.w64 (Cmd.numIt i2).num), (Bal.balTake (Bal.balIt bl)).getD (0, 0), (0, 0), 0, (Cmd.takeOf (Cmd.cmIt cm)).getD Cmd.zeroCm, (Att.attTake (Att.attIt att)).getD Att.zeroAt, 0⟩ : Mg) = _;rw [e1, e2, hbl rfl, hcm rfl, hat rfl]
 · obtain ⟨e1, e2⟩ := hid rfl
   obtain ⟨rfl, rfl⟩ := f3 (by decide);obtain rfl := f4 rfl;obtain rfl := f5 (by decide);obtain rfl := f6 rfl;show (⟨4, (Cmd.w64 (Cmd.numIt i1).num, Cmd.w64 (Cmd.numIt i2).num), (Bal.balTake (Bal.balIt bl)).getD (0, 0), (0, 0), 0, Cmd.zeroCm, Att.zeroAt, 0⟩ : Mg) = _;rw [e1, e2, hbl rfl]
 · obtain ⟨e1, e2⟩ := hid rfl
   obtain rfl := f2 rfl;obtain ⟨rfl, rfl⟩ := f3 (by decide);obtain rfl := f5 (by decide);show (⟨5, (Cmd.w64 (Cmd.numIt i1).num, Cmd.w64 (Cmd.numIt i2).num), (0, 0), (0, 0), 0, (Cmd.takeOf (Cmd.cmIt cm)).getD Cmd.zeroCm, (Att.attTake (Att.attIt att)).getD Att.zeroAt, 0⟩ : Mg) = _;rw [e1, e2, hcm rfl, hat rfl]
 · obtain ⟨e1, e2⟩ := hid rfl
   obtain ⟨rfl, rfl⟩ := f3 (by decide);obtain rfl := f4 rfl;obtain rfl := f5 (by decide);obtain rfl := f6 rfl;show (⟨6, (Cmd.w64 (Cmd.numIt i1).num, Cmd.w64 (Cmd.numIt i2).num), (Bal.balTake (Bal.balIt bl)).getD (0, 0), (0, 0), 0, Cmd.zeroCm, Att.zeroAt, 0⟩ : Mg) = _;rw [e1, e2, hbl rfl]
 · obtain ⟨e1, e2⟩ := hid rfl
   obtain rfl := f5 (by decide);obtain ⟨_, _, r3, _, r5, _, _⟩ := rgt_parts (g5 rfl);simp only [recOf] at r3 r5;have et : (Bal.balTake (Bal.balIt tk)).getD (0, 0) = tk := (by rw [Bal.take_bal r5]; rfl);have es : Cmd.w64 (Cmd.numIt st).num = st := w64n (by omega) (by omega);by_cases hs : st = 0
   · subst hs
     obtain rfl := f4 rfl;obtain rfl := f6 rfl
     have e3 : q3 (q2 (q1 (⟨7, (0, 0), (0, 0), (0, 0), 0, Cmd.zeroCm, Att.zeroAt, 0⟩, tl (mparts ⟨7, (i1, i2), bl, tk, 0, Cmd.zeroCm, Att.zeroAt, 0⟩ (Att.attIt Att.zeroAt))))) = (⟨7, (i1, i2), bl, tk, 0, Cmd.zeroCm, Att.zeroAt, 0⟩, []) := by
      show ((⟨7, (Cmd.w64 (Cmd.numIt i1).num, Cmd.w64 (Cmd.numIt i2).num), (Bal.balTake (Bal.balIt bl)).getD (0, 0), (Bal.balTake (Bal.balIt tk)).getD (0, 0), Cmd.w64 (Cmd.numIt 0).num, Cmd.zeroCm, Att.zeroAt, 0⟩ : Mg), []) = _;rw [e1, e2, hbl rfl, et, es]
     rw [e3];rfl
   · have hc : ∀ z a, hCmd ⟨7, (i1, i2), bl, tk, st, z, a, 0⟩ = true := fun z a => by simp [hCmd, hs]
     have ha : ∀ z a, hAt ⟨7, (i1, i2), bl, tk, st, z, a, 0⟩ = true := fun z a => by simp [hAt, hc]
     have ek : mparts ⟨7, (i1, i2), bl, tk, st, cm, att, 0⟩ (Att.attIt att) = [Cmd.numIt 7, Cmd.numIt i1, Cmd.numIt i2, Bal.balIt bl, Cmd.numIt st, Bal.balIt tk, Cmd.cmIt cm, Att.attIt att] := by
      unfold mparts;rw [hc, ha];rfl
     rw [ek]
     have e3 : q3 (q2 (q1 (⟨7, (0, 0), (0, 0), (0, 0), 0, Cmd.zeroCm, Att.zeroAt, 0⟩, tl [Cmd.numIt 7, Cmd.numIt i1, Cmd.numIt i2, Bal.balIt bl, Cmd.numIt st, Bal.balIt tk, Cmd.cmIt cm, Att.attIt att]))) = (⟨7, (i1, i2), bl, tk, st, Cmd.zeroCm, Att.zeroAt, 0⟩, [Cmd.cmIt cm, Att.attIt att]) := by
      show ((⟨7, (Cmd.w64 (Cmd.numIt i1).num, Cmd.w64 (Cmd.numIt i2).num), (Bal.balTake (Bal.balIt bl)).getD (0, 0), (Bal.balTake (Bal.balIt tk)).getD (0, 0), Cmd.w64 (Cmd.numIt st).num, Cmd.zeroCm, Att.zeroAt, 0⟩ : Mg), [Cmd.cmIt cm, Att.attIt att]) = _;rw [e1, e2, hbl rfl, et, es]
     rw [e3]
     have e4 : q4 (⟨7, (i1, i2), bl, tk, st, Cmd.zeroCm, Att.zeroAt, 0⟩, [Cmd.cmIt cm, Att.attIt att]) = (⟨7, (i1, i2), bl, tk, st, cm, Att.zeroAt, 0⟩, [Att.attIt att]) := by
      unfold q4;rw [if_pos (hc _ _)];show ((⟨7, (i1, i2), bl, tk, st, (Cmd.takeOf (Cmd.cmIt cm)).getD Cmd.zeroCm, Att.zeroAt, 0⟩ : Mg), [Att.attIt att]) = _;rw [hcm (hc _ _)]
     rw [e4]
     have e5 : q5 (⟨7, (i1, i2), bl, tk, st, cm, Att.zeroAt, 0⟩, [Att.attIt att]) = (⟨7, (i1, i2), bl, tk, st, cm, att, 0⟩, []) := by
      unfold q5;rw [if_pos (ha _ _)];show ((⟨7, (i1, i2), bl, tk, st, cm, (Att.attTake (Att.attIt att)).getD Att.zeroAt, 0⟩ : Mg), []) = _;rw [hat (ha _ _)]
     rw [e5];rfl
 · obtain ⟨e1, e2⟩ := hid rfl
   obtain ⟨rfl, rfl⟩ := f3 (by decide);obtain rfl := f4 rfl;obtain rfl := f5 (by decide);obtain rfl := f6 rfl;show (⟨8, (Cmd.w64 (Cmd.numIt i1).num, Cmd.w64 (Cmd.numIt i2).num), (Bal.balTake (Bal.balIt bl)).getD (0, 0), (0, 0), 0, Cmd.zeroCm, Att.zeroAt, 0⟩ : Mg) = _;rw [e1, e2, hbl rfl]
 · obtain ⟨e1, e2⟩ : i1 = 0 ∧ i2 = 0 := by have := f1 rfl; injection this with a b; exact ⟨a, b⟩
   subst e1 e2;obtain rfl := f2 rfl;obtain ⟨rfl, rfl⟩ := f3 (by decide);obtain rfl := f4 rfl;obtain rfl := f6 rfl;have hv := g6 rfl;show (⟨9, (0, 0), (0, 0), (0, 0), 0, Cmd.zeroCm, Att.zeroAt, Cmd.w64 (Cmd.numIt vn).num⟩ : Mg) = _;rw [w64n (by omega) (by omega)]
theorem own_back {m : Mg} (h : mright m = true) : readOwn (mgIt m).kids = m := own_laid h
noncomputable def ownTake (r : It × Nat) : Mg × Nat :=
 if r.2 = 0 then (if (mright (readOwn r.1.kids) && same (mgIt (readOwn r.1.kids)) r.1) = true then (readOwn r.1.kids, 0) else (zeroMg, 4)) else (zeroMg, r.2)
theorem own_ref (r : It × Nat) : ownTake r = refTake r := by
 obtain ⟨x, e⟩ := r;by_cases he : e = 0
 · subst he
   by_cases hx : ∃ m, mright m = true ∧ mgIt m = x
   · obtain ⟨m, hm, rfl⟩ := hx
     rw [refTake_iff.2 ⟨hm, rfl⟩];unfold ownTake;rw [if_pos rfl];simp only;rw [own_back hm, if_pos (by rw [hm, (same_iff _ _).2 rfl]; rfl)]
   · rw [refTake_no fun m hm e => hx ⟨m, hm, e⟩]
     unfold ownTake;rw [if_pos rfl, if_neg];intro hc;rw [Bool.and_eq_true] at hc;exact hx ⟨_, hc.1, (same_iff _ _).1 hc.2⟩
 · unfold ownTake refTake
   rw [if_neg he, if_neg he]
end Go.Proofs.YthlhchaoedcdbaaGreatDoor.Mg
/- What a message has by its kind, as the program tells it: the table, its bits. -/
namespace Go.Proofs.YthlhchaoedcdbaaGreatDoor.Mg
open Go.RowKit Mem Ids Att Rk Cod
def Nam (w : World) : Prop := ∀ k : Nat, k < 10 → w.cell? ⟨1, k, none⟩ = some (.int .i64 (tab k))
theorem Nam.below {w w' : World} (h : Nam w) (hb : Below w.heap.size w w') : Nam w' := fun k hk => by
 have := h k hk;exact (hb.cell (World.block_lt_of_cell? w _ this)).trans this
def Counts (v : Int) (w : World) (e : Ending) (w' : World) : Prop := e = .returned (.int .i64 v) ∧ Below w.heap.size w w'
set_option maxRecDepth 20000 in
set_option maxHeartbeats 4000000 in
theorem parts_any (aM aR aN aB aC aT aU aS aK aL aQ : Int) (aY aV : ByteArray) (aZ : Int) (aA : Option Addr) (an ac : Nat) (aE aG aW : Int) (al : List (Int × Int)) (w : World) (hn : Nam w) :
 Calls Tryz.prog 38 #[.agg #[.int .i64 aM, .int .i64 aR, .int .i64 aN, .int .i64 aB, .int .i64 aC, .int .i64 aT, .int .i64 aU, .int .i64 aS, .int .i64 aK, .int .i64 aL, .int .i64 aQ, .string aY, .string aV, .int .i64 aZ, .slice aA an ac, .int .i64 aE, .int .i64 aG, .int .i64 aW]] w (Counts (pts ⟨aM, (aR, aN), (aB, aC), (aT, aU), aS, ⟨aK, aL, aQ, aY, aV, aZ⟩, ⟨al, aE, aG⟩, aW⟩) w) := by
 obtain ⟨k1, hbb⟩ := box1 w 32 #[.int .i64 aM, .int .i64 aR, .int .i64 aN, .int .i64 aB, .int .i64 aC, .int .i64 aT, .int .i64 aU, .int .i64 aS, .int .i64 aK, .int .i64 aL, .int .i64 aQ, .string aY, .string aV, .int .i64 aZ, .slice aA an ac, .int .i64 aE, .int .i64 aG, .int .i64 aW];obtain ⟨W, hW⟩ : ∃ v, w.alloc (.cells #[.int .i64 aM, .int .i64 aR, .int .i64 aN, .int .i64 aB, .int .i64 aC, .int .i64 aT, .int .i64 aU, .int .i64 aS, .int .i64 aK, .int .i64 aL, .int .i64 aQ, .string aY, .string aV, .int .i64 aZ, .slice aA an ac, .int .i64 aE, .int .i64 aG, .int .i64 aW] 32) = v := ⟨_, rfl⟩
 rw [hW] at k1 hbb;have hnW := hn.below hbb;have HW := Lib.hid hW;have HB := Lib.hid hbb;have x0 := k1.cell 0;have x7 := k1.cell 7;simp at x0 x7;clear hW hbb k1 hn;obtain ⟨T, hT⟩ : ∃ T, pts ⟨aM, (aR, aN), (aB, aC), (aT, aU), aS, ⟨aK, aL, aQ, aY, aV, aZ⟩, ⟨al, aE, aG⟩, aW⟩ = T := ⟨_, rfl⟩
 rw [hT];unfold pts at hT;simp only at hT;by_cases h7 : aM = 7
 · subst h7
   have hc : W.cell? ⟨1, 7, none⟩ = some (.int .i64 31) := hnW 7 (by decide);have a1 : bits .and .i64 31 4 = 4 := (by decide);have a2 : bits .andNot .i64 31 24 = 7 := (by decide);by_cases h0 : aS = 0
   · subst h0
     have hT : T = 7 := hT.symm;subst hT;clear hnW;go_enter Tryz.func38, Tryz.ntmps38
     go_upto_region 1 with fail
     rw [HW.out];go_wp2_with fail
     go_ret;exact ⟨rfl, HB.out⟩
   · have b3 : (aS == 0) = false := beq_false_of_ne h0
     have hT : T = 31 := (by rw [decide_eq_false h0] at hT; exact hT.symm);subst hT;clear hnW h0;go_enter Tryz.func38, Tryz.ntmps38
     go_upto_region 1 with fail
     rw [HW.out];go_wp2_with fail
     go_ret;exact ⟨rfl, HB.out⟩
 by_cases hin : 0 ≤ aM ∧ aM ≤ 9
 · obtain ⟨k, rfl⟩ : ∃ k : Nat, aM = (k : Int) := ⟨aM.toNat, by omega⟩
   have hk : k < 10 := (by omega);have b1 : decide ((k : Int) < 0) = false := decide_eq_false (by omega);have b2 : decide ((10 : Int) ≤ (k : Int)) = false := decide_eq_false (by omega);have hc := hnW k hk;rw [if_pos (by simp; omega), Int.toNat_natCast] at hT;rw [decide_eq_false h7, Bool.false_and, if_neg (by decide)] at hT;rw [hT] at hc
   have a1 : bits .and .i64 T 4 = 0 := by
    have hkk : k = 0 ∨ k = 1 ∨ k = 2 ∨ k = 3 ∨ k = 4 ∨ k = 5 ∨ k = 6 ∨ k = 8 ∨ k = 9 := (by omega);rcases hkk with rfl | rfl | rfl | rfl | rfl | rfl | rfl | rfl | rfl <;> (subst hT; decide)
   clear hT h7 hnW;go_enter Tryz.func38, Tryz.ntmps38
   go_upto_region 1 with fail
   rw [HW.out];go_wp2_with fail
   go_ret;exact ⟨rfl, HB.out⟩
 · rw [if_neg (by simp; omega)] at hT
   subst hT;by_cases hlow : aM < 0
   · have b1 : decide (aM < 0) = true := decide_eq_true hlow
     go_enter Tryz.func38, Tryz.ntmps38
     go_upto_region 1 with fail
     rw [HW.out];go_wp2_with fail
     go_ret;exact ⟨rfl, HB.out⟩
   · have b1 : decide (aM < 0) = false := decide_eq_false hlow
     have b2 : decide ((10 : Int) ≤ aM) = true := decide_eq_true (by omega);go_enter Tryz.func38, Tryz.ntmps38
     go_upto_region 1 with fail
     rw [HW.out];go_wp2_with fail
     go_ret;exact ⟨rfl, HB.out⟩
set_option maxRecDepth 20000 in
set_option maxHeartbeats 4000000 in
theorem has_any (aM aR aN aB aC aT aU aS aK aL aQ : Int) (aY aV : ByteArray) (aZ : Int) (aA : Option Addr) (an ac : Nat) (aE aG aW : Int) (al : List (Int × Int)) (p X : Int) (t : Bool) (w : World) (hn : Nam w) (hX : bits .and .i64 (pts ⟨aM, (aR, aN), (aB, aC), (aT, aU), aS, ⟨aK, aL, aQ, aY, aV, aZ⟩, ⟨al, aE, aG⟩, aW⟩) p = X) (ht : (X != 0) = t) :
 Calls Tryz.prog 68 #[.agg #[.int .i64 aM, .int .i64 aR, .int .i64 aN, .int .i64 aB, .int .i64 aC, .int .i64 aT, .int .i64 aU, .int .i64 aS, .int .i64 aK, .int .i64 aL, .int .i64 aQ, .string aY, .string aV, .int .i64 aZ, .slice aA an ac, .int .i64 aE, .int .i64 aG, .int .i64 aW], .int .i64 p] w (Tells t w) := by
 obtain ⟨k1, hbb⟩ := box1 w 32 #[.int .i64 aM, .int .i64 aR, .int .i64 aN, .int .i64 aB, .int .i64 aC, .int .i64 aT, .int .i64 aU, .int .i64 aS, .int .i64 aK, .int .i64 aL, .int .i64 aQ, .string aY, .string aV, .int .i64 aZ, .slice aA an ac, .int .i64 aE, .int .i64 aG, .int .i64 aW];obtain ⟨W, hW⟩ : ∃ v, w.alloc (.cells #[.int .i64 aM, .int .i64 aR, .int .i64 aN, .int .i64 aB, .int .i64 aC, .int .i64 aT, .int .i64 aU, .int .i64 aS, .int .i64 aK, .int .i64 aL, .int .i64 aQ, .string aY, .string aV, .int .i64 aZ, .slice aA an ac, .int .i64 aE, .int .i64 aG, .int .i64 aW] 32) = v := ⟨_, rfl⟩
 rw [hW] at k1 hbb;have HKa := Lib.hid k1;have HW := Lib.hid hW;have HB := Lib.hid hbb;have HC := Lib.hid (Below.refl W.heap.size W);have H1 := Lib.hid (parts_any aM aR aN aB aC aT aU aS aK aL aQ aY aV aZ aA an ac aE aG aW al W (hn.below hbb));generalize pts ⟨aM, (aR, aN), (aB, aC), (aT, aU), aS, ⟨aK, aL, aQ, aY, aV, aZ⟩, ⟨al, aE, aG⟩, aW⟩ = Q at H1 hX;clear hW hbb k1 hn;go_enter Tryz.func68, Tryz.ntmps68
 go_upto_region 1 with fail
 rw [HW.out];go_wp2_with (with_reducible refine wpList_load_blk_w 32 _ rfl w.heap.size 32 _ _ ?_ ?_ (HKa.out.bel HC.out) Tryz.underlying32 ?_ ?_ ?_; (focus kernel_rfl); (focus kernel_rfl); (focus rfl); (focus kernel_rfl))
 refine H1.out.mono ?_;rintro e u1 ⟨rfl, hb1⟩;go_wp2_with fail
 go_ret;exact ⟨rfl, bel_trans HB.out hb1⟩
theorem pts_bits (m : Mg) : ((bits .and .i64 (pts m) 1 != 0) = hId m) ∧ ((bits .and .i64 (pts m) 2 != 0) = hBal m) ∧ ((bits .and .i64 (pts m) 4 != 0) = decide (m.kd = 7)) ∧ ((bits .and .i64 (pts m) 8 != 0) = hCmd m) ∧ ((bits .and .i64 (pts m) 16 != 0) = hAt m) ∧ ((bits .and .i64 (pts m) 32 != 0) = decide (m.kd = 9)) := by
 by_cases h : 0 ≤ m.kd ∧ m.kd ≤ 9
 · have hk : m.kd = 0 ∨ m.kd = 1 ∨ m.kd = 2 ∨ m.kd = 3 ∨ m.kd = 4 ∨ m.kd = 5 ∨ m.kd = 6 ∨ m.kd = 7 ∨ m.kd = 8 ∨ m.kd = 9 := by omega
   unfold pts hAt hCmd hBal hId;rcases hk with e | e | e | e | e | e | e | e | e | e
   case inr.inr.inr.inr.inr.inr.inr.inl =>
    rw [e];by_cases hs : m.st = 0
    · rw [decide_eq_true hs]; decide
    · rw [decide_eq_false hs]; decide
   all_goals rw [e]; cases decide (m.st = 0) <;> decide
 · have hp : pts m = 0 := by unfold pts; rw [if_neg (by simp; omega)]
   rw [hp];have h1 : hId m = false := (by simp [hId]; omega);have h2 : hBal m = false := (by simp [hBal, h1]);have h3 : hCmd m = false := (by simp [hCmd]; omega);have h4 : hAt m = false := (by simp [hAt, h3]; omega);rw [h1, h2, h3, h4, decide_eq_false (show ¬ m.kd = 7 by omega), decide_eq_false (show ¬ m.kd = 9 by omega)];decide
theorem has_id (aM aR aN aB aC aT aU aS aK aL aQ : Int) (aY aV : ByteArray) (aZ : Int) (aA : Option Addr) (an ac : Nat) (aE aG aW : Int) (al : List (Int × Int)) (w : World) (hn : Nam w) : Calls Tryz.prog 68 #[.agg #[.int .i64 aM, .int .i64 aR, .int .i64 aN, .int .i64 aB, .int .i64 aC, .int .i64 aT, .int .i64 aU, .int .i64 aS, .int .i64 aK, .int .i64 aL, .int .i64 aQ, .string aY, .string aV, .int .i64 aZ, .slice aA an ac, .int .i64 aE, .int .i64 aG, .int .i64 aW], .int .i64 1] w (Tells (hId ⟨aM, (aR, aN), (aB, aC), (aT, aU), aS, ⟨aK, aL, aQ, aY, aV, aZ⟩, ⟨al, aE, aG⟩, aW⟩) w) :=
 has_any aM aR aN aB aC aT aU aS aK aL aQ aY aV aZ aA an ac aE aG aW al 1 _ _ w hn rfl (pts_bits ⟨aM, (aR, aN), (aB, aC), (aT, aU), aS, ⟨aK, aL, aQ, aY, aV, aZ⟩, ⟨al, aE, aG⟩, aW⟩).1
theorem has_bal (aM aR aN aB aC aT aU aS aK aL aQ : Int) (aY aV : ByteArray) (aZ : Int) (aA : Option Addr) (an ac : Nat) (aE aG aW : Int) (al : List (Int × Int)) (w : World) (hn : Nam w) : Calls Tryz.prog 68 #[.agg #[.int .i64 aM, .int .i64 aR, .int .i64 aN, .int .i64 aB, .int .i64 aC, .int .i64 aT, .int .i64 aU, .int .i64 aS, .int .i64 aK, .int .i64 aL, .int .i64 aQ, .string aY, .string aV, .int .i64 aZ, .slice aA an ac, .int .i64 aE, .int .i64 aG, .int .i64 aW], .int .i64 2] w (Tells (hBal ⟨aM, (aR, aN), (aB, aC), (aT, aU), aS, ⟨aK, aL, aQ, aY, aV, aZ⟩, ⟨al, aE, aG⟩, aW⟩) w) :=
 has_any aM aR aN aB aC aT aU aS aK aL aQ aY aV aZ aA an ac aE aG aW al 2 _ _ w hn rfl (pts_bits ⟨aM, (aR, aN), (aB, aC), (aT, aU), aS, ⟨aK, aL, aQ, aY, aV, aZ⟩, ⟨al, aE, aG⟩, aW⟩).2.1
theorem has_state (aM aR aN aB aC aT aU aS aK aL aQ : Int) (aY aV : ByteArray) (aZ : Int) (aA : Option Addr) (an ac : Nat) (aE aG aW : Int) (al : List (Int × Int)) (w : World) (hn : Nam w) : Calls Tryz.prog 68 #[.agg #[.int .i64 aM, .int .i64 aR, .int .i64 aN, .int .i64 aB, .int .i64 aC, .int .i64 aT, .int .i64 aU, .int .i64 aS, .int .i64 aK, .int .i64 aL, .int .i64 aQ, .string aY, .string aV, .int .i64 aZ, .slice aA an ac, .int .i64 aE, .int .i64 aG, .int .i64 aW], .int .i64 4] w (Tells (decide (aM = 7)) w) :=
 has_any aM aR aN aB aC aT aU aS aK aL aQ aY aV aZ aA an ac aE aG aW al 4 _ _ w hn rfl (pts_bits ⟨aM, (aR, aN), (aB, aC), (aT, aU), aS, ⟨aK, aL, aQ, aY, aV, aZ⟩, ⟨al, aE, aG⟩, aW⟩).2.2.1
theorem has_cmd (aM aR aN aB aC aT aU aS aK aL aQ : Int) (aY aV : ByteArray) (aZ : Int) (aA : Option Addr) (an ac : Nat) (aE aG aW : Int) (al : List (Int × Int)) (w : World) (hn : Nam w) : Calls Tryz.prog 68 #[.agg #[.int .i64 aM, .int .i64 aR, .int .i64 aN, .int .i64 aB, .int .i64 aC, .int .i64 aT, .int .i64 aU, .int .i64 aS, .int .i64 aK, .int .i64 aL, .int .i64 aQ, .string aY, .string aV, .int .i64 aZ, .slice aA an ac, .int .i64 aE, .int .i64 aG, .int .i64 aW], .int .i64 8] w (Tells (hCmd ⟨aM, (aR, aN), (aB, aC), (aT, aU), aS, ⟨aK, aL, aQ, aY, aV, aZ⟩, ⟨al, aE, aG⟩, aW⟩) w) :=
 has_any aM aR aN aB aC aT aU aS aK aL aQ aY aV aZ aA an ac aE aG aW al 8 _ _ w hn rfl (pts_bits ⟨aM, (aR, aN), (aB, aC), (aT, aU), aS, ⟨aK, aL, aQ, aY, aV, aZ⟩, ⟨al, aE, aG⟩, aW⟩).2.2.2.1
theorem has_at (aM aR aN aB aC aT aU aS aK aL aQ : Int) (aY aV : ByteArray) (aZ : Int) (aA : Option Addr) (an ac : Nat) (aE aG aW : Int) (al : List (Int × Int)) (w : World) (hn : Nam w) : Calls Tryz.prog 68 #[.agg #[.int .i64 aM, .int .i64 aR, .int .i64 aN, .int .i64 aB, .int .i64 aC, .int .i64 aT, .int .i64 aU, .int .i64 aS, .int .i64 aK, .int .i64 aL, .int .i64 aQ, .string aY, .string aV, .int .i64 aZ, .slice aA an ac, .int .i64 aE, .int .i64 aG, .int .i64 aW], .int .i64 16] w (Tells (hAt ⟨aM, (aR, aN), (aB, aC), (aT, aU), aS, ⟨aK, aL, aQ, aY, aV, aZ⟩, ⟨al, aE, aG⟩, aW⟩) w) :=
 has_any aM aR aN aB aC aT aU aS aK aL aQ aY aV aZ aA an ac aE aG aW al 16 _ _ w hn rfl (pts_bits ⟨aM, (aR, aN), (aB, aC), (aT, aU), aS, ⟨aK, aL, aQ, aY, aV, aZ⟩, ⟨al, aE, aG⟩, aW⟩).2.2.2.2.1
theorem has_vn (aM aR aN aB aC aT aU aS aK aL aQ : Int) (aY aV : ByteArray) (aZ : Int) (aA : Option Addr) (an ac : Nat) (aE aG aW : Int) (al : List (Int × Int)) (w : World) (hn : Nam w) : Calls Tryz.prog 68 #[.agg #[.int .i64 aM, .int .i64 aR, .int .i64 aN, .int .i64 aB, .int .i64 aC, .int .i64 aT, .int .i64 aU, .int .i64 aS, .int .i64 aK, .int .i64 aL, .int .i64 aQ, .string aY, .string aV, .int .i64 aZ, .slice aA an ac, .int .i64 aE, .int .i64 aG, .int .i64 aW], .int .i64 32] w (Tells (decide (aM = 9)) w) :=
 has_any aM aR aN aB aC aT aU aS aK aL aQ aY aV aZ aA an ac aE aG aW al 32 _ _ w hn rfl (pts_bits ⟨aM, (aR, aN), (aB, aC), (aT, aU), aS, ⟨aK, aL, aQ, aY, aV, aZ⟩, ⟨al, aE, aG⟩, aW⟩).2.2.2.2.2
theorem mnumber_any (v : Int) (h0 : 0 ≤ v) (h1 : v ≤ 9223372036854775807) (w : World) : Calls Tryz.prog 67 #[.int .i64 v] w (Hands (.agg #[.int .i64 0, .int .u64 v, .string ByteArray.empty, .slice none 0 0]) w) := by
 have hu : IntKind.u64.wrap v = v := u64_in h0 (by omega);have HBX := Lib.hid (Blk.new w 57 #[.int .i64 0, .int .u64 0, .string ⟨#[]⟩, .slice none 0 0]);have HB0 := Lib.hid (bel_alloc (Below.refl w.heap.size w) (.cells #[.int .i64 0, .int .u64 0, .string ⟨#[]⟩, .slice none 0 0] 57));have HN := Lib.hid (fun w => num_any v w);go_enter Tryz.func67, Tryz.ntmps67
 go_wp2_with (go_at_call 46; refine (HN.out _).mono ?_; rintro e w2 ⟨rfl, hb2⟩; have hblk := HBX.out.bel hb2; obtain ⟨c0, c1, c2, c3⟩ := blk4 hblk; have z0 := hblk.soft 0; have z1 := hblk.soft 1; have z2 := hblk.soft 2; have z3 := hblk.soft 3; have HB2 := Lib.hid (bel_trans HB0.out hb2); clear hb2)
 have hs2 := HB2.out.size;obtain ⟨hblk2, hgr⟩ := blk4_set hblk (.int .i64 0) (.int .u64 v) (.string ByteArray.empty) (.slice none 0 0);generalize (((w2.setCell ⟨w.heap.size, 0, none⟩ (.int .i64 0)).setCell ⟨w.heap.size, 1, none⟩ (.int .u64 v)).setCell ⟨w.heap.size, 2, none⟩ (.string ByteArray.empty)).setCell ⟨w.heap.size, 3, none⟩ (.slice none 0 0) = w9 at hblk2 hgr ⊢;obtain ⟨d0, d1, d2, d3⟩ := blk4 hblk2;exact bodyPost_ret (v := .agg #[.int .i64 0, .int .u64 v, .string ByteArray.empty, .slice none 0 0]) (by simp [results, Tryz.results67, go_sem, d0, d1, d2, d3]) rfl ⟨rfl, HB2.out.trans (gr_below hgr (by omega) fun b hb => by cases hb; omega)⟩
end Go.Proofs.YthlhchaoedcdbaaGreatDoor.Mg
