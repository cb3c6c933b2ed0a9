/-
  Texts of earlier layers, as one.
-/
import Derived.Test.YthlhchaoedcdbaaGreatDoorRecItemPlain
import Derived.Test.YthlhchaoedcdbaaGreatDoorMsgBase
/- The document's at: a part of an item, or an item that is none. -/
namespace Go.Proofs.YthlhchaoedcdbaaGreatDoor.Mg
open Go.RowKit Mem Cod
def noIt : It := .mk 9 0 ByteArray.empty []
def atOf (x : It) (i : Nat) : It := if i < x.kids.length then x.kids.getD i Cmd.zeroIt else noIt
def GivesAt (w : World) (S : Nat → Prop) (x : It) (e : Ending) (w' : World) : Prop :=
 ∃ A c, e = .returned (.agg #[.int .i64 x.kind, .int .u64 (x.num : Int), .string x.str, .slice A x.kids.length c]) ∧ Lies w' S x A c ∧ Below w.heap.size w w'
set_option maxRecDepth 20000 in
set_option maxHeartbeats 4000000 in
theorem refat_any (x : It) (A : Option Addr) (c : Nat) (S : Nat → Prop) (w : World) (i : Nat) (hl : Lies w S x A c) (hS : ∀ b, S b → b < w.heap.size) :
 Calls Tryz.prog 78 #[.agg #[.int .i64 x.kind, .int .u64 (x.num : Int), .string x.str, .slice A x.kids.length c], .int .i64 (i : Int)] w (GivesAt w S (atOf x i)) := by
 obtain ⟨n, hn⟩ : ∃ n, x.kids.length = n := ⟨_, rfl⟩
 rw [hn];obtain ⟨W, hW⟩ : ∃ W, (w.alloc (.cells #[.int .i64 x.kind, .int .u64 (x.num : Int), .string x.str, .slice A n c] 57)).alloc (.cells #[.int .i64 0, .int .u64 0, .string ⟨#[]⟩, .slice none 0 0] 57) = W := ⟨_, rfl⟩
 obtain ⟨k1, k2, kb, hsW⟩ := two_kinds w _ _ _ _ W hW;have hlw := (hl.below kb hS).row;rw [hn] at hlw;have HK2 := Lib.hid k2;have HB := Lib.hid kb;have HW := Lib.hid hW;have HSS := Lib.hid hS;clear hl hS k2 kb hW;by_cases hin : i < n
 · obtain ⟨g, o, A', c', rfl, hSg, hg, q0, q1, q2, q3, l⟩ := Rk.row_at hlw hin
   have e : atOf x i = x.kids.getD i Cmd.zeroIt := if_pos (by rw [hn]; exact hin);obtain ⟨y, hy⟩ : ∃ y, x.kids.getD i Cmd.zeroIt = y := ⟨_, rfl⟩
   rw [hy] at e q0 q1 q2 q3 l;rw [e];have HL := Lib.hid l;obtain ⟨x0, x1, x2, x3⟩ := blk4 k1;have b1 : decide ((n : Int) ≤ (i : Int)) = false := decide_eq_false (by omega);have b2 : ¬ n ≤ i := (by omega);clear e hy l hlw k1 hn;go_enter Tryz.func78, Tryz.ntmps78
   go_upto_region 1 with fail
   rw [HW.out];go_wp2_with (first | fail | (refine wpList_store_blk rfl 57 _ _ rfl (w.heap.size + 1) 57 _ #[.int .i64 y.kind, .int .u64 (y.num : Int), .string y.str, .slice A' y.kids.length c'] rfl rfl HK2.out (by kernel_rfl) rfl (by kernel_rfl) ?_; intro w9 hblk2 hgr))
   refine bodyPost_ret (v := .agg _) (results_blk Tryz.results78 _ _ (w.heap.size + 1) 57 _ _ rfl hblk2 Tryz.underlying57 rfl (by kernel_rfl)) rfl ?_;exact ⟨A', c', rfl, HL.out.grown hgr (fun b hb e => by injection e with e; have := HSS.out b hb; omega), HB.out.trans (gr_below hgr HB.out.size fun b hb => by injection hb with hb; omega)⟩
 · have e : atOf x i = noIt := if_neg (by rw [hn]; exact hin)
   rw [e];obtain ⟨x0, x1, x2, x3⟩ := blk4 k1;have b1 : decide ((n : Int) ≤ (i : Int)) = true := decide_eq_true (by omega);have b2 : n ≤ i := (by omega);clear e hlw k1 hn;go_enter Tryz.func78, Tryz.ntmps78
   go_upto_region 1 with fail
   rw [HW.out];go_wp2_with (first | fail | (refine wpList_store_blk rfl 57 _ _ rfl (w.heap.size + 1) 57 _ #[.int .i64 9, .int .u64 0, .string ⟨#[]⟩, .slice none 0 0] rfl rfl HK2.out (by kernel_rfl) rfl (by kernel_rfl) ?_; intro w9 hblk2 hgr))
   refine bodyPost_ret (v := .agg _) (results_blk Tryz.results78 _ _ (w.heap.size + 1) 57 _ _ rfl hblk2 Tryz.underlying57 rfl (by kernel_rfl)) rfl ?_;exact ⟨none, 0, rfl, lies_leaf _ _ (by decide) (by decide) (by decide), HB.out.trans (gr_below hgr HB.out.size fun b hb => by injection hb with hb; omega)⟩
end Go.Proofs.YthlhchaoedcdbaaGreatDoor.Mg
/- A right message's parts, its item, and the message that the document reads of an item; plain mathematics. -/
namespace Go.Proofs.YthlhchaoedcdbaaGreatDoor.Mg
open Cod Rk
theorem nn {p q : Bool} (h : (!p && !q) = false) (hp : p = false) : q = true := by cases p <;> cases q <;> simp_all
theorem pn {p q : Bool} (h : (p && !q) = false) (hp : p = true) : q = true := by cases p <;> cases q <;> simp_all
theorem mright_parts {m : Mg} (h : mright m = true) : (1 ≤ m.kd ∧ m.kd ≤ 9) ∧ (hId m = false → m.id = (0, 0)) ∧ (hBal m = false → m.bl = (0, 0)) ∧ (¬ m.kd = 7 → m.st = 0 ∧ m.tk = (0, 0)) ∧ (hCmd m = false → m.cm = Cmd.zeroCm) ∧ (¬ m.kd = 9 → m.vn = 0) ∧
 (hAt m = false → m.at_ = Att.zeroAt) ∧ (hId m = true → Ids.right m.id = true) ∧ (hBal m = true → Bal.right m.bl = true) ∧ (hCmd m = true → Cmd.chk m.cm = 0) ∧ (hAt m = true → Att.achk m.at_ = 0 ∧ m.id ∉ m.at_.dp) ∧ (m.kd = 7 → rgt (recOf m) = true) ∧ (m.kd = 9 → m.vn = 1 ∨ m.vn = 2) := by
 unfold mright at h;split at h
 · cases h
 rename_i h1;split at h
 · cases h
 rename_i h2;split at h
 · cases h
 rename_i h3;split at h
 · cases h
 rename_i h4;split at h
 · cases h
 rename_i h5;rw [Bool.not_eq_true] at h1 h2 h3 h4 h5;obtain ⟨b1, b2⟩ := Bool.or_eq_false_iff.1 h1;have b1 := of_decide_eq_false b1;have b2 := of_decide_eq_false b2;unfold more at h2;obtain ⟨a1, h2⟩ := Bool.or_eq_false_iff.1 h2;obtain ⟨a2, h2⟩ := Bool.or_eq_false_iff.1 h2;obtain ⟨a3, h2⟩ := Bool.or_eq_false_iff.1 h2;obtain ⟨a4, a5⟩ := Bool.or_eq_false_iff.1 h2;unfold wrong at h4;obtain ⟨c1, h4⟩ := Bool.or_eq_false_iff.1 h4;obtain ⟨c2, c3⟩ := Bool.or_eq_false_iff.1 h4;refine ⟨by omega, fun e => of_decide_eq_true (nn a1 e), fun e => of_decide_eq_true (nn a2 e), fun e => ?_, fun e => Cmd.eqv_iff.1 (nn a4 e), fun e => of_decide_eq_true (nn a5 (decide_eq_false e)), fun e => ?_, fun e => pn c1 e, fun e => pn c2 e, fun e => of_decide_eq_true (pn c3 e), fun e => ?_, fun e => ?_, fun e => ?_⟩
 · rw [decide_eq_false e, Bool.not_false, Bool.true_and] at a3
   obtain ⟨x1, x2⟩ := Bool.or_eq_false_iff.1 a3;rw [Bool.not_eq_false'] at x1 x2;exact ⟨of_decide_eq_true x1, of_decide_eq_true x2⟩
 · unfold hung at h3
   rw [e, Bool.not_false, Bool.true_and] at h3;obtain ⟨x1, h3⟩ := Bool.or_eq_false_iff.1 h3;obtain ⟨x2, x3⟩ := Bool.or_eq_false_iff.1 h3;rw [Bool.not_eq_false'] at x2 x3;have y1 := of_decide_eq_false x1;have y2 := of_decide_eq_true x2;have y3 := of_decide_eq_true x3;obtain ⟨kd, id, bl, tk, st, cm, ⟨dp, sq, tg⟩, vn⟩ := m;simp only at y1 y2 y3 ⊢;obtain rfl : dp = [] := List.eq_nil_of_length_eq_zero (by omega);rw [y2, y3];rfl
 · unfold wrongAt at h5
   rw [e, Bool.true_and] at h5;obtain ⟨x1, x2⟩ := Bool.or_eq_false_iff.1 h5;rw [Bool.not_eq_false'] at x1;exact ⟨of_decide_eq_true x1, of_decide_eq_false x2⟩
 · rw [if_pos e] at h
   exact h
 · rw [if_neg (by omega), decide_eq_true e, Bool.not_true, Bool.false_or, Bool.or_eq_true] at h
   rcases h with h | h
   · exact .inl (of_decide_eq_true h)
   · exact .inr (of_decide_eq_true h)
def mparts (m : Mg) (y : It) : List It :=
 [Cmd.numIt m.kd] ++ ((if hId m = true then [Cmd.numIt m.id.1, Cmd.numIt m.id.2] else []) ++ ((if hBal m = true then [Bal.balIt m.bl] else []) ++ ((if m.kd = 7 then [Cmd.numIt m.st, Bal.balIt m.tk] else []) ++ ((if hCmd m = true then [Cmd.cmIt m.cm] else []) ++ ((if hAt m = true then [y] else []) ++ (if m.kd = 9 then [Cmd.numIt m.vn] else []))))))
def laidMg (m : Mg) (y : It) : It := .mk 2 0 ByteArray.empty (mparts m y)
def mgIt (m : Mg) : It := laidMg m (Att.attIt m.at_)
def readFront (x : It) (kd : Int) : Mg × Nat :=
 let m0 : Mg := ⟨kd, (0, 0), (0, 0), (0, 0), 0, Cmd.zeroCm, Att.zeroAt, 0⟩
 let m1 : Mg := if hId m0 = true then { m0 with id := (Cmd.cap (atOf x 1).num, Cmd.cap (atOf x 2).num) } else m0
 let k1 := if hId m0 = true then 3 else 1
 let m2 : Mg := if hBal m1 = true then { m1 with bl := (Bal.balTake (atOf x k1)).getD (0, 0) } else m1
 let k2 := if hBal m1 = true then k1 + 1 else k1
 if kd = 7 then ({ m2 with st := Cmd.cap (atOf x k2).num, tk := (Bal.balTake (atOf x (k2 + 1))).getD (0, 0) }, k2 + 2) else (m2, k2)
noncomputable def readRest (T : It → Option Att.At) (x : It) (m3 : Mg) (k3 : Nat) : Mg :=
 let m4 : Mg := if hCmd m3 = true then { m3 with cm := (Cmd.takeOf (atOf x k3)).getD Cmd.zeroCm } else m3
 let k4 := if hCmd m3 = true then k3 + 1 else k3
 let m5 : Mg := if hAt m4 = true then { m4 with at_ := (T (atOf x k4)).getD Att.zeroAt } else m4
 if m5.kd = 9 then { m5 with vn := Cmd.cap (atOf x 1).num } else m5
noncomputable def readMg (T : It → Option Att.At) (x : It) : Mg :=
 readRest T x (readFront x (Cmd.cap (atOf x 0).num)).1 (readFront x (Cmd.cap (atOf x 0).num)).2
theorem capn {v : Int} (h : 0 ≤ v) (h' : v ≤ 1099511627776) : Cmd.cap v.toNat = v := by
 rw [Cmd.cap, if_neg (by omega), Cmd.w64_small (by omega)];omega
set_option maxHeartbeats 2000000 in
theorem read_laid {m : Mg} (h : mright m = true) (T : It → Option Att.At) (y : It) (hy : hAt m = true → T y = some m.at_) : readMg T (laidMg m y) = m := by
 obtain ⟨hk, f1, f2, f3, f4, f5, f6, g1, g2, g3, _, g5, g6⟩ := mright_parts h;obtain ⟨kd, ⟨i1, i2⟩, bl, tk, st, cm, att, vn⟩ := m;simp only at hk f1 f2 f3 f4 f5 f6 g1 g2 g3 g5 g6 hy
 have hid : hId ⟨kd, (i1, i2), bl, tk, st, cm, att, vn⟩ = true → Cmd.cap i1.toNat = i1 ∧ Cmd.cap i2.toNat = i2 := fun e => by
  have h := of_decide_eq_true (g1 e);exact ⟨capn (by omega) (by omega), capn (by omega) (by omega)⟩
 have hbl : hBal ⟨kd, (i1, i2), bl, tk, st, cm, att, vn⟩ = true → (Bal.balTake (Bal.balIt bl)).getD (0, 0) = bl := fun e => by rw [Bal.take_bal (g2 e)]; rfl
 have hcm : hCmd ⟨kd, (i1, i2), bl, tk, st, cm, att, vn⟩ = true → (Cmd.takeOf (Cmd.cmIt cm)).getD Cmd.zeroCm = cm := fun e => by rw [Cmd.take_cm (g3 e)]; rfl
 have hat : hAt ⟨kd, (i1, i2), bl, tk, st, cm, att, vn⟩ = true → (T y).getD Att.zeroAt = att := fun e => by rw [hy e]; rfl
 have hkc : kd = 1 ∨ kd = 2 ∨ kd = 3 ∨ kd = 4 ∨ kd = 5 ∨ kd = 6 ∨ kd = 7 ∨ kd = 8 ∨ kd = 9 := by omega
 unfold readMg;have e0 : Cmd.cap (atOf (laidMg ⟨kd, (i1, i2), bl, tk, st, cm, att, vn⟩ y) 0).num = kd := capn (v := kd) (by omega) (by omega);rw [e0];clear e0;rcases hkc with rfl | rfl | rfl | rfl | rfl | rfl | rfl | rfl | rfl
 · obtain ⟨e1, e2⟩ := hid rfl
   obtain ⟨rfl, rfl⟩ := f3 (by decide);obtain rfl := f5 (by decide);show (⟨1, (Cmd.cap i1.toNat, Cmd.cap i2.toNat), (Bal.balTake (Bal.balIt bl)).getD (0, 0), (0, 0), 0, (Cmd.takeOf (Cmd.cmIt cm)).getD Cmd.zeroCm, (T y).getD Att.zeroAt, 0⟩ : Mg) = _;rw [e1, e2, hbl rfl, hcm rfl, hat rfl]
 · obtain ⟨e1, e2⟩ := hid rfl
   obtain ⟨rfl, rfl⟩ := f3 (by decide);obtain rfl := f4 rfl;obtain rfl := f5 (by decide);show (⟨2, (Cmd.cap i1.toNat, Cmd.cap i2.toNat), (Bal.balTake (Bal.balIt bl)).getD (0, 0), (0, 0), 0, Cmd.zeroCm, (T y).getD Att.zeroAt, 0⟩ : Mg) = _;rw [e1, e2, hbl rfl, hat rfl]
 · obtain ⟨e1, e2⟩ := hid rfl
   obtain ⟨rfl, rfl⟩ := f3 (by decide);obtain rfl := f5 (by decide);show (⟨3, (Cmd.cap i1.toNat, Cmd.cap i2.toNat), (Bal.balTake (Bal.balIt bl)).getD (0, 0), (0, 0), 0, (Cmd.takeOf (Cmd.cmIt cm)).getD Cmd.zeroCm, (T y).getD Att.zeroAt, 0⟩ : Mg) = _;rw [e1, e2, hbl rfl, hcm rfl, hat rfl]
 · obtain ⟨e1, e2⟩ := hid rfl
   obtain ⟨rfl, rfl⟩ := f3 (by decide);obtain rfl := f4 rfl;obtain rfl := f5 (by decide);obtain rfl := f6 rfl;show (⟨4, (Cmd.cap i1.toNat, Cmd.cap i2.toNat), (Bal.balTake (Bal.balIt bl)).getD (0, 0), (0, 0), 0, Cmd.zeroCm, Att.zeroAt, 0⟩ : Mg) = _;rw [e1, e2, hbl rfl]
 · obtain ⟨e1, e2⟩ := hid rfl
   obtain rfl := f2 rfl;obtain ⟨rfl, rfl⟩ := f3 (by decide);obtain rfl := f5 (by decide);show (⟨5, (Cmd.cap i1.toNat, Cmd.cap i2.toNat), (0, 0), (0, 0), 0, (Cmd.takeOf (Cmd.cmIt cm)).getD Cmd.zeroCm, (T y).getD Att.zeroAt, 0⟩ : Mg) = _;rw [e1, e2, hcm rfl, hat rfl]
 · obtain ⟨e1, e2⟩ := hid rfl
   obtain ⟨rfl, rfl⟩ := f3 (by decide);obtain rfl := f4 rfl;obtain rfl := f5 (by decide);obtain rfl := f6 rfl;show (⟨6, (Cmd.cap i1.toNat, Cmd.cap i2.toNat), (Bal.balTake (Bal.balIt bl)).getD (0, 0), (0, 0), 0, Cmd.zeroCm, Att.zeroAt, 0⟩ : Mg) = _;rw [e1, e2, hbl rfl]
 · obtain ⟨e1, e2⟩ := hid rfl
   obtain rfl := f5 (by decide);obtain ⟨_, _, r3, _, r5, _, _⟩ := rgt_parts (g5 rfl);simp only [recOf] at r3 r5;have et : (Bal.balTake (Bal.balIt tk)).getD (0, 0) = tk := (by rw [Bal.take_bal r5]; rfl);have es : Cmd.cap st.toNat = st := capn (by omega) (by omega)
   have er : readFront (laidMg ⟨7, (i1, i2), bl, tk, st, cm, att, 0⟩ y) 7 = (⟨7, (i1, i2), bl, tk, st, Cmd.zeroCm, Att.zeroAt, 0⟩, 6) := by
    show ((⟨7, (Cmd.cap i1.toNat, Cmd.cap i2.toNat), (Bal.balTake (Bal.balIt bl)).getD (0, 0), (Bal.balTake (Bal.balIt tk)).getD (0, 0), Cmd.cap st.toNat, Cmd.zeroCm, Att.zeroAt, 0⟩ : Mg), 6) = _;rw [e1, e2, hbl rfl, et, es]
   rw [er];by_cases hs : st = 0
   · subst hs
     obtain rfl := f4 rfl;obtain rfl := f6 rfl;rfl
   · have hc : ∀ z a, hCmd ⟨7, (i1, i2), bl, tk, st, z, a, 0⟩ = true := fun z a => by simp [hCmd, hs]
     have ha : ∀ z a, hAt ⟨7, (i1, i2), bl, tk, st, z, a, 0⟩ = true := fun z a => by simp [hAt, hc]
     have ek : (laidMg ⟨7, (i1, i2), bl, tk, st, cm, att, 0⟩ y).kids = [Cmd.numIt 7, Cmd.numIt i1, Cmd.numIt i2, Bal.balIt bl, Cmd.numIt st, Bal.balIt tk, Cmd.cmIt cm, y] := by
      show mparts _ y = _;unfold mparts;rw [hc, ha];rfl
     have e6 : atOf (laidMg ⟨7, (i1, i2), bl, tk, st, cm, att, 0⟩ y) 6 = Cmd.cmIt cm := (by unfold atOf; rw [ek]; rfl);have e7 : atOf (laidMg ⟨7, (i1, i2), bl, tk, st, cm, att, 0⟩ y) 7 = y := (by unfold atOf; rw [ek]; rfl);unfold readRest;simp only [hc, ha, if_true, e6, e7];rw [hcm (hc _ _), hat (ha _ _)];rfl
 · obtain ⟨e1, e2⟩ := hid rfl
   obtain ⟨rfl, rfl⟩ := f3 (by decide);obtain rfl := f4 rfl;obtain rfl := f5 (by decide);obtain rfl := f6 rfl;show (⟨8, (Cmd.cap i1.toNat, Cmd.cap i2.toNat), (Bal.balTake (Bal.balIt bl)).getD (0, 0), (0, 0), 0, Cmd.zeroCm, Att.zeroAt, 0⟩ : Mg) = _;rw [e1, e2, hbl rfl]
 · obtain ⟨e1, e2⟩ : i1 = 0 ∧ i2 = 0 := by have := f1 rfl; injection this with a b; exact ⟨a, b⟩
   subst e1 e2;obtain rfl := f2 rfl;obtain ⟨rfl, rfl⟩ := f3 (by decide);obtain rfl := f4 rfl;obtain rfl := f6 rfl;have hv := g6 rfl;show (⟨9, (0, 0), (0, 0), (0, 0), 0, Cmd.zeroCm, Att.zeroAt, Cmd.cap vn.toNat⟩ : Mg) = _;rw [capn (by omega) (by omega)]
theorem mg_back {m : Mg} (h : mright m = true) : readMg Att.attTake (mgIt m) = m :=
 read_laid h _ _ fun e => Att.att_put ((mright_parts h).2.2.2.2.2.2.2.2.2.2.1 e).1
noncomputable def refTake (r : It × Nat) : Mg × Nat :=
 if r.2 = 0 then (if (mright (readMg Att.attTake r.1) && same r.1 (mgIt (readMg Att.attTake r.1))) = true then (readMg Att.attTake r.1, 0) else (zeroMg, 4)) else (zeroMg, r.2)
theorem refTake_iff {x : It} {m : Mg} : refTake (x, 0) = (m, 0) ↔ mright m = true ∧ mgIt m = x := by
 unfold refTake;rw [if_pos rfl];constructor
 · intro h
   split at h
   · rename_i hc
     injection h with h _;rw [Bool.and_eq_true] at hc;simp only at hc h;rw [h] at hc;exact ⟨hc.1, ((same_iff _ _).1 hc.2).symm⟩
   · injection h with _ h
     cases h
 · rintro ⟨h, rfl⟩
   simp only;rw [mg_back h, if_pos (by rw [h, (same_iff _ _).2 rfl]; rfl)]
theorem refTake_no {x : It} (h : ∀ m, mright m = true → mgIt m ≠ x) : refTake (x, 0) = (zeroMg, 4) := by
 unfold refTake;rw [if_pos rfl, if_neg];intro hc;rw [Bool.and_eq_true] at hc;exact h _ hc.1 ((same_iff _ _).1 hc.2).symm
end Go.Proofs.YthlhchaoedcdbaaGreatDoor.Mg
/- A right message's item is right, and not too long for a form; plain mathematics. -/
namespace Go.Proofs.YthlhchaoedcdbaaGreatDoor.Mg
open Cod Rk
theorem chk_num (v : Int) {d : Nat} (hd : d ≤ 15) : chk (Cmd.numIt v) d = 0 := by
 rw [chk_eq, if_neg (by simp [formed, Cmd.numIt, It.kind, It.str, It.kids]), if_neg (by omega)];rfl
theorem chk_text (s : ByteArray) {d : Nat} (hd : d ≤ 15) : chk (Cmd.textIt s) d = 0 := by
 rw [chk_eq, if_neg (by simp [formed, Cmd.textIt, It.kind, It.num, It.kids]), if_neg (by omega)];rfl
theorem chk_list (l : List It) {d : Nat} (hd : d ≤ 15) : chk (.mk 2 0 ByteArray.empty l) d = chks l (d + 1) := by
 rw [chk_eq, if_neg (by simp [formed, It.kind, It.num, It.str]), if_neg (by omega)];rfl
theorem chk_its (l : List (Int × Int)) {d : Nat} (hd : d ≤ 15) : chks (Ids.its l) d = 0 := by
 rw [chks_zero];intro x hx;obtain ⟨p, _, hx⟩ := List.mem_flatMap.1 hx;simp only [List.mem_cons, List.not_mem_nil, or_false] at hx;rcases hx with rfl | rfl
 · exact chk_num p.1 hd
 · exact chk_num p.2 hd
theorem chk_att (a : Att.At) {d : Nat} (hd : d ≤ 13) : chk (Att.attIt a) d = 0 := by
 unfold Att.attIt;rw [chk_list _ (by omega), chks_zero];intro x hx;simp only [List.mem_cons, List.not_mem_nil, or_false] at hx;rcases hx with rfl | rfl | rfl
 · exact chk_num a.tg (by omega)
 · exact chk_num a.sq (by omega)
 · exact (chk_list _ (by omega)).trans (chk_its a.dp (by omega))
theorem chk_oldAtt (a : Att.At) {d : Nat} (hd : d ≤ 13) : chk (Att.oldIt a) d = 0 := by
 unfold Att.oldIt;rw [chk_list _ (by omega), chks_zero];intro x hx;simp only [List.mem_cons, List.not_mem_nil, or_false] at hx;rcases hx with rfl | rfl
 · exact chk_num a.sq (by omega)
 · exact (chk_list _ (by omega)).trans (chk_its a.dp (by omega))
theorem chk_cm (c : Cmd.Cm) {d : Nat} (hd : d ≤ 14) : chk (Cmd.cmIt c) d = 0 := by
 unfold Cmd.cmIt Cmd.parts;rw [chk_list _ (by omega), chks_zero];intro x hx;simp only [List.mem_cons, List.not_mem_nil, or_false] at hx;rcases hx with rfl | rfl | rfl | rfl | rfl | rfl
 · exact chk_num _ (by omega)
 · exact chk_num _ (by omega)
 · exact chk_num _ (by omega)
 · exact chk_text _ (by omega)
 · exact chk_text _ (by omega)
 · exact chk_num _ (by omega)
theorem chk_bal (b : Int × Int) {d : Nat} (hd : d ≤ 14) : chk (Bal.balIt b) d = 0 := by
 unfold Bal.balIt;rw [chk_list _ (by omega), chks_zero];intro x hx;simp only [List.mem_cons, List.not_mem_nil, or_false] at hx;rcases hx with rfl | rfl
 · exact chk_num _ (by omega)
 · exact chk_num _ (by omega)
theorem chks_app {a b : List It} {d : Nat} (ha : chks a d = 0) (hb : chks b d = 0) : chks (a ++ b) d = 0 := by rw [chks_append, if_pos ha, hb]
theorem chks_if {p : Prop} [Decidable p] {l : List It} {d : Nat} (h : chks l d = 0) : chks (if p then l else []) d = 0 := by
 split
 · exact h
 · rfl
theorem chks_two {a b : It} {d : Nat} (ha : chk a d = 0) (hb : chk b d = 0) : chks [a, b] d = 0 := by
 rw [chks_zero];intro x hx;simp only [List.mem_cons, List.not_mem_nil, or_false] at hx;rcases hx with rfl | rfl
 · exact ha
 · exact hb
theorem chk_laid (m : Mg) {y : It} (hy : chk y 1 = 0) : chk (laidMg m y) 0 = 0 := by
 unfold laidMg mparts;rw [chk_list _ (by omega)];have e : ∀ x, chk x 1 = 0 → chks [x] (0 + 1) = 0 := fun x h => by rw [chks_one]; exact h
 refine chks_app (e _ (chk_num _ (by omega))) (chks_app (chks_if (chks_two (chk_num _ (by omega)) (chk_num _ (by omega)))) (chks_app (chks_if (e _ (chk_bal _ (by omega)))) (chks_app (chks_if (chks_two (chk_num _ (by omega)) (chk_bal _ (by omega)))) (chks_app (chks_if (e _ (chk_cm _ (by omega)))) (chks_app (chks_if (e _ hy)) (chks_if (e _ (chk_num _ (by omega)))))))))
theorem chk_mg (m : Mg) : chk (mgIt m) 0 = 0 := chk_laid m (chk_att _ (by omega))
theorem wts_if {p : Prop} [Decidable p] {l : List It} {k : Nat} (h : p → wts l ≤ k) : wts (if p then l else []) ≤ k := by
 split
 · rename_i hp; exact h hp
 · exact Nat.zero_le _
theorem wt_num (v : Int) : wt (Cmd.numIt v) = 1 := by simp [Cmd.numIt, wt, wts]
theorem wt_laid {m : Mg} (h : mright m = true) {y : It} (hy : hAt m = true → wt y ≤ 50000) : wt (laidMg m y) ≤ 60000 := by
 obtain ⟨_, _, _, _, _, _, _, _, _, g3, _, _, _⟩ := mright_parts h;have e0 : wt (laidMg m y) = 1 + ByteArray.empty.size + wts (mparts m y) := rfl;have e1 : ByteArray.empty.size = 0 := rfl;rw [e0, e1];unfold mparts;rw [wts_append, wts_append, wts_append, wts_append, wts_append, wts_append];have n1 : wts [Cmd.numIt m.kd] = 1 := by rw [wts_one, wt_num]
 have n2 : wts (if hId m = true then [Cmd.numIt m.id.1, Cmd.numIt m.id.2] else []) ≤ 2 := wts_if fun _ => by simp only [wts, wt_num]; omega
 have n3 : wts (if hBal m = true then [Bal.balIt m.bl] else []) ≤ 3 := wts_if fun _ => by rw [wts_one, wt_bal]; omega
 have n4 : wts (if m.kd = 7 then [Cmd.numIt m.st, Bal.balIt m.tk] else []) ≤ 4 := wts_if fun _ => by simp only [wts, wt_num, wt_bal]; omega
 have n5 : wts (if hCmd m = true then [Cmd.cmIt m.cm] else []) ≤ 2000 := wts_if fun e => by
  rw [wts_one];have h1 := Cmd.wt_item m.cm;rw [Cmd.itemOf, if_pos (g3 e)] at h1;exact h1
 have n6 : wts (if hAt m = true then [y] else []) ≤ 50000 := wts_if fun e => by rw [wts_one]; exact hy e
 have n7 : wts (if m.kd = 9 then [Cmd.numIt m.vn] else []) ≤ 1 := wts_if fun _ => by rw [wts_one, wt_num]; omega
 omega
theorem wt_mg {m : Mg} (h : mright m = true) : wt (mgIt m) ≤ 60000 :=
 wt_laid h fun e => (wt_att ((mright_parts h).2.2.2.2.2.2.2.2.2.2.1 e).1).1
end Go.Proofs.YthlhchaoedcdbaaGreatDoor.Mg
/- A list of items that grows: its row is the call's own, its items' lists lie in other new blocks. -/
namespace Go.Proofs.YthlhchaoedcdbaaGreatDoor.Mg
open Go.RowKit Mem Cod Rk
def Grow (W : World) (l : List It) (V : Option Addr) (n c : Nat) (hs : List Hung) (w : World) : Prop :=
 hs.map (·.x) = l ∧ w.ownsRow W.heap.size 57 4 (.slice V n c) n (cells4 hs) ∧ (∀ h ∈ hs, Lies w (fun b => W.heap.size ≤ b ∧ b < w.heap.size ∧ some b ≠ (Value.slice V n c).ownBlock) h.x h.A h.c) ∧ Below W.heap.size W w
theorem Grow.bel {W w w' : World} {l : List It} {V : Option Addr} {n c : Nat} {hs : List Hung} (h : Grow W l V n c hs w) (hb : Below w.heap.size w w') : Grow W l V n c hs w' := by
 obtain ⟨h1, h2, h3, h4⟩ := h;refine ⟨h1, ownsRow_below h2 hb, fun x hx => ?_, h4.trans (hb.mono h4.size)⟩;exact ((h3 x hx).below hb fun b hb => hb.2.1).more fun b hb' _ => ⟨hb'.1, Nat.lt_of_lt_of_le hb'.2.1 hb.size, hb'.2.2⟩
theorem Grow.alloc {W w : World} {l : List It} {V : Option Addr} {n c : Nat} {hs : List Hung} (h : Grow W l V n c hs w) (o : Obj) : Grow W l V n c hs (w.alloc o) := h.bel (bel_alloc (Below.refl _ _) o)
theorem Grow.step {W w w3 : World} {l : List It} {V : Option Addr} {n c m g cap : Nat} {hs ns : List Hung} (h : Grow W l V n c hs w) (hn : ∀ x ∈ ns, Lies w (fun b => W.heap.size ≤ b ∧ b < w.heap.size ∧ some b ≠ (Value.slice V n c).ownBlock) x.x x.A x.c)
 (ho : w3.ownsRow W.heap.size 57 4 (.slice (some ⟨g, 0, none⟩) (n + m) cap) (n + m) (cells4 hs ++ cells4 ns)) (hg : w.grownBy w3 (Value.slice V n c).ownBlock) (hat : (Value.slice V n c).ownBlock = some g ∨ g = w.heap.size) :
 Grow W (l ++ ns.map (·.x)) (some ⟨g, 0, none⟩) (n + m) cap (hs ++ ns) w3 := by
 obtain ⟨h1, h2, h3, h4⟩ := h;have hob : (Value.slice (some ⟨g, 0, none⟩) (n + m) cap).ownBlock = some g := by simp [Value.ownBlock]
 refine ⟨by rw [List.map_append, h1], by rw [cells4_append]; exact ho, fun x hx => ?_, h4.grown hg h4.size fun k hk => ?_⟩
 · have hx' : Lies w (fun b => W.heap.size ≤ b ∧ b < w.heap.size ∧ some b ≠ (Value.slice V n c).ownBlock) x.x x.A x.c := (List.mem_append.1 hx).elim (h3 x) (hn x)
   refine (hx'.grown hg fun b hb => hb.2.2).more fun b hb _ => ⟨hb.1, Nat.lt_of_lt_of_le hb.2.1 hg.size, ?_⟩
   rw [hob];rcases hat with e | e
   · rw [← e]; exact hb.2.2
   · intro h; injection h with h; omega
 · rcases h2.2 with ⟨hv, _⟩ | ⟨g0, cap0, cur, hv, hb, _⟩
   · rw [hv] at hk
     simp [Value.ownBlock] at hk
   · rw [hv] at hk
     simp [Value.ownBlock] at hk;omega
end Go.Proofs.YthlhchaoedcdbaaGreatDoor.Mg
