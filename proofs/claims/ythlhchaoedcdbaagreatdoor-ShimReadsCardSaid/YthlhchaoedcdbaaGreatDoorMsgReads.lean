/-
  Texts of earlier layers, as one.
-/
import Derived.Test.YthlhchaoedcdbaaGreatDoorMsgQ
import Derived.Test.YthlhchaoedcdbaaGreatDoorRAttT
import Derived.Test.YthlhchaoedcdbaaGreatDoorRBalRT
/- The document's Read of an item, step by step. -/
namespace Go.Proofs.YthlhchaoedcdbaaGreatDoor.Mg
open Lib (hid)
open Go.RowKit Mem Ids Att Cod Rk
def rd1 (x : It) (m : Mg) : Mg := if hId m = true then { m with id := (Cmd.cap (atOf x 1).num, Cmd.cap (atOf x 2).num) } else m
def rk1 (m : Mg) : Nat := if hId m = true then 3 else 1
def rd2 (x : It) (k : Nat) (m : Mg) : Mg := if hBal m = true then { m with bl := (Bal.balTake (atOf x k)).getD (0, 0) } else m
def rk2 (m : Mg) (k : Nat) : Nat := if hBal m = true then k + 1 else k
def rd3 (x : It) (k : Nat) (m : Mg) : Mg := if m.kd = 7 then { m with st := Cmd.cap (atOf x k).num, tk := (Bal.balTake (atOf x (k + 1))).getD (0, 0) } else m
def rk3 (m : Mg) (k : Nat) : Nat := if m.kd = 7 then k + 2 else k
def rd4 (x : It) (k : Nat) (m : Mg) : Mg := if hCmd m = true then { m with cm := (Cmd.takeOf (atOf x k)).getD Cmd.zeroCm } else m
def rk4 (m : Mg) (k : Nat) : Nat := if hCmd m = true then k + 1 else k
noncomputable def rd5 (T : It → Option At) (x : It) (k : Nat) (m : Mg) : Mg := if hAt m = true then { m with at_ := (T (atOf x k)).getD zeroAt } else m
def rd6 (x : It) (m : Mg) : Mg := if m.kd = 9 then { m with vn := Cmd.cap (atOf x 1).num } else m
def mg0 (k : Int) : Mg := ⟨k, (0, 0), (0, 0), (0, 0), 0, Cmd.zeroCm, zeroAt, 0⟩
theorem kd1 (x : It) (m : Mg) : (rd1 x m).kd = m.kd := by unfold rd1; split <;> rfl
theorem kd2 (x : It) (k : Nat) (m : Mg) : (rd2 x k m).kd = m.kd := by unfold rd2; split <;> rfl
theorem read_steps (T : It → Option At) (x : It) {m0 m1 m2 m3 m4 m5 m6 : Mg} {k1 k2 k3 k4 : Nat} (h0 : m0 = mg0 (Cmd.cap (atOf x 0).num)) (h1 : m1 = rd1 x m0) (e1 : k1 = rk1 m0) (h2 : m2 = rd2 x k1 m1) (e2 : k2 = rk2 m1 k1) (h3 : m3 = rd3 x k2 m2) (e3 : k3 = rk3 m2 k2) (h4 : m4 = rd4 x k3 m3) (e4 : k4 = rk4 m3 k3) (h5 : m5 = rd5 T x k4 m4) (h6 : m6 = rd6 x m5) : readMg T x = m6 := by
 have hf : readFront x (Cmd.cap (atOf x 0).num) = (m3, k3) := by
  have hk : m2.kd = Cmd.cap (atOf x 0).num := by rw [h2, kd2, h1, kd1, h0]; rfl
  have e : readFront x (Cmd.cap (atOf x 0).num) = if Cmd.cap (atOf x 0).num = 7 then ({ rd2 x (rk1 m0) (rd1 x m0) with st := Cmd.cap (atOf x (rk2 (rd1 x m0) (rk1 m0))).num, tk := (Bal.balTake (atOf x (rk2 (rd1 x m0) (rk1 m0) + 1))).getD (0, 0) }, rk2 (rd1 x m0) (rk1 m0) + 2) else (rd2 x (rk1 m0) (rd1 x m0), rk2 (rd1 x m0) (rk1 m0)) := by rw [h0]; rfl
  rw [e, ← h1, ← e1, ← h2, ← e2, h3, e3];unfold rd3 rk3;by_cases h7 : Cmd.cap (atOf x 0).num = 7
  · rw [if_pos h7, if_pos (hk.trans h7), if_pos (hk.trans h7)]
  · rw [if_neg h7, if_neg (fun h => h7 (hk.symm.trans h)), if_neg (fun h => h7 (hk.symm.trans h))]
 unfold readMg;rw [hf];show rd6 x (rd5 T x (rk4 m3 k3) (rd4 x k3 m3)) = m6;rw [← h4, ← e4, ← h5, ← h6]
def InvR (W : World) (M : Nat) (C : Array Value) (V : Option Addr) (nv cv : Nat) (dp : List (Int × Int)) (wx : World) : Prop :=
 Blk wx M 32 C ∧ Rs wx V nv cv dp ∧ (∀ g o, V = some ⟨g, o, none⟩ → M + 1 ≤ g) ∧ Below W.heap.size W wx
section
variable {W wx w' : World} {M : Nat} {C : Array Value} {V : Option Addr} {nv cv : Nat} {dp : List (Int × Int)}
theorem InvR.bel (h : InvR W M C V nv cv dp wx) (hb : Below wx.heap.size wx w') : InvR W M C V nv cv dp w' :=
 ⟨h.1.bel hb, h.2.1.below hb, h.2.2.1, h.2.2.2.trans (hb.mono h.2.2.2.size)⟩
theorem InvR.low (h : InvR W M C V nv cv dp wx) : Below W.heap.size W wx := h.2.2.2
theorem InvR.set (h : InvR W M C V nv cv dp wx) (hM : W.heap.size ≤ M) (i : Nat) (u : Value) : InvR W M (C.setIfInBounds i u) V nv cv dp (wx.setCell ⟨M, i, none⟩ u) := by
 have hg : wx.grownBy (wx.setCell ⟨M, i, none⟩ u) (some M) := gr_set (gr_refl wx (some M)) (.inl rfl) _;exact ⟨h.1.put i u, h.2.1.grown hg (fun g o e k => by injection k with k; have := h.2.2.1 g o e; omega), h.2.2.1, h.2.2.2.setCell (p := ⟨M, i, none⟩) hM u⟩
theorem InvR.swap (h : InvR W M C V nv cv dp wx) {V' : Option Addr} {nv' cv' : Nat} {dp' : List (Int × Int)} (hr : Rs wx V' nv' cv' dp') (hn : ∀ g o, V' = some ⟨g, o, none⟩ → M + 1 ≤ g) : InvR W M C V' nv' cv' dp' wx :=
 ⟨h.1, hr, hn, h.2.2.2⟩
theorem InvR.drew (h : InvR W M C V nv cv dp wx) : InvR W M C V nv cv dp wx.drew := ⟨h.1.drew, h.2.1.drew, h.2.2.1, h.2.2.2.drew⟩
end
theorem rd1_no {x : It} {m : Mg} (h : hId m = false) : rd1 x m = m ∧ rk1 m = 1 := ⟨if_neg (by simp [h]), if_neg (by simp [h])⟩
theorem rd1_yes {x : It} {m : Mg} (h : hId m = true) {a b : Int} (ha : Cmd.cap (atOf x 1).num = a) (hb : Cmd.cap (atOf x 2).num = b) : rd1 x m = { m with id := (a, b) } ∧ rk1 m = 3 := by subst ha hb; exact ⟨if_pos h, if_pos h⟩
theorem rd2_no {x : It} {k : Nat} {m : Mg} (h : hBal m = false) : rd2 x k m = m ∧ rk2 m k = k := ⟨if_neg (by simp [h]), if_neg (by simp [h])⟩
theorem rd2_yes {x : It} {k : Nat} {m : Mg} (h : hBal m = true) {b : Int × Int} (hb : (Bal.balTake (atOf x k)).getD (0, 0) = b) : rd2 x k m = { m with bl := b } ∧ rk2 m k = k + 1 := by subst hb; exact ⟨if_pos h, if_pos h⟩
theorem rd3_no {x : It} {k : Nat} {m : Mg} (h : (m.kd == 7) = false) : rd3 x k m = m ∧ rk3 m k = k := ⟨if_neg (ne_of_beq_false h), if_neg (ne_of_beq_false h)⟩
theorem rd3_yes {x : It} {k : Nat} {m : Mg} (h : (m.kd == 7) = true) {s : Int} {b : Int × Int} (hs : Cmd.cap (atOf x k).num = s) (hb : (Bal.balTake (atOf x (k + 1))).getD (0, 0) = b) : rd3 x k m = { m with st := s, tk := b } ∧ rk3 m k = k + 2 := by subst hs hb; exact ⟨if_pos (eq_of_beq h), if_pos (eq_of_beq h)⟩
theorem rd4_no {x : It} {k : Nat} {m : Mg} (h : hCmd m = false) : rd4 x k m = m ∧ rk4 m k = k := ⟨if_neg (by simp [h]), if_neg (by simp [h])⟩
theorem rd4_yes {x : It} {k : Nat} {m : Mg} (h : hCmd m = true) {c : Cmd.Cm} (hc : (Cmd.takeOf (atOf x k)).getD Cmd.zeroCm = c) : rd4 x k m = { m with cm := c } ∧ rk4 m k = k + 1 := by subst hc; exact ⟨if_pos h, if_pos h⟩
theorem rd6_no {x : It} {m : Mg} (h : (m.kd == 9) = false) : rd6 x m = m := if_neg (ne_of_beq_false h)
theorem rd6_yes {x : It} {m : Mg} (h : (m.kd == 9) = true) {v : Int} (hv : Cmd.cap (atOf x 1).num = v) : rd6 x m = { m with vn := v } := by subst hv; exact if_pos (eq_of_beq h)
end Go.Proofs.YthlhchaoedcdbaaGreatDoor.Mg
/- The document's Read of an item, in either form. -/
namespace Go.Proofs.YthlhchaoedcdbaaGreatDoor.Mg
open Lib (hid)
open Go.RowKit Mem Ids Att Cod Rk
noncomputable def rdO (old : Bool) (x : It) (k : Nat) (m : Mg) : Mg := if (hAt m && old) = true then { m with at_ := (oldTake (atOf x k)).getD zeroAt } else m
noncomputable def rdN (old : Bool) (x : It) (k : Nat) (m : Mg) : Mg := if (hAt m && !old) = true then { m with at_ := (attTake (atOf x k)).getD zeroAt } else m
theorem rdO_no {old : Bool} {x : It} {k : Nat} {m : Mg} (h : (hAt m && old) = false) : rdO old x k m = m := if_neg (by simp [h])
theorem rdO_yes {old : Bool} {x : It} {k : Nat} {m : Mg} (h : (hAt m && old) = true) {a : At} (ha : (oldTake (atOf x k)).getD zeroAt = a) : rdO old x k m = { m with at_ := a } := by subst ha; exact if_pos h
theorem rdN_no {old : Bool} {x : It} {k : Nat} {m : Mg} (h : (hAt m && !old) = false) : rdN old x k m = m := if_neg (by simp [h])
theorem rdN_yes {old : Bool} {x : It} {k : Nat} {m : Mg} (h : (hAt m && !old) = true) {a : At} (ha : (attTake (atOf x k)).getD zeroAt = a) : rdN old x k m = { m with at_ := a } := by subst ha; exact if_pos h
theorem rd5_both {old : Bool} {x : It} {k : Nat} {m0 m1 m2 : Mg} (h1 : rdO old x k m0 = m1) (h2 : rdN old x k m1 = m2) : m2 = rd5 (if old = true then oldTake else attTake) x k m0 := by
 subst h2 h1;cases old
 · have e : rdO false x k m0 = m0 := if_neg (by simp)
   rw [e];unfold rdN rd5;simp
 · have e : ∀ m, rdN true x k m = m := fun m => if_neg (by simp)
   rw [e];unfold rdO rd5;simp
set_option maxRecDepth 100000 in
set_option maxHeartbeats 16000000 in
theorem refreadb_any (old : Bool) (x : It) (A : Option Addr) (c : Nat) (S : Nat → Prop) (w : World) (hl : Lies w S x A c) (hS : ∀ b, S b → b < w.heap.size) (hks : ∀ i, (Cmd.kid (atOf x i) 3).str.size ≤ 1073741824) :
 Calls Tryz.prog 34 #[.agg #[.int .i64 x.kind, .int .u64 (x.num : Int), .string x.str, .slice A x.kids.length c], .bool old] w (ReadsMg w (readMg (if old = true then oldTake else attTake) x)) := by
 obtain ⟨tk, htk⟩ : ∃ t, (if old = true then oldTake else attTake) = t := ⟨_, rfl⟩
 rw [htk];have HTK := hid htk;clear htk;obtain ⟨n, hn⟩ : ∃ n, x.kids.length = n := ⟨_, rfl⟩
 obtain ⟨W, hW⟩ : ∃ W, (w.alloc (.cells #[.int .i64 x.kind, .int .u64 (x.num : Int), .string x.str, .slice A x.kids.length c] 57)).alloc (.cells #[.int .i64 0, .int .i64 0, .int .i64 0, .int .i64 0, .int .i64 0, .int .i64 0, .int .i64 0, .int .i64 0, .int .i64 0, .int .i64 0, .int .i64 0, .string ⟨#[]⟩, .string ⟨#[]⟩, .int .i64 0, .slice none 0 0, .int .i64 0, .int .i64 0, .int .i64 0] 32) = W := ⟨_, rfl⟩
 obtain ⟨k1, k2, kb, hsW⟩ := two_kinds w _ _ _ _ W hW;have hat := fun (v : World) (hb : Below W.heap.size W v) (i : Nat) => refat_any x A c S v i ((hl.below kb hS).below hb (fun b hb => by have := hS b hb; omega)) (fun b h => by have := hS b h; have := hb.size; omega);rw [hn] at k1 hat hW ⊢;have HX := hid k1;have HZ := hid k2;have HB := hid kb;have HW := hid hW;have HSW := hid hsW;have HKS := hid hks;have HAT := hid hat;have HSS := hid (fun (v : World) (hb : Below W.heap.size W v) b (h : S b) => show b < v.heap.size by have := hS b h; have := hb.size; omega);clear hl hS hks k1 k2 kb hW hsW hat hn;go_enter Tryz.func34, Tryz.ntmps34
 go_upto_region 1 with fail
 rw [HW.out];obtain ⟨x0, x1, x2, x3⟩ := blk4 HX.out;go_wp2_with fail
 refine (HAT.out _ (Below.refl _ _) 0).mono ?_;rintro e u0 ⟨A0, c0, rfl, _, hb0⟩;obtain ⟨y0, hy0⟩ : ∃ y, atOf x 0 = y := ⟨_, rfl⟩
 rw [hy0];go_wp2_with fail
 refine (Cw.refint_any y0.kind y0.num y0.str A0 y0.kids.length c0 _).mono ?_;rintro e u1 ⟨rfl, hb1⟩;obtain ⟨v0, hv0⟩ : ∃ v, Cmd.cap y0.num = v := ⟨_, rfl⟩
 rw [hv0];rw [← hy0] at hv0;clear x0 x1 x2 x3 hy0;have hbk := Blk.new u1 32 #[.int .i64 v0, .int .i64 0, .int .i64 0, .int .i64 0, .int .i64 0, .int .i64 0, .int .i64 0, .int .i64 0, .int .i64 0, .int .i64 0, .int .i64 0, .string ⟨#[]⟩, .string ⟨#[]⟩, .int .i64 0, .slice none 0 0, .int .i64 0, .int .i64 0, .int .i64 0];have hbb := bel_alloc (bel_trans hb0 hb1) (.cells #[.int .i64 v0, .int .i64 0, .int .i64 0, .int .i64 0, .int .i64 0, .int .i64 0, .int .i64 0, .int .i64 0, .int .i64 0, .int .i64 0, .int .i64 0, .string ⟨#[]⟩, .string ⟨#[]⟩, .int .i64 0, .slice none 0 0, .int .i64 0, .int .i64 0, .int .i64 0] 32);obtain ⟨p, hp⟩ : ∃ p, u1.heap.size = p := ⟨_, rfl⟩
 have hpW : W.heap.size ≤ p := by have := hb0.size; have := hb1.size; omega
 obtain ⟨X0, hX⟩ : ∃ v, u1.alloc (.cells #[.int .i64 v0, .int .i64 0, .int .i64 0, .int .i64 0, .int .i64 0, .int .i64 0, .int .i64 0, .int .i64 0, .int .i64 0, .int .i64 0, .int .i64 0, .string ⟨#[]⟩, .string ⟨#[]⟩, .int .i64 0, .slice none 0 0, .int .i64 0, .int .i64 0, .int .i64 0] 32) = v := ⟨_, rfl⟩
 rw [hX] at hbk hbb;rw [hp] at hbk;have HG := hid (show InvR W p #[.int .i64 v0, .int .i64 0, .int .i64 0, .int .i64 0, .int .i64 0, .int .i64 0, .int .i64 0, .int .i64 0, .int .i64 0, .int .i64 0, .int .i64 0, .string ⟨#[]⟩, .string ⟨#[]⟩, .int .i64 0, .slice none 0 0, .int .i64 0, .int .i64 0, .int .i64 0] none 0 0 [] X0 from ⟨hbk, Rs.nil_ _, (fun _ _ e => by cases e), hbb⟩);have HM0 := hid (show (⟨v0, (0, 0), (0, 0), (0, 0), 0, ⟨0, 0, 0, ⟨#[]⟩, ⟨#[]⟩, 0⟩, ⟨[], 0, 0⟩, 0⟩ : Mg) = mg0 (Cmd.cap (atOf x 0).num) from by rw [hv0]; rfl);have HPM := hid hpW;have HXE := hid hX;have HPE := hid hp;clear hbk hbb hpW hX hp hb0 hb1 hv0;go_upto_region 3 with fail
 rw [HXE.out, HPE.out];clear HXE HPE;obtain ⟨t0, ht0⟩ : ∃ t, hId ⟨v0, (0, 0), (0, 0), (0, 0), 0, ⟨0, 0, 0, ⟨#[]⟩, ⟨#[]⟩, 0⟩, ⟨[], 0, 0⟩, 0⟩ = t := ⟨_, rfl⟩
 have CT := fun w => id_any v0 0 0 0 0 0 0 0 0 0 0 ⟨#[]⟩ ⟨#[]⟩ 0 none 0 0 0 0 0 [] w;rw [ht0] at CT;have HCT := hid CT;have HT0 := hid ht0;clear CT ht0;go_cut [22] from 7 (fun cv wx => cv = .bool t0 ∧ InvR W p #[.int .i64 v0, .int .i64 0, .int .i64 0, .int .i64 0, .int .i64 0, .int .i64 0, .int .i64 0, .int .i64 0, .int .i64 0, .int .i64 0, .int .i64 0, .string ⟨#[]⟩, .string ⟨#[]⟩, .int .i64 0, .slice none 0 0, .int .i64 0, .int .i64 0, .int .i64 0] none 0 0 [] wx)
 case first =>
  as_aux_lemma =>
   have hbk : Blk X0 p 32 #[.int .i64 v0, .int .i64 0, .int .i64 0, .int .i64 0, .int .i64 0, .int .i64 0, .int .i64 0, .int .i64 0, .int .i64 0, .int .i64 0, .int .i64 0, .string ⟨#[]⟩, .string ⟨#[]⟩, .int .i64 0, .slice none 0 0, .int .i64 0, .int .i64 0, .int .i64 0] := HG.out.1;have HBK := hid hbk;clear hbk;go_wp2_with (with_reducible refine wpList_load_blk_w 32 _ rfl p 32 #[.int .i64 v0, .int .i64 0, .int .i64 0, .int .i64 0, .int .i64 0, .int .i64 0, .int .i64 0, .int .i64 0, .int .i64 0, .int .i64 0, .int .i64 0, .string ⟨#[]⟩, .string ⟨#[]⟩, .int .i64 0, .slice none 0 0, .int .i64 0, .int .i64 0, .int .i64 0] _ ?_ ?_ HBK.out Tryz.underlying32 ?_ ?_ ?_; (focus kernel_rfl); (focus kernel_rfl); (focus rfl); (focus kernel_rfl))
   refine (HCT.out _).mono ?_;rintro e uu1 ⟨rfl, hb1⟩;go_wp2_with fail
   go_meet
   case rel => exact ⟨rfl, HG.out.bel hb1⟩
 case rest =>
  obtain ⟨rfl, hG⟩ := hcut;clear HG HCT;generalize wc = Wy0 at hG ⊢;have HG := hid hG;clear hG;go_upto_if 22 with fail
  go_cut [6] from 7 (fun kv wx => ∃ (R1 : Int) (N1 : Int) (k1 : Nat), kv = .int .i64 (k1 : Int) ∧ (rd1 x ⟨v0, (0, 0), (0, 0), (0, 0), 0, ⟨0, 0, 0, ⟨#[]⟩, ⟨#[]⟩, 0⟩, ⟨[], 0, 0⟩, 0⟩ = ⟨v0, (R1, N1), (0, 0), (0, 0), 0, ⟨0, 0, 0, ⟨#[]⟩, ⟨#[]⟩, 0⟩, ⟨[], 0, 0⟩, 0⟩ ∧ rk1 ⟨v0, (0, 0), (0, 0), (0, 0), 0, ⟨0, 0, 0, ⟨#[]⟩, ⟨#[]⟩, 0⟩, ⟨[], 0, 0⟩, 0⟩ = k1) ∧ k1 ≤ 3 ∧ InvR W p #[.int .i64 v0, .int .i64 R1, .int .i64 N1, .int .i64 0, .int .i64 0, .int .i64 0, .int .i64 0, .int .i64 0, .int .i64 0, .int .i64 0, .int .i64 0, .string ⟨#[]⟩, .string ⟨#[]⟩, .int .i64 0, .slice none 0 0, .int .i64 0, .int .i64 0, .int .i64 0] none 0 0 [] wx)
  case first =>
   cases t0 with
   | false =>
     go_wp2_with fail
     go_meet
     case rel => exact ⟨0, 0, 1, rfl, rd1_no (m := ⟨v0, (0, 0), (0, 0), (0, 0), 0, ⟨0, 0, 0, ⟨#[]⟩, ⟨#[]⟩, 0⟩, ⟨[], 0, 0⟩, 0⟩) HT0.out, by omega, HG.out⟩
   | true =>
     replace HG := hid HG.out.drew;obtain ⟨v1, hv1⟩ : ∃ v, Cmd.cap (atOf x 1).num = v := ⟨_, rfl⟩
     obtain ⟨v2, hv2⟩ : ∃ v, Cmd.cap (atOf x 2).num = v := ⟨_, rfl⟩
     have HVv1 := hid hv1;have HVv2 := hid hv2;clear hv1 hv2;go_upto_region 4 with fail
     refine wp_region_held_drew (S := (fun w' => Blk w' w.heap.size 57 #[.int .i64 x.kind, .int .u64 (x.num : Int), .string x.str, .slice A n c])) (by kernel_rfl) (by with_reducible exact HX.out.bel HG.out.low) (fun hHeld => ?_);refine hs_take 0 23 (.agg #[.int .i64 x.kind, .int .u64 (x.num : Int), .string x.str, .slice A n c]) rfl rfl (by kernel_rfl) (fun _ _ _ h => h) (run_load_blk 57 (.tmp 2) rfl w.heap.size 57 #[.int .i64 x.kind, .int .u64 (x.num : Int), .string x.str, .slice A n c] _ rfl (fun _ h => h) Tryz.underlying57 rfl (by kernel_rfl)) hHeld ?_;try simp only [n0, n1, n2]
     refine hs_take 3 26 (.agg #[.int .i64 x.kind, .int .u64 (x.num : Int), .string x.str, .slice A n c]) rfl rfl (by kernel_rfl) (fun _ _ _ h => h) (run_load_blk 57 (.tmp 2) rfl w.heap.size 57 #[.int .i64 x.kind, .int .u64 (x.num : Int), .string x.str, .slice A n c] _ rfl (fun _ h => h) Tryz.underlying57 rfl (by kernel_rfl)) hHeld ?_;try simp only [n0, n1, n2]
     refine wpAnyH_ready (rs := [1]) (by kernel_rfl) (by simp) ?_;refine AllReadyH.cons rfl (fun K hK => ?_) AllReadyH.nil;go_simp;go_at_call 78
     refine (HAT.out _ HG.out.2.2.2 1).mono ?_;rintro e ua ⟨D1, d1, rfl, _, hb1⟩;replace HG := hid (HG.out.bel hb1);clear hb1;refine hK.out _ _ (by with_reducible exact HX.out.bel HG.out.low) (fun hHeld => ?_);clear hK K;refine wpAnyH_ready (rs := [2]) (by kernel_rfl) (by simp) ?_;refine AllReadyH.cons rfl (fun K hK => ?_) AllReadyH.nil;go_simp;go_at_call 77
     refine (Cw.refint_any (atOf x 1).kind (atOf x 1).num (atOf x 1).str D1 (atOf x 1).kids.length d1 _).mono ?_;rw [HVv1.out];rintro e ua ⟨rfl, hb1⟩;replace HG := hid (HG.out.bel hb1);clear hb1;refine hK.out _ _ (by with_reducible exact HX.out.bel HG.out.low) (fun hHeld => ?_);clear hK K;refine wpAnyH_ready (rs := [4]) (by kernel_rfl) (by simp) ?_;refine AllReadyH.cons rfl (fun K hK => ?_) AllReadyH.nil;go_simp;go_at_call 78
     refine (HAT.out _ HG.out.2.2.2 2).mono ?_;rintro e ua ⟨D2, d2, rfl, _, hb1⟩;replace HG := hid (HG.out.bel hb1);clear hb1;refine hK.out _ _ (by with_reducible exact HX.out.bel HG.out.low) (fun hHeld => ?_);clear hK K;refine wpAnyH_ready (rs := [5]) (by kernel_rfl) (by simp) ?_;refine AllReadyH.cons rfl (fun K hK => ?_) AllReadyH.nil;go_simp;go_at_call 77
     refine (Cw.refint_any (atOf x 2).kind (atOf x 2).num (atOf x 2).str D2 (atOf x 2).kids.length d2 _).mono ?_;rw [HVv2.out];rintro e ua ⟨rfl, hb1⟩;replace HG := hid (HG.out.bel hb1);clear hb1;refine hK.out _ _ (by with_reducible exact HX.out.bel HG.out.low) (fun hHeld => ?_);clear hK K;refine hs_take 6 29 (.agg #[.int .i64 v1, .int .i64 v2]) rfl rfl (by kernel_rfl) (fun _ _ _ h => h) (fun w hS => by go_simp) hHeld ?_;try simp only [n0, n1, n2]
     refine hs_take 7 30 (.pointer (some ⟨p, 1, none⟩)) rfl rfl (by kernel_rfl) (fun _ _ _ h => h) (fun w hS => by go_simp) hHeld ?_;try simp only [n0, n1, n2]
     refine wpAnyH_ready (rs := [8]) (by kernel_rfl) (by simp) ?_;refine AllReadyH.cons rfl (fun K hK => ?_) AllReadyH.nil;go_simp;have c1 := HG.out.1.cell 1;have z1 := HG.out.1.soft 1;have c2 := HG.out.1.cell 2;have z2 := HG.out.1.soft 2;simp at c1 c2;go_simp;replace HG := hid (show InvR W p #[.int .i64 v0, .int .i64 v1, .int .i64 v2, .int .i64 0, .int .i64 0, .int .i64 0, .int .i64 0, .int .i64 0, .int .i64 0, .int .i64 0, .int .i64 0, .string ⟨#[]⟩, .string ⟨#[]⟩, .int .i64 0, .slice none 0 0, .int .i64 0, .int .i64 0, .int .i64 0] none 0 0 [] _ from by simpa using ((HG.out.set HPM.out 1 (.int .i64 v1)).set HPM.out 2 (.int .i64 v2)));clear c1 c2 z1 z2;refine hK.out _ _ (by with_reducible exact HX.out.bel HG.out.low) (fun hHeld => ?_);clear hK K;refine wpAnyH_done (by kernel_rfl) ?_ _;go_wp2_with fail
     go_meet
     case rel => exact ⟨v1, v2, 3, rfl, rd1_yes (m := ⟨v0, (0, 0), (0, 0), (0, 0), 0, ⟨0, 0, 0, ⟨#[]⟩, ⟨#[]⟩, 0⟩, ⟨[], 0, 0⟩, 0⟩) HT0.out HVv1.out HVv2.out, by omega, HG.out⟩
  case rest =>
   obtain ⟨R1, N1, k1, rfl, hq, hkl, hG⟩ := hcut;clear HG;have HKL := hid hkl;generalize wc = X1 at hG ⊢;have HG := hid hG;have HQ1 := hid hq;clear hG hq hkl;go_upto_region 6 with fail
   obtain ⟨t1, ht1⟩ : ∃ t, hBal ⟨v0, (R1, N1), (0, 0), (0, 0), 0, ⟨0, 0, 0, ⟨#[]⟩, ⟨#[]⟩, 0⟩, ⟨[], 0, 0⟩, 0⟩ = t := ⟨_, rfl⟩
   have CT := fun w => bal_any v0 R1 N1 0 0 0 0 0 0 0 0 ⟨#[]⟩ ⟨#[]⟩ 0 none 0 0 0 0 0 [] w;rw [ht1] at CT;have HCT := hid CT;have HT1 := hid ht1;clear CT ht1;go_cut [32] from 7 (fun cv wx => cv = .bool t1 ∧ InvR W p #[.int .i64 v0, .int .i64 R1, .int .i64 N1, .int .i64 0, .int .i64 0, .int .i64 0, .int .i64 0, .int .i64 0, .int .i64 0, .int .i64 0, .int .i64 0, .string ⟨#[]⟩, .string ⟨#[]⟩, .int .i64 0, .slice none 0 0, .int .i64 0, .int .i64 0, .int .i64 0] none 0 0 [] wx)
   case first =>
    as_aux_lemma =>
     have hbk : Blk X1 p 32 #[.int .i64 v0, .int .i64 R1, .int .i64 N1, .int .i64 0, .int .i64 0, .int .i64 0, .int .i64 0, .int .i64 0, .int .i64 0, .int .i64 0, .int .i64 0, .string ⟨#[]⟩, .string ⟨#[]⟩, .int .i64 0, .slice none 0 0, .int .i64 0, .int .i64 0, .int .i64 0] := HG.out.1;have HBK := hid hbk;clear hbk;go_wp2_with (with_reducible refine wpList_load_blk_w 32 _ rfl p 32 #[.int .i64 v0, .int .i64 R1, .int .i64 N1, .int .i64 0, .int .i64 0, .int .i64 0, .int .i64 0, .int .i64 0, .int .i64 0, .int .i64 0, .int .i64 0, .string ⟨#[]⟩, .string ⟨#[]⟩, .int .i64 0, .slice none 0 0, .int .i64 0, .int .i64 0, .int .i64 0] _ ?_ ?_ HBK.out Tryz.underlying32 ?_ ?_ ?_; (focus kernel_rfl); (focus kernel_rfl); (focus rfl); (focus kernel_rfl))
     refine (HCT.out _).mono ?_;rintro e uu1 ⟨rfl, hb1⟩;go_wp2_with fail
     go_meet
     case rel => exact ⟨rfl, HG.out.bel hb1⟩
   case rest =>
    obtain ⟨rfl, hG⟩ := hcut;clear HG HCT;generalize wc = Wy1 at hG ⊢;have HG := hid hG;clear hG;go_upto_if 32 with fail
    go_cut [6] from 7 (fun kv wx => ∃ (B2 : Int) (C2 : Int) (k2 : Nat), kv = .int .i64 (k2 : Int) ∧ (rd2 x k1 ⟨v0, (R1, N1), (0, 0), (0, 0), 0, ⟨0, 0, 0, ⟨#[]⟩, ⟨#[]⟩, 0⟩, ⟨[], 0, 0⟩, 0⟩ = ⟨v0, (R1, N1), (B2, C2), (0, 0), 0, ⟨0, 0, 0, ⟨#[]⟩, ⟨#[]⟩, 0⟩, ⟨[], 0, 0⟩, 0⟩ ∧ rk2 ⟨v0, (R1, N1), (0, 0), (0, 0), 0, ⟨0, 0, 0, ⟨#[]⟩, ⟨#[]⟩, 0⟩, ⟨[], 0, 0⟩, 0⟩ k1 = k2) ∧ k2 ≤ 4 ∧ InvR W p #[.int .i64 v0, .int .i64 R1, .int .i64 N1, .int .i64 B2, .int .i64 C2, .int .i64 0, .int .i64 0, .int .i64 0, .int .i64 0, .int .i64 0, .int .i64 0, .string ⟨#[]⟩, .string ⟨#[]⟩, .int .i64 0, .slice none 0 0, .int .i64 0, .int .i64 0, .int .i64 0] none 0 0 [] wx)
    case first =>
     cases t1 with
     | false =>
       go_wp2_with fail
       go_meet
       case rel => exact ⟨0, 0, k1, rfl, rd2_no (m := ⟨v0, (R1, N1), (0, 0), (0, 0), 0, ⟨0, 0, 0, ⟨#[]⟩, ⟨#[]⟩, 0⟩, ⟨[], 0, 0⟩, 0⟩) HT1.out, by have := HKL.out; omega, HG.out⟩
     | true =>
       have HI0 := HG;obtain ⟨x0, x1, x2, x3⟩ := blk4 (HX.out.bel HG.out.2.2.2);go_wp2_with fail
       refine (HAT.out _ HI0.out.2.2.2 k1).mono ?_;rintro e u1 ⟨D, d, rfl, hly, hb1⟩;have hI := HI0.out.bel hb1;obtain ⟨y, hy⟩ : ∃ y, atOf x k1 = y := ⟨_, rfl⟩
       rw [hy] at hly ⊢;have HLY := hid hly;have HYy := hid hy;have HI := hid hI;clear hb1 hI hly hy;clear x0 x1 x2 x3;go_wp2_with fail
       have hbt := Bal.refbaltake_any y D d S _ HLY.out (HSS.out _ HI.out.2.2.2);unfold Bal.BalTakes at hbt;obtain ⟨⟨b1, b2⟩, hb⟩ : ∃ b, (Bal.balTake y).getD (0, 0) = b := ⟨_, rfl⟩
       rw [hb] at hbt;simp only at hbt;have HBT := hid hbt;rw [← HYy.out] at hb;have HVb := hid hb;clear hbt hb;refine HBT.out.mono ?_;rintro e u2 ⟨rfl, hb1⟩;have hI := HI.out.bel hb1;clear HI HLY HBT HYy hb1;have HI := hid hI;clear hI;have hI := HI.out.bel (bel_alloc (Below.refl _ _) (.cells #[.int .i64 b1, .int .i64 b2] 25));have hbx := Blk.new u2 25 #[.int .i64 b1, .int .i64 b2];have hlt := HI.out.1.lt;obtain ⟨UB, hUB⟩ : ∃ v, u2.alloc (.cells #[.int .i64 b1, .int .i64 b2] 25) = v := ⟨_, rfl⟩
       rw [hUB] at hI hbx;have HUB := hid hUB;clear hUB HI;have HI := hid hI;clear hI;have w0 := hbx.cell 0;have w1 := hbx.cell 1;simp at w0 w1;clear hbx;go_upto_region 8 with fail
       rw [HUB.out];have c3 := HI.out.1.cell 3;have z3 := HI.out.1.soft 3;have c4 := HI.out.1.cell 4;have z4 := HI.out.1.soft 4;simp at c3 c4;have hkl := HKL.out;have hwk : IntKind.i64.wrap ((k1 : Int) + 1) = ((k1 + 1 : Nat) : Int) := (by rw [Go.Proofs.YthlhchaoedcdbaaGreatDoor.wrap64 (by omega) (by omega)]; omega);go_wp2_with fail
       go_meet
       case rel => exact ⟨b1, b2, k1 + 1, rfl, rd2_yes (m := ⟨v0, (R1, N1), (0, 0), (0, 0), 0, ⟨0, 0, 0, ⟨#[]⟩, ⟨#[]⟩, 0⟩, ⟨[], 0, 0⟩, 0⟩) HT1.out HVb.out, by omega, by simpa using ((HI.out.set HPM.out 3 (.int .i64 b1)).set HPM.out 4 (.int .i64 b2))⟩
    case rest =>
     obtain ⟨B2, C2, k2, rfl, hq, hkl, hG⟩ := hcut;clear HG HKL;have HKL := hid hkl;generalize wc = X2 at hG ⊢;have HG := hid hG;have HQ2 := hid hq;clear hG hq hkl;go_upto_region 10 with fail
     obtain ⟨t2, ht2⟩ : ∃ t, (v0 == 7) = t := ⟨_, rfl⟩
     have HT2 := hid ht2;go_cut [46] from 7 (fun cv wx => cv = .bool t2 ∧ InvR W p #[.int .i64 v0, .int .i64 R1, .int .i64 N1, .int .i64 B2, .int .i64 C2, .int .i64 0, .int .i64 0, .int .i64 0, .int .i64 0, .int .i64 0, .int .i64 0, .string ⟨#[]⟩, .string ⟨#[]⟩, .int .i64 0, .slice none 0 0, .int .i64 0, .int .i64 0, .int .i64 0] none 0 0 [] wx)
     case first =>
      as_aux_lemma =>
       have c0 := HG.out.1.cell 0;simp at c0;go_wp2_with fail
       go_meet
       case rel => exact ⟨rfl, HG.out⟩
     case rest =>
      obtain ⟨rfl, hG⟩ := hcut;clear HG ht2;generalize wc = Wy2 at hG ⊢;have HG := hid hG;clear hG;go_upto_if 46 with fail
      go_cut [6] from 7 (fun kv wx => ∃ (T3 : Int) (U3 : Int) (S3 : Int) (k3 : Nat), kv = .int .i64 (k3 : Int) ∧ (rd3 x k2 ⟨v0, (R1, N1), (B2, C2), (0, 0), 0, ⟨0, 0, 0, ⟨#[]⟩, ⟨#[]⟩, 0⟩, ⟨[], 0, 0⟩, 0⟩ = ⟨v0, (R1, N1), (B2, C2), (T3, U3), S3, ⟨0, 0, 0, ⟨#[]⟩, ⟨#[]⟩, 0⟩, ⟨[], 0, 0⟩, 0⟩ ∧ rk3 ⟨v0, (R1, N1), (B2, C2), (0, 0), 0, ⟨0, 0, 0, ⟨#[]⟩, ⟨#[]⟩, 0⟩, ⟨[], 0, 0⟩, 0⟩ k2 = k3) ∧ k3 ≤ 6 ∧ InvR W p #[.int .i64 v0, .int .i64 R1, .int .i64 N1, .int .i64 B2, .int .i64 C2, .int .i64 T3, .int .i64 U3, .int .i64 S3, .int .i64 0, .int .i64 0, .int .i64 0, .string ⟨#[]⟩, .string ⟨#[]⟩, .int .i64 0, .slice none 0 0, .int .i64 0, .int .i64 0, .int .i64 0] none 0 0 [] wx)
      case first =>
       cases t2 with
       | false =>
         go_wp2_with fail
         go_meet
         case rel => exact ⟨0, 0, 0, k2, rfl, rd3_no (m := ⟨v0, (R1, N1), (B2, C2), (0, 0), 0, ⟨0, 0, 0, ⟨#[]⟩, ⟨#[]⟩, 0⟩, ⟨[], 0, 0⟩, 0⟩) HT2.out, by have := HKL.out; omega, HG.out⟩
       | true =>
         have HI0 := HG;obtain ⟨x0, x1, x2, x3⟩ := blk4 (HX.out.bel HG.out.2.2.2);go_wp2_with fail
         refine (HAT.out _ HI0.out.2.2.2 k2).mono ?_;rintro e u1a ⟨D, d, rfl, hly, hb1⟩;have hI := HI0.out.bel hb1;obtain ⟨y, hy⟩ : ∃ y, atOf x k2 = y := ⟨_, rfl⟩
         rw [hy] at hly ⊢;have HLY := hid hly;have HYy := hid hy;have HI := hid hI;clear hb1 hI hly hy;go_wp2_with fail
         refine (Cw.refint_any y.kind y.num y.str D y.kids.length d _).mono ?_;rintro e u1 ⟨rfl, hb1⟩;obtain ⟨v1, hv1⟩ : ∃ v, Cmd.cap y.num = v := ⟨_, rfl⟩
         rw [hv1];rw [← HYy.out] at hv1;have HVv1 := hid hv1;have hI := HI.out.bel hb1;clear HI HLY HYy hv1 hb1;have HI := hid hI;clear hI;clear x0 x1 x2 x3;have c7 := HI.out.1.cell 7;have z7 := HI.out.1.soft 7;simp at c7;go_upto_region 12 with fail
         clear c7 z7;have hI2 : InvR W p #[.int .i64 v0, .int .i64 R1, .int .i64 N1, .int .i64 B2, .int .i64 C2, .int .i64 0, .int .i64 0, .int .i64 v1, .int .i64 0, .int .i64 0, .int .i64 0, .string ⟨#[]⟩, .string ⟨#[]⟩, .int .i64 0, .slice none 0 0, .int .i64 0, .int .i64 0, .int .i64 0] none 0 0 [] (u1.setCell ⟨p, 7, none⟩ (.int .i64 v1)) := (by simpa using (HI.out.set HPM.out 7 (.int .i64 v1)));generalize u1.setCell ⟨p, 7, none⟩ (.int .i64 v1) = U2 at hI2 ⊢;clear HI HI0;have HI0 := hid hI2;clear hI2;obtain ⟨x0, x1, x2, x3⟩ := blk4 (HX.out.bel HI0.out.2.2.2);have hkl := HKL.out;have hwk : IntKind.i64.wrap ((k2 : Int) + 1) = ((k2 + 1 : Nat) : Int) := (by rw [Go.Proofs.YthlhchaoedcdbaaGreatDoor.wrap64 (by omega) (by omega)]; omega);go_wp2_with fail
         refine (HAT.out _ HI0.out.2.2.2 (k2 + 1)).mono ?_;rintro e u1 ⟨D, d, rfl, hly, hb1⟩;have hI := HI0.out.bel hb1;obtain ⟨y, hy⟩ : ∃ y, atOf x (k2 + 1) = y := ⟨_, rfl⟩
         rw [hy] at hly ⊢;have HLY := hid hly;have HYy := hid hy;have HI := hid hI;clear hb1 hI hly hy;clear x0 x1 x2 x3;go_wp2_with fail
         have hbt := Bal.refbaltake_any y D d S _ HLY.out (HSS.out _ HI.out.2.2.2);unfold Bal.BalTakes at hbt;obtain ⟨⟨b1, b2⟩, hb⟩ : ∃ b, (Bal.balTake y).getD (0, 0) = b := ⟨_, rfl⟩
         rw [hb] at hbt;simp only at hbt;have HBT := hid hbt;rw [← HYy.out] at hb;have HVb := hid hb;clear hbt hb;refine HBT.out.mono ?_;rintro e u2 ⟨rfl, hb1⟩;have hI := HI.out.bel hb1;clear HI HLY HBT HYy hb1;have HI := hid hI;clear hI;clear hwk;have hI := HI.out.bel (bel_alloc (Below.refl _ _) (.cells #[.int .i64 b1, .int .i64 b2] 25));have hbx := Blk.new u2 25 #[.int .i64 b1, .int .i64 b2];have hlt := HI.out.1.lt;obtain ⟨UB, hUB⟩ : ∃ v, u2.alloc (.cells #[.int .i64 b1, .int .i64 b2] 25) = v := ⟨_, rfl⟩
         rw [hUB] at hI hbx;have HUB := hid hUB;clear hUB HI;have HI := hid hI;clear hI;have w0 := hbx.cell 0;have w1 := hbx.cell 1;simp at w0 w1;clear hbx;go_upto_region 13 with fail
         rw [HUB.out];have c5 := HI.out.1.cell 5;have z5 := HI.out.1.soft 5;have c6 := HI.out.1.cell 6;have z6 := HI.out.1.soft 6;simp at c5 c6;have hwk : IntKind.i64.wrap ((k2 : Int) + 2) = ((k2 + 2 : Nat) : Int) := (by rw [Go.Proofs.YthlhchaoedcdbaaGreatDoor.wrap64 (by omega) (by omega)]; omega);go_wp2_with fail
         go_meet
         case rel => exact ⟨b1, b2, v1, k2 + 2, rfl, rd3_yes (m := ⟨v0, (R1, N1), (B2, C2), (0, 0), 0, ⟨0, 0, 0, ⟨#[]⟩, ⟨#[]⟩, 0⟩, ⟨[], 0, 0⟩, 0⟩) HT2.out HVv1.out HVb.out, by omega, by simpa using ((HI.out.set HPM.out 5 (.int .i64 b1)).set HPM.out 6 (.int .i64 b2))⟩
      case rest =>
       obtain ⟨T3, U3, S3, k3, rfl, hq, hkl, hG⟩ := hcut;clear HG HKL;have HKL := hid hkl;generalize wc = X3 at hG ⊢;have HG := hid hG;have HQ3 := hid hq;clear hG hq hkl;go_upto_region 15 with fail
       obtain ⟨t3, ht3⟩ : ∃ t, hCmd ⟨v0, (R1, N1), (B2, C2), (T3, U3), S3, ⟨0, 0, 0, ⟨#[]⟩, ⟨#[]⟩, 0⟩, ⟨[], 0, 0⟩, 0⟩ = t := ⟨_, rfl⟩
       have CT := fun w => command_any v0 R1 N1 B2 C2 T3 U3 S3 0 0 0 ⟨#[]⟩ ⟨#[]⟩ 0 none 0 0 0 0 0 [] w;rw [ht3] at CT;have HCT := hid CT;have HT3 := hid ht3;clear CT ht3;go_cut [65] from 7 (fun cv wx => cv = .bool t3 ∧ InvR W p #[.int .i64 v0, .int .i64 R1, .int .i64 N1, .int .i64 B2, .int .i64 C2, .int .i64 T3, .int .i64 U3, .int .i64 S3, .int .i64 0, .int .i64 0, .int .i64 0, .string ⟨#[]⟩, .string ⟨#[]⟩, .int .i64 0, .slice none 0 0, .int .i64 0, .int .i64 0, .int .i64 0] none 0 0 [] wx)
       case first =>
        as_aux_lemma =>
         have hbk : Blk X3 p 32 #[.int .i64 v0, .int .i64 R1, .int .i64 N1, .int .i64 B2, .int .i64 C2, .int .i64 T3, .int .i64 U3, .int .i64 S3, .int .i64 0, .int .i64 0, .int .i64 0, .string ⟨#[]⟩, .string ⟨#[]⟩, .int .i64 0, .slice none 0 0, .int .i64 0, .int .i64 0, .int .i64 0] := HG.out.1;have HBK := hid hbk;clear hbk;go_wp2_with (with_reducible refine wpList_load_blk_w 32 _ rfl p 32 #[.int .i64 v0, .int .i64 R1, .int .i64 N1, .int .i64 B2, .int .i64 C2, .int .i64 T3, .int .i64 U3, .int .i64 S3, .int .i64 0, .int .i64 0, .int .i64 0, .string ⟨#[]⟩, .string ⟨#[]⟩, .int .i64 0, .slice none 0 0, .int .i64 0, .int .i64 0, .int .i64 0] _ ?_ ?_ HBK.out Tryz.underlying32 ?_ ?_ ?_; (focus kernel_rfl); (focus kernel_rfl); (focus rfl); (focus kernel_rfl))
         refine (HCT.out _).mono ?_;rintro e uu1 ⟨rfl, hb1⟩;go_wp2_with fail
         go_meet
         case rel => exact ⟨rfl, HG.out.bel hb1⟩
       case rest =>
        obtain ⟨rfl, hG⟩ := hcut;clear HG HCT;generalize wc = Wy3 at hG ⊢;have HG := hid hG;clear hG;go_upto_if 65 with fail
        go_cut [6] from 7 (fun kv wx => ∃ (K4 : Int) (L4 : Int) (Q4 : Int) (Y4 : ByteArray) (V4 : ByteArray) (Z4 : Int) (k4 : Nat), kv = .int .i64 (k4 : Int) ∧ (rd4 x k3 ⟨v0, (R1, N1), (B2, C2), (T3, U3), S3, ⟨0, 0, 0, ⟨#[]⟩, ⟨#[]⟩, 0⟩, ⟨[], 0, 0⟩, 0⟩ = ⟨v0, (R1, N1), (B2, C2), (T3, U3), S3, ⟨K4, L4, Q4, Y4, V4, Z4⟩, ⟨[], 0, 0⟩, 0⟩ ∧ rk4 ⟨v0, (R1, N1), (B2, C2), (T3, U3), S3, ⟨0, 0, 0, ⟨#[]⟩, ⟨#[]⟩, 0⟩, ⟨[], 0, 0⟩, 0⟩ k3 = k4) ∧ k4 ≤ 7 ∧ InvR W p #[.int .i64 v0, .int .i64 R1, .int .i64 N1, .int .i64 B2, .int .i64 C2, .int .i64 T3, .int .i64 U3, .int .i64 S3, .int .i64 K4, .int .i64 L4, .int .i64 Q4, .string Y4, .string V4, .int .i64 Z4, .slice none 0 0, .int .i64 0, .int .i64 0, .int .i64 0] none 0 0 [] wx)
        case first =>
         cases t3 with
         | false =>
           go_wp2_with fail
           go_meet
           case rel => exact ⟨0, 0, 0, ⟨#[]⟩, ⟨#[]⟩, 0, k3, rfl, rd4_no (m := ⟨v0, (R1, N1), (B2, C2), (T3, U3), S3, ⟨0, 0, 0, ⟨#[]⟩, ⟨#[]⟩, 0⟩, ⟨[], 0, 0⟩, 0⟩) HT3.out, by have := HKL.out; omega, HG.out⟩
         | true =>
           have HI0 := HG;obtain ⟨x0, x1, x2, x3⟩ := blk4 (HX.out.bel HG.out.2.2.2);go_wp2_with fail
           refine (HAT.out _ HI0.out.2.2.2 k3).mono ?_;rintro e u1 ⟨D, d, rfl, hly, hb1⟩;have hI := HI0.out.bel hb1;obtain ⟨y, hy⟩ : ∃ y, atOf x k3 = y := ⟨_, rfl⟩
           rw [hy] at hly ⊢;have HLY := hid hly;have HYy := hid hy;have HI := hid hI;clear hb1 hI hly hy;clear x0 x1 x2 x3;go_wp2_with fail
           have hct := Cw.refcmtake_any y D d S _ HLY.out (HSS.out _ HI.out.2.2.2) (by have := HKS.out k3; rw [HYy.out] at this; exact this);refine hct.mono ?_;rintro e u2 ⟨⟨d1, d2, d3, d4, d5, d6⟩, bb, rfl, hc, _, hb1⟩;have hI := HI.out.bel hb1;rw [← HYy.out] at hc;have HVc := hid hc.symm;clear HI HLY HYy hb1 hc hct;have HI := hid hI;clear hI;simp only;have hI := HI.out.bel (bel_alloc (Below.refl _ _) (.cells #[.int .i64 d1, .int .i64 d2, .int .i64 d3, .string d4, .string d5, .int .i64 d6] 27));have hbx := Blk.new u2 27 #[.int .i64 d1, .int .i64 d2, .int .i64 d3, .string d4, .string d5, .int .i64 d6];have hlt := HI.out.1.lt;obtain ⟨UB, hUB⟩ : ∃ v, u2.alloc (.cells #[.int .i64 d1, .int .i64 d2, .int .i64 d3, .string d4, .string d5, .int .i64 d6] 27) = v := ⟨_, rfl⟩
           rw [hUB] at hI hbx;have HUB := hid hUB;clear hUB HI;have HI := hid hI;clear hI;have w0 := hbx.cell 0;have w1 := hbx.cell 1;have w2 := hbx.cell 2;have w3 := hbx.cell 3;have w4 := hbx.cell 4;have w5 := hbx.cell 5;simp at w0 w1 w2 w3 w4 w5;clear hbx;go_upto_region 17 with fail
           rw [HUB.out];have c8 := HI.out.1.cell 8;have z8 := HI.out.1.soft 8;have c9 := HI.out.1.cell 9;have z9 := HI.out.1.soft 9;have c10 := HI.out.1.cell 10;have z10 := HI.out.1.soft 10;have c11 := HI.out.1.cell 11;have z11 := HI.out.1.soft 11;have c12 := HI.out.1.cell 12;have z12 := HI.out.1.soft 12;have c13 := HI.out.1.cell 13;have z13 := HI.out.1.soft 13;simp at c8 c9 c10 c11 c12 c13;have hkl := HKL.out;have hwk : IntKind.i64.wrap ((k3 : Int) + 1) = ((k3 + 1 : Nat) : Int) := (by rw [Go.Proofs.YthlhchaoedcdbaaGreatDoor.wrap64 (by omega) (by omega)]; omega);go_wp2_with fail
           go_meet
           case rel => exact ⟨d1, d2, d3, d4, d5, d6, k3 + 1, rfl, rd4_yes (m := ⟨v0, (R1, N1), (B2, C2), (T3, U3), S3, ⟨0, 0, 0, ⟨#[]⟩, ⟨#[]⟩, 0⟩, ⟨[], 0, 0⟩, 0⟩) HT3.out HVc.out, by omega, by simpa using ((((((HI.out.set HPM.out 8 (.int .i64 d1)).set HPM.out 9 (.int .i64 d2)).set HPM.out 10 (.int .i64 d3)).set HPM.out 11 (.string d4)).set HPM.out 12 (.string d5)).set HPM.out 13 (.int .i64 d6))⟩
        case rest =>
         obtain ⟨K4, L4, Q4, Y4, V4, Z4, k4, rfl, hq, hkl, hG⟩ := hcut;clear HG HKL;have HKL := hid hkl;generalize wc = X4 at hG ⊢;have HG := hid hG;have HQ4 := hid hq;clear hG hq hkl;go_upto_region 19 with fail
         obtain ⟨s4, hs4⟩ : ∃ t, hAt ⟨v0, (R1, N1), (B2, C2), (T3, U3), S3, ⟨K4, L4, Q4, Y4, V4, Z4⟩, ⟨[], 0, 0⟩, 0⟩ = t := ⟨_, rfl⟩
         have CT := fun w => hangs_any v0 R1 N1 B2 C2 T3 U3 S3 K4 L4 Q4 Y4 V4 Z4 none 0 0 0 0 0 [] w;rw [hs4] at CT;have HCT := hid CT;obtain ⟨t4, ht4⟩ : ∃ t, (s4 && old) = t := ⟨_, rfl⟩
         have HE := hid ht4;have HT4 := hid (show (hAt ⟨v0, (R1, N1), (B2, C2), (T3, U3), S3, ⟨K4, L4, Q4, Y4, V4, Z4⟩, ⟨[], 0, 0⟩, 0⟩ && old) = t4 from by rw [hs4]; exact ht4);clear CT ht4 hs4;go_cut [81] from 7 (fun cv wx => cv = .bool t4 ∧ InvR W p #[.int .i64 v0, .int .i64 R1, .int .i64 N1, .int .i64 B2, .int .i64 C2, .int .i64 T3, .int .i64 U3, .int .i64 S3, .int .i64 K4, .int .i64 L4, .int .i64 Q4, .string Y4, .string V4, .int .i64 Z4, .slice none 0 0, .int .i64 0, .int .i64 0, .int .i64 0] none 0 0 [] wx)
         case first =>
          as_aux_lemma =>
           have hbk : Blk X4 p 32 #[.int .i64 v0, .int .i64 R1, .int .i64 N1, .int .i64 B2, .int .i64 C2, .int .i64 T3, .int .i64 U3, .int .i64 S3, .int .i64 K4, .int .i64 L4, .int .i64 Q4, .string Y4, .string V4, .int .i64 Z4, .slice none 0 0, .int .i64 0, .int .i64 0, .int .i64 0] := HG.out.1;have HBK := hid hbk;clear hbk;go_wp2_with (with_reducible refine wpList_load_blk_w 32 _ rfl p 32 _ _ ?_ ?_ HBK.out Tryz.underlying32 ?_ ?_ ?_; (focus kernel_rfl); (focus kernel_rfl); (focus rfl); (focus kernel_rfl))
           refine (HCT.out _).mono ?_;rintro e uu1 ⟨rfl, hb1⟩;cases s4 with
           | false =>
             go_wp2_with fail
             go_meet
             case rel => exact ⟨congrArg Value.bool HE.out, HG.out.bel hb1⟩
           | true =>
             go_wp2_with fail
             go_meet
             case rel => exact ⟨congrArg Value.bool HE.out, HG.out.bel hb1⟩
         case rest =>
          obtain ⟨rfl, hG⟩ := hcut;clear HG HCT HE;generalize wc = Wy4 at hG ⊢;have HG := hid hG;clear hG;go_upto_if 81 with fail
          go_cut [] from 7 (fun wx => ∃ (A5 : Option Addr) (n5 : Nat) (c5 : Nat) (E5 : Int) (G5 : Int) (g5 : List (Int × Int)), rdO old x k4 ⟨v0, (R1, N1), (B2, C2), (T3, U3), S3, ⟨K4, L4, Q4, Y4, V4, Z4⟩, ⟨[], 0, 0⟩, 0⟩ = ⟨v0, (R1, N1), (B2, C2), (T3, U3), S3, ⟨K4, L4, Q4, Y4, V4, Z4⟩, ⟨g5, E5, G5⟩, 0⟩ ∧ InvR W p #[.int .i64 v0, .int .i64 R1, .int .i64 N1, .int .i64 B2, .int .i64 C2, .int .i64 T3, .int .i64 U3, .int .i64 S3, .int .i64 K4, .int .i64 L4, .int .i64 Q4, .string Y4, .string V4, .int .i64 Z4, .slice A5 n5 c5, .int .i64 E5, .int .i64 G5, .int .i64 0] A5 n5 c5 g5 wx)
          case first =>
           as_aux_lemma =>
            cases t4 with
            | false =>
              go_wp2_with fail
              go_meet
              case rel => exact ⟨none, 0, 0, 0, 0, [], rdO_no (m := ⟨v0, (R1, N1), (B2, C2), (T3, U3), S3, ⟨K4, L4, Q4, Y4, V4, Z4⟩, ⟨[], 0, 0⟩, 0⟩) HT4.out, HG.out⟩
            | true =>
              have HI0 := HG;obtain ⟨x0, x1, x2, x3⟩ := blk4 (HX.out.bel HG.out.2.2.2);go_wp2_with fail
              refine (HAT.out _ HI0.out.2.2.2 k4).mono ?_;rintro e u1 ⟨D, d, rfl, hly, hb1⟩;have hI := HI0.out.bel hb1;obtain ⟨y, hy⟩ : ∃ y, atOf x k4 = y := ⟨_, rfl⟩
              rw [hy] at hly ⊢;have HLY := hid hly;have HYy := hid hy;have HI := hid hI;clear hb1 hI hly hy;clear x0 x1 x2 x3;go_wp2_with fail
              refine (refoldtake_any y D d S _ HLY.out (HSS.out _ HI.out.2.2.2)).mono ?_;rintro e u2 ⟨F, nf, cf, rfl, hrs, hb1, hnew⟩;obtain ⟨⟨gl, gs, gt⟩, ha⟩ : ∃ a, (oldTake y).getD zeroAt = a := ⟨_, rfl⟩
              rw [ha] at hrs ⊢;simp only at hrs ⊢;have hlt := HI.out.1.lt;have hI := (HI.out.bel hb1).swap hrs (fun g o e => by have := hnew g o e; omega);rw [← HYy.out] at ha;have HVa := hid ha;clear HI HLY HYy hb1 hrs hnew ha hlt;have HI := hid hI;clear hI;have hI := HI.out.bel (bel_alloc (Below.refl _ _) (.cells #[.slice F nf cf, .int .i64 gs, .int .i64 gt] 30));have hbx := Blk.new u2 30 #[.slice F nf cf, .int .i64 gs, .int .i64 gt];have hlt := HI.out.1.lt;obtain ⟨UB, hUB⟩ : ∃ v, u2.alloc (.cells #[.slice F nf cf, .int .i64 gs, .int .i64 gt] 30) = v := ⟨_, rfl⟩
              rw [hUB] at hI hbx;have HUB := hid hUB;clear hUB HI;have HI := hid hI;clear hI;have w0 := hbx.cell 0;have w1 := hbx.cell 1;have w2 := hbx.cell 2;simp at w0 w1 w2;clear hbx;go_upto_region 21 with fail
              rw [HUB.out];have c14 := HI.out.1.cell 14;have z14 := HI.out.1.soft 14;have c15 := HI.out.1.cell 15;have z15 := HI.out.1.soft 15;have c16 := HI.out.1.cell 16;have z16 := HI.out.1.soft 16;simp at c14 c15 c16;go_wp2_with fail
              go_meet
              case rel => exact ⟨F, nf, cf, gs, gt, gl, rdO_yes (m := ⟨v0, (R1, N1), (B2, C2), (T3, U3), S3, ⟨K4, L4, Q4, Y4, V4, Z4⟩, ⟨[], 0, 0⟩, 0⟩) HT4.out HVa.out, by simpa using (((HI.out.set HPM.out 14 (.slice F nf cf)).set HPM.out 15 (.int .i64 gs)).set HPM.out 16 (.int .i64 gt))⟩
          case rest =>
           obtain ⟨A5, n5, c5, E5, G5, g5, hq, hG⟩ := hcut;clear HG;generalize wc = X5 at hG ⊢;have HG := hid hG;have HQ5 := hid hq;clear hG hq;go_upto_region 22 with fail
           obtain ⟨s5, hs5⟩ : ∃ t, hAt ⟨v0, (R1, N1), (B2, C2), (T3, U3), S3, ⟨K4, L4, Q4, Y4, V4, Z4⟩, ⟨g5, E5, G5⟩, 0⟩ = t := ⟨_, rfl⟩
           have CT := fun w => hangs_any v0 R1 N1 B2 C2 T3 U3 S3 K4 L4 Q4 Y4 V4 Z4 A5 n5 c5 E5 G5 0 g5 w;rw [hs5] at CT;have HCT := hid CT;obtain ⟨t5, ht5⟩ : ∃ t, (s5 && !old) = t := ⟨_, rfl⟩
           have HE := hid ht5;have HT5 := hid (show (hAt ⟨v0, (R1, N1), (B2, C2), (T3, U3), S3, ⟨K4, L4, Q4, Y4, V4, Z4⟩, ⟨g5, E5, G5⟩, 0⟩ && !old) = t5 from by rw [hs5]; exact ht5);clear CT ht5 hs5;go_cut [96] from 7 (fun cv wx => cv = .bool t5 ∧ InvR W p #[.int .i64 v0, .int .i64 R1, .int .i64 N1, .int .i64 B2, .int .i64 C2, .int .i64 T3, .int .i64 U3, .int .i64 S3, .int .i64 K4, .int .i64 L4, .int .i64 Q4, .string Y4, .string V4, .int .i64 Z4, .slice A5 n5 c5, .int .i64 E5, .int .i64 G5, .int .i64 0] A5 n5 c5 g5 wx)
           case first =>
            as_aux_lemma =>
             have hbk : Blk X5 p 32 #[.int .i64 v0, .int .i64 R1, .int .i64 N1, .int .i64 B2, .int .i64 C2, .int .i64 T3, .int .i64 U3, .int .i64 S3, .int .i64 K4, .int .i64 L4, .int .i64 Q4, .string Y4, .string V4, .int .i64 Z4, .slice A5 n5 c5, .int .i64 E5, .int .i64 G5, .int .i64 0] := HG.out.1;have HBK := hid hbk;clear hbk;go_wp2_with (with_reducible refine wpList_load_blk_w 32 _ rfl p 32 _ _ ?_ ?_ HBK.out Tryz.underlying32 ?_ ?_ ?_; (focus kernel_rfl); (focus kernel_rfl); (focus rfl); (focus kernel_rfl))
             refine (HCT.out _).mono ?_;rintro e uu1 ⟨rfl, hb1⟩;cases s5 with
             | false =>
               go_wp2_with fail
               go_meet
               case rel => exact ⟨congrArg Value.bool HE.out, HG.out.bel hb1⟩
             | true =>
               go_wp2_with fail
               go_meet
               case rel => exact ⟨congrArg Value.bool HE.out, HG.out.bel hb1⟩
           case rest =>
            obtain ⟨rfl, hG⟩ := hcut;clear HG HCT HE;generalize wc = Wy5 at hG ⊢;have HG := hid hG;clear hG;go_upto_if 96 with fail
            go_cut [] from 7 (fun wx => ∃ (A6 : Option Addr) (n6 : Nat) (c6 : Nat) (E6 : Int) (G6 : Int) (g6 : List (Int × Int)), rdN old x k4 ⟨v0, (R1, N1), (B2, C2), (T3, U3), S3, ⟨K4, L4, Q4, Y4, V4, Z4⟩, ⟨g5, E5, G5⟩, 0⟩ = ⟨v0, (R1, N1), (B2, C2), (T3, U3), S3, ⟨K4, L4, Q4, Y4, V4, Z4⟩, ⟨g6, E6, G6⟩, 0⟩ ∧ InvR W p #[.int .i64 v0, .int .i64 R1, .int .i64 N1, .int .i64 B2, .int .i64 C2, .int .i64 T3, .int .i64 U3, .int .i64 S3, .int .i64 K4, .int .i64 L4, .int .i64 Q4, .string Y4, .string V4, .int .i64 Z4, .slice A6 n6 c6, .int .i64 E6, .int .i64 G6, .int .i64 0] A6 n6 c6 g6 wx)
            case first =>
             as_aux_lemma =>
              cases t5 with
              | false =>
                go_wp2_with fail
                go_meet
                case rel => exact ⟨A5, n5, c5, E5, G5, g5, rdN_no (m := ⟨v0, (R1, N1), (B2, C2), (T3, U3), S3, ⟨K4, L4, Q4, Y4, V4, Z4⟩, ⟨g5, E5, G5⟩, 0⟩) HT5.out, HG.out⟩
              | true =>
                have HI0 := HG;obtain ⟨x0, x1, x2, x3⟩ := blk4 (HX.out.bel HG.out.2.2.2);go_wp2_with fail
                refine (HAT.out _ HI0.out.2.2.2 k4).mono ?_;rintro e u1 ⟨D, d, rfl, hly, hb1⟩;have hI := HI0.out.bel hb1;obtain ⟨y, hy⟩ : ∃ y, atOf x k4 = y := ⟨_, rfl⟩
                rw [hy] at hly ⊢;have HLY := hid hly;have HYy := hid hy;have HI := hid hI;clear hb1 hI hly hy;clear x0 x1 x2 x3;go_wp2_with fail
                refine (refatttake_any y D d S _ HLY.out (HSS.out _ HI.out.2.2.2)).mono ?_;rintro e u2 ⟨F, nf, cf, rfl, hrs, hb1, hnew⟩;obtain ⟨⟨gl, gs, gt⟩, ha⟩ : ∃ a, (attTake y).getD zeroAt = a := ⟨_, rfl⟩
                rw [ha] at hrs ⊢;simp only at hrs ⊢;have hlt := HI.out.1.lt;have hI := (HI.out.bel hb1).swap hrs (fun g o e => by have := hnew g o e; omega);rw [← HYy.out] at ha;have HVa := hid ha;clear HI HLY HYy hb1 hrs hnew ha hlt;have HI := hid hI;clear hI;have hI := HI.out.bel (bel_alloc (Below.refl _ _) (.cells #[.slice F nf cf, .int .i64 gs, .int .i64 gt] 30));have hbx := Blk.new u2 30 #[.slice F nf cf, .int .i64 gs, .int .i64 gt];have hlt := HI.out.1.lt;obtain ⟨UB, hUB⟩ : ∃ v, u2.alloc (.cells #[.slice F nf cf, .int .i64 gs, .int .i64 gt] 30) = v := ⟨_, rfl⟩
                rw [hUB] at hI hbx;have HUB := hid hUB;clear hUB HI;have HI := hid hI;clear hI;have w0 := hbx.cell 0;have w1 := hbx.cell 1;have w2 := hbx.cell 2;simp at w0 w1 w2;clear hbx;go_upto_region 24 with fail
                rw [HUB.out];have c14 := HI.out.1.cell 14;have z14 := HI.out.1.soft 14;have c15 := HI.out.1.cell 15;have z15 := HI.out.1.soft 15;have c16 := HI.out.1.cell 16;have z16 := HI.out.1.soft 16;simp at c14 c15 c16;go_wp2_with fail
                go_meet
                case rel => exact ⟨F, nf, cf, gs, gt, gl, rdN_yes (m := ⟨v0, (R1, N1), (B2, C2), (T3, U3), S3, ⟨K4, L4, Q4, Y4, V4, Z4⟩, ⟨g5, E5, G5⟩, 0⟩) HT5.out HVa.out, by simpa using (((HI.out.set HPM.out 14 (.slice F nf cf)).set HPM.out 15 (.int .i64 gs)).set HPM.out 16 (.int .i64 gt))⟩
            case rest =>
             obtain ⟨A6, n6, c6, E6, G6, g6, hq, hG⟩ := hcut;clear HG;generalize wc = X6 at hG ⊢;have HG := hid hG;have HQ6 := hid hq;clear hG hq;go_upto_region 25 with fail
             obtain ⟨t6, ht6⟩ : ∃ t, (v0 == 9) = t := ⟨_, rfl⟩
             have HT6 := hid ht6;go_cut [108] from 7 (fun cv wx => cv = .bool t6 ∧ InvR W p #[.int .i64 v0, .int .i64 R1, .int .i64 N1, .int .i64 B2, .int .i64 C2, .int .i64 T3, .int .i64 U3, .int .i64 S3, .int .i64 K4, .int .i64 L4, .int .i64 Q4, .string Y4, .string V4, .int .i64 Z4, .slice A6 n6 c6, .int .i64 E6, .int .i64 G6, .int .i64 0] A6 n6 c6 g6 wx)
             case first =>
              as_aux_lemma =>
               have c0 := HG.out.1.cell 0;simp at c0;go_wp2_with fail
               go_meet
               case rel => exact ⟨rfl, HG.out⟩
             case rest =>
              obtain ⟨rfl, hG⟩ := hcut;clear HG ht6;generalize wc = Wy6 at hG ⊢;have HG := hid hG;clear hG;go_upto_if 108 with fail
              go_cut [] from 7 (fun wx => ∃ (W7 : Int), rd6 x ⟨v0, (R1, N1), (B2, C2), (T3, U3), S3, ⟨K4, L4, Q4, Y4, V4, Z4⟩, ⟨g6, E6, G6⟩, 0⟩ = ⟨v0, (R1, N1), (B2, C2), (T3, U3), S3, ⟨K4, L4, Q4, Y4, V4, Z4⟩, ⟨g6, E6, G6⟩, W7⟩ ∧ InvR W p #[.int .i64 v0, .int .i64 R1, .int .i64 N1, .int .i64 B2, .int .i64 C2, .int .i64 T3, .int .i64 U3, .int .i64 S3, .int .i64 K4, .int .i64 L4, .int .i64 Q4, .string Y4, .string V4, .int .i64 Z4, .slice A6 n6 c6, .int .i64 E6, .int .i64 G6, .int .i64 W7] A6 n6 c6 g6 wx)
              case first =>
               as_aux_lemma =>
                cases t6 with
                | false =>
                  go_wp2_with fail
                  go_meet
                  case rel => exact ⟨0, rd6_no (m := ⟨v0, (R1, N1), (B2, C2), (T3, U3), S3, ⟨K4, L4, Q4, Y4, V4, Z4⟩, ⟨g6, E6, G6⟩, 0⟩) HT6.out, HG.out⟩
                | true =>
                  have HI0 := HG;obtain ⟨x0, x1, x2, x3⟩ := blk4 (HX.out.bel HG.out.2.2.2);go_wp2_with fail
                  refine (HAT.out _ HI0.out.2.2.2 1).mono ?_;rintro e u1a ⟨D, d, rfl, hly, hb1⟩;have hI := HI0.out.bel hb1;obtain ⟨y, hy⟩ : ∃ y, atOf x 1 = y := ⟨_, rfl⟩
                  rw [hy] at hly ⊢;have HLY := hid hly;have HYy := hid hy;have HI := hid hI;clear hb1 hI hly hy;go_wp2_with fail
                  refine (Cw.refint_any y.kind y.num y.str D y.kids.length d _).mono ?_;rintro e u1 ⟨rfl, hb1⟩;obtain ⟨v1, hv1⟩ : ∃ v, Cmd.cap y.num = v := ⟨_, rfl⟩
                  rw [hv1];rw [← HYy.out] at hv1;have HVv1 := hid hv1;have hI := HI.out.bel hb1;clear HI HLY HYy hv1 hb1;have HI := hid hI;clear hI;clear x0 x1 x2 x3;have c17 := HI.out.1.cell 17;have z17 := HI.out.1.soft 17;simp at c17;go_wp2_with fail
                  go_meet
                  case rel => exact ⟨v1, rd6_yes (m := ⟨v0, (R1, N1), (B2, C2), (T3, U3), S3, ⟨K4, L4, Q4, Y4, V4, Z4⟩, ⟨g6, E6, G6⟩, 0⟩) HT6.out HVv1.out, by simpa using (HI.out.set HPM.out 17 (.int .i64 v1))⟩
              case rest =>
               obtain ⟨W7, hq, hG⟩ := hcut;clear HG;generalize wc = X7 at hG ⊢;have HG := hid hG;have HQ7 := hid hq;clear hG hq;go_upto_region 27 with fail
               have hz9 : Blk X7 (w.heap.size + 1) 32 #[.int .i64 0, .int .i64 0, .int .i64 0, .int .i64 0, .int .i64 0, .int .i64 0, .int .i64 0, .int .i64 0, .int .i64 0, .int .i64 0, .int .i64 0, .string ⟨#[]⟩, .string ⟨#[]⟩, .int .i64 0, .slice none 0 0, .int .i64 0, .int .i64 0, .int .i64 0] := HZ.out.bel HG.out.2.2.2;have HZ9 := hid hz9;have hbk : Blk X7 p 32 #[.int .i64 v0, .int .i64 R1, .int .i64 N1, .int .i64 B2, .int .i64 C2, .int .i64 T3, .int .i64 U3, .int .i64 S3, .int .i64 K4, .int .i64 L4, .int .i64 Q4, .string Y4, .string V4, .int .i64 Z4, .slice A6 n6 c6, .int .i64 E6, .int .i64 G6, .int .i64 W7] := HG.out.1;have HBK := hid hbk;clear hz9 hbk;go_wp2_with (first | (with_reducible refine wpList_load_blk_w 32 _ rfl p 32 _ _ ?_ ?_ HBK.out Tryz.underlying32 ?_ ?_ ?_; (focus kernel_rfl); (focus kernel_rfl); (focus rfl); (focus kernel_rfl)) | ((with_reducible refine wpList_store_blk rfl 32 _ _ rfl (w.heap.size + 1) 32 _ #[.int .i64 v0, .int .i64 R1, .int .i64 N1, .int .i64 B2, .int .i64 C2, .int .i64 T3, .int .i64 U3, .int .i64 S3, .int .i64 K4, .int .i64 L4, .int .i64 Q4, .string Y4, .string V4, .int .i64 Z4, .slice A6 n6 c6, .int .i64 E6, .int .i64 G6, .int .i64 W7] ?_ ?_ HZ9.out ?_ ?_ ?_ ?_); (focus rfl); (focus rfl); (focus kernel_rfl); (focus rfl); (focus kernel_rfl); intro w9 hblk2 hgr))
               refine bodyPost_ret (v := .agg _) (results_blk Tryz.results34 _ _ (w.heap.size + 1) 32 _ _ rfl hblk2 Tryz.underlying32 rfl (by kernel_rfl)) rfl ?_;have hrd : readMg tk x = ⟨v0, (R1, N1), (B2, C2), (T3, U3), S3, ⟨K4, L4, Q4, Y4, V4, Z4⟩, ⟨g6, E6, G6⟩, W7⟩ := read_steps tk x HM0.out HQ1.out.1.symm HQ1.out.2.symm HQ2.out.1.symm HQ2.out.2.symm HQ3.out.1.symm HQ3.out.2.symm HQ4.out.1.symm HQ4.out.2.symm (by rw [← HTK.out]; exact rd5_both HQ5.out HQ6.out) HQ7.out.symm;rw [hrd];obtain ⟨_, hr9, hn9, hb9⟩ := HG.out;have hpm := HPM.out;have hsw := HSW.out;have hbw : Below w.heap.size w X7 := HB.out.trans (hb9.mono HB.out.size);exact ⟨_, _, _, rfl, hr9.grown hgr (fun g o e h => by injection h with h; have := hn9 g o e; omega), fun g o e => by have := hn9 g o e; omega, hbw.trans (gr_below hgr hbw.size fun b hb => by injection hb with hb; omega)⟩
theorem refread_any (x : It) (A : Option Addr) (c : Nat) (S : Nat → Prop) (w : World) (hl : Lies w S x A c) (hS : ∀ b, S b → b < w.heap.size) (hks : ∀ i, (Cmd.kid (atOf x i) 3).str.size ≤ 1073741824) :
 Calls Tryz.prog 34 #[.agg #[.int .i64 x.kind, .int .u64 (x.num : Int), .string x.str, .slice A x.kids.length c], .bool false] w (ReadsMg w (readMg attTake x)) :=
 refreadb_any false x A c S w hl hS hks
theorem refreadold_any (x : It) (A : Option Addr) (c : Nat) (S : Nat → Prop) (w : World) (hl : Lies w S x A c) (hS : ∀ b, S b → b < w.heap.size) (hks : ∀ i, (Cmd.kid (atOf x i) 3).str.size ≤ 1073741824) :
 Calls Tryz.prog 34 #[.agg #[.int .i64 x.kind, .int .u64 (x.num : Int), .string x.str, .slice A x.kids.length c], .bool true] w (ReadsMg w (readMg oldTake x)) :=
 refreadb_any true x A c S w hl hS hks
end Go.Proofs.YthlhchaoedcdbaaGreatDoor.Mg
