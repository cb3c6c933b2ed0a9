/-
  Texts of earlier layers, as one.
-/
import Derived.Test.YthlhchaoedcdbaaDoorMsgBase
import Derived.Test.YthlhchaoedcdbaaDoorMsgPl
import Derived.Test.YthlhchaoedcdbaaDoorMsgQ
import Derived.Test.YthlhchaoedcdbaaDoorRAttT
import Derived.Test.YthlhchaoedcdbaaDoorRCmdT
import Derived.Test.YthlhchaoedcdbaaDoorRBalRT
import Derived.Deep.Cut
import Derived.Deep.RegionHeld
/- The document's Read of an item, step by step. -/
namespace Go.Proofs.YthlhchaoedcdbaaDoor.Mg
open Go.RowKit Mem Ids Att Cod Rk

/-- Read, step by step. -/
def rd1 (x : It) (m : Mg) : Mg := if hId m = true then { m with id := (Cmd.cap (atOf x 1).num, Cmd.cap (atOf x 2).num) } else m
def rk1 (m : Mg) : Nat := if hId m = true then 3 else 1
def rd2 (x : It) (k : Nat) (m : Mg) : Mg := if hBal m = true then { m with bl := (Bal.balTake (atOf x k)).getD (0, 0) } else m
def rk2 (m : Mg) (k : Nat) : Nat := if hBal m = true then k + 1 else k
def rd3 (x : It) (k : Nat) (m : Mg) : Mg := if m.kd = 7 then { m with st := Cmd.cap (atOf x k).num, tk := (Bal.balTake (atOf x (k + 1))).getD (0, 0) } else m
def rk3 (m : Mg) (k : Nat) : Nat := if m.kd = 7 then k + 2 else k
def rd4 (x : It) (k : Nat) (m : Mg) : Mg := if hCmd m = true then { m with cm := (Cmd.takeOf (atOf x k)).getD Cmd.zeroCm } else m
def rk4 (m : Mg) (k : Nat) : Nat := if hCmd m = true then k + 1 else k
noncomputable def rd5 (T : It → Option At) (x : It) (k : Nat) (m : Mg) : Mg := if hAt m = true then { m with at_ := (T (atOf x k)).getD zeroAt } else m
def rd6 (x : It) (m : Mg) : Mg := if m.kd = 9 then { m with vn := Cmd.cap (atOf x 1).num } else m
def mg0 (k : Int) : Mg := ⟨k, (0, 0), (0, 0), (0, 0), 0, Cmd.zeroCm, zeroAt, 0⟩
theorem kd1 (x : It) (m : Mg) : (rd1 x m).kd = m.kd := by unfold rd1; split <;> rfl
theorem kd2 (x : It) (k : Nat) (m : Mg) : (rd2 x k m).kd = m.kd := by unfold rd2; split <;> rfl
theorem read_steps (T : It → Option At) (x : It) {m0 m1 m2 m3 m4 m5 m6 : Mg} {k1 k2 k3 k4 : Nat} (h0 : m0 = mg0 (Cmd.cap (atOf x 0).num)) (h1 : m1 = rd1 x m0) (e1 : k1 = rk1 m0) (h2 : m2 = rd2 x k1 m1) (e2 : k2 = rk2 m1 k1) (h3 : m3 = rd3 x k2 m2) (e3 : k3 = rk3 m2 k2) (h4 : m4 = rd4 x k3 m3) (e4 : k4 = rk4 m3 k3) (h5 : m5 = rd5 T x k4 m4) (h6 : m6 = rd6 x m5) : readMg T x = m6 := by
  have hf : readFront x (Cmd.cap (atOf x 0).num) = (m3, k3) := by
    have hk : m2.kd = Cmd.cap (atOf x 0).num := by rw [h2, kd2, h1, kd1, h0]; rfl
    have e : readFront x (Cmd.cap (atOf x 0).num) = if Cmd.cap (atOf x 0).num = 7 then ({ rd2 x (rk1 m0) (rd1 x m0) with st := Cmd.cap (atOf x (rk2 (rd1 x m0) (rk1 m0))).num, tk := (Bal.balTake (atOf x (rk2 (rd1 x m0) (rk1 m0) + 1))).getD (0, 0) }, rk2 (rd1 x m0) (rk1 m0) + 2) else (rd2 x (rk1 m0) (rd1 x m0), rk2 (rd1 x m0) (rk1 m0)) := by rw [h0]; rfl
    rw [e, ← h1, ← e1, ← h2, ← e2, h3, e3]
    unfold rd3 rk3
    by_cases h7 : Cmd.cap (atOf x 0).num = 7
    · rw [if_pos h7, if_pos (hk.trans h7), if_pos (hk.trans h7)]
    · rw [if_neg h7, if_neg (fun h => h7 (hk.symm.trans h)), if_neg (fun h => h7 (hk.symm.trans h))]
  unfold readMg
  rw [hf]
  show rd6 x (rd5 T x (rk4 m3 k3) (rd4 x k3 m3)) = m6
  rw [← h4, ← e4, ← h5, ← h6]
/-- What holds between the steps. -/
def InvR (W : World) (M : Nat) (C : Array Value) (V : Option Addr) (nv cv : Nat) (dp : List (Int × Int)) (wx : World) : Prop :=
  Blk wx M 32 C ∧ Rs wx V nv cv dp ∧ (∀ g o, V = some ⟨g, o, none⟩ → M + 1 ≤ g) ∧ Below W.heap.size W wx
section
variable {W wx w' : World} {M : Nat} {C : Array Value} {V : Option Addr} {nv cv : Nat} {dp : List (Int × Int)}
theorem InvR.bel (h : InvR W M C V nv cv dp wx) (hb : Below wx.heap.size wx w') : InvR W M C V nv cv dp w' :=
  ⟨h.1.bel hb, h.2.1.below hb, h.2.2.1, h.2.2.2.trans (hb.mono h.2.2.2.size)⟩
theorem InvR.low (h : InvR W M C V nv cv dp wx) : Below W.heap.size W wx := h.2.2.2
theorem InvR.set (h : InvR W M C V nv cv dp wx) (hM : W.heap.size ≤ M) (i : Nat) (u : Value) : InvR W M (C.setIfInBounds i u) V nv cv dp (wx.setCell ⟨M, i, none⟩ u) := by
  have hg : wx.grownBy (wx.setCell ⟨M, i, none⟩ u) (some M) := gr_set (gr_refl wx (some M)) (.inl rfl) _
  exact ⟨h.1.put i u, h.2.1.grown hg (fun g o e k => by injection k with k; have := h.2.2.1 g o e; omega), h.2.2.1, h.2.2.2.setCell (p := ⟨M, i, none⟩) hM u⟩
theorem InvR.swap (h : InvR W M C V nv cv dp wx) {V' : Option Addr} {nv' cv' : Nat} {dp' : List (Int × Int)} (hr : Rs wx V' nv' cv' dp') (hn : ∀ g o, V' = some ⟨g, o, none⟩ → M + 1 ≤ g) : InvR W M C V' nv' cv' dp' wx :=
  ⟨h.1, hr, hn, h.2.2.2⟩
theorem InvR.drew (h : InvR W M C V nv cv dp wx) : InvR W M C V nv cv dp wx.drew := ⟨h.1.drew, h.2.1.drew, h.2.2.1, h.2.2.2.drew⟩
end
theorem rd1_no {x : It} {m : Mg} (h : hId m = false) : rd1 x m = m ∧ rk1 m = 1 := ⟨if_neg (by simp [h]), if_neg (by simp [h])⟩
theorem rd1_yes {x : It} {m : Mg} (h : hId m = true) {a b : Int} (ha : Cmd.cap (atOf x 1).num = a) (hb : Cmd.cap (atOf x 2).num = b) : rd1 x m = { m with id := (a, b) } ∧ rk1 m = 3 := by subst ha hb; exact ⟨if_pos h, if_pos h⟩
theorem rd2_no {x : It} {k : Nat} {m : Mg} (h : hBal m = false) : rd2 x k m = m ∧ rk2 m k = k := ⟨if_neg (by simp [h]), if_neg (by simp [h])⟩
theorem rd2_yes {x : It} {k : Nat} {m : Mg} (h : hBal m = true) {b : Int × Int} (hb : (Bal.balTake (atOf x k)).getD (0, 0) = b) : rd2 x k m = { m with bl := b } ∧ rk2 m k = k + 1 := by subst hb; exact ⟨if_pos h, if_pos h⟩
theorem rd3_no {x : It} {k : Nat} {m : Mg} (h : (m.kd == 7) = false) : rd3 x k m = m ∧ rk3 m k = k := ⟨if_neg (ne_of_beq_false h), if_neg (ne_of_beq_false h)⟩
theorem rd3_yes {x : It} {k : Nat} {m : Mg} (h : (m.kd == 7) = true) {s : Int} {b : Int × Int} (hs : Cmd.cap (atOf x k).num = s) (hb : (Bal.balTake (atOf x (k + 1))).getD (0, 0) = b) : rd3 x k m = { m with st := s, tk := b } ∧ rk3 m k = k + 2 := by subst hs hb; exact ⟨if_pos (eq_of_beq h), if_pos (eq_of_beq h)⟩
theorem rd4_no {x : It} {k : Nat} {m : Mg} (h : hCmd m = false) : rd4 x k m = m ∧ rk4 m k = k := ⟨if_neg (by simp [h]), if_neg (by simp [h])⟩
theorem rd4_yes {x : It} {k : Nat} {m : Mg} (h : hCmd m = true) {c : Cmd.Cm} (hc : (Cmd.takeOf (atOf x k)).getD Cmd.zeroCm = c) : rd4 x k m = { m with cm := c } ∧ rk4 m k = k + 1 := by subst hc; exact ⟨if_pos h, if_pos h⟩
theorem rd5_no {T : It → Option At} {x : It} {k : Nat} {m : Mg} (h : hAt m = false) : rd5 T x k m = m := if_neg (by simp [h])
theorem rd5_yes {T : It → Option At} {x : It} {k : Nat} {m : Mg} (h : hAt m = true) {a : At} (ha : (T (atOf x k)).getD zeroAt = a) : rd5 T x k m = { m with at_ := a } := by subst ha; exact if_pos h
theorem rd6_no {x : It} {m : Mg} (h : (m.kd == 9) = false) : rd6 x m = m := if_neg (ne_of_beq_false h)
theorem rd6_yes {x : It} {m : Mg} (h : (m.kd == 9) = true) {v : Int} (hv : Cmd.cap (atOf x 1).num = v) : rd6 x m = { m with vn := v } := by subst hv; exact if_pos (eq_of_beq h)
end Go.Proofs.YthlhchaoedcdbaaDoor.Mg
/- The document's Read of an item, in either form. -/
namespace Go.Proofs.YthlhchaoedcdbaaDoor.Mg
open Go.RowKit Mem Ids Att Cod Rk

noncomputable def rdO (old : Bool) (x : It) (k : Nat) (m : Mg) : Mg := if (hAt m && old) = true then { m with at_ := (oldTake (atOf x k)).getD zeroAt } else m
noncomputable def rdN (old : Bool) (x : It) (k : Nat) (m : Mg) : Mg := if (hAt m && !old) = true then { m with at_ := (attTake (atOf x k)).getD zeroAt } else m
theorem rdO_no {old : Bool} {x : It} {k : Nat} {m : Mg} (h : (hAt m && old) = false) : rdO old x k m = m := if_neg (by simp [h])
theorem rdO_yes {old : Bool} {x : It} {k : Nat} {m : Mg} (h : (hAt m && old) = true) {a : At} (ha : (oldTake (atOf x k)).getD zeroAt = a) : rdO old x k m = { m with at_ := a } := by subst ha; exact if_pos h
theorem rdN_no {old : Bool} {x : It} {k : Nat} {m : Mg} (h : (hAt m && !old) = false) : rdN old x k m = m := if_neg (by simp [h])
theorem rdN_yes {old : Bool} {x : It} {k : Nat} {m : Mg} (h : (hAt m && !old) = true) {a : At} (ha : (attTake (atOf x k)).getD zeroAt = a) : rdN old x k m = { m with at_ := a } := by subst ha; exact if_pos h
theorem rd5_both {old : Bool} {x : It} {k : Nat} {m0 m1 m2 : Mg} (h1 : rdO old x k m0 = m1) (h2 : rdN old x k m1 = m2) : m2 = rd5 (if old = true then oldTake else attTake) x k m0 := by
  subst h2 h1
  cases old
  · have e : rdO false x k m0 = m0 := if_neg (by simp)
    rw [e]
    unfold rdN rd5
    simp
  · have e : ∀ m, rdN true x k m = m := fun m => if_neg (by simp)
    rw [e]
    unfold rdO rd5
    simp
end Go.Proofs.YthlhchaoedcdbaaDoor.Mg
