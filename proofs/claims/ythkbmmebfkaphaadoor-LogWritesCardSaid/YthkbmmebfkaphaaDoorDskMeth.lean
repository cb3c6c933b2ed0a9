/-
  Texts of earlier layers, as one.
-/
import Derived.Test.YthkbmmebfkaphaaDoorDskApp
import Derived.Test.YthkbmmebfkaphaaDoorRBase
import Derived.Deep.Cut
/- The program's Append, Remove, Move. -/
namespace Go.Proofs.YthkbmmebfkaphaaDoor.Dsk
open Go.RowKit Mem Go.Maps

set_option maxRecDepth 20000 in
set_option maxHeartbeats 4000000 in
theorem dappend_any (p : Nat) (S : Nat → Prop) (d : Dk) (s : ByteArray) (BA : Option Addr) (bn bc : Nat) (bs : List Nat) (w : World) (h : DI w S p d) (hf : Fine d) (hr : Rd w BA bn bc (cs bs)) (ho : Outs S bn BA) (hsz : s.size ≤ 9223372036854775807) (hbn : bn ≤ 1099511627776) :
    Calls Tryd.prog 24 #[ptr p, .string s, .slice BA bn bc] w (Does DI p S (whole (doAppend s bs) d) w) := by
  have hlt := di_lt h
  have a0 := Blk.new w 25 #[.pointer (some ⟨p, 0, none⟩)]
  have hb1 := bel_alloc (Below.refl w.heap.size w) (.cells #[.pointer (some ⟨p, 0, none⟩)] 25)
  obtain ⟨w1, hw1⟩ : ∃ v, w.alloc (.cells #[.pointer (some ⟨p, 0, none⟩)] 25) = v := ⟨_, rfl⟩
  have z1 : w1.heap.size = w.heap.size + 1 := by rw [← hw1]; simp
  rw [hw1] at a0 hb1
  have a1 := Blk.new w1 9 #[.string s]
  have hb2 := bel_alloc (Below.refl w1.heap.size w1) (.cells #[.string s] 9)
  obtain ⟨w2, hw2⟩ : ∃ v, w1.alloc (.cells #[.string s] 9) = v := ⟨_, rfl⟩
  have z2 : w2.heap.size = w1.heap.size + 1 := by rw [← hw2]; simp
  rw [hw2] at a1 hb2
  have a2 := Blk.new w2 32 #[.slice BA bn bc]
  have hb3 := bel_alloc (Below.refl w2.heap.size w2) (.cells #[.slice BA bn bc] 32)
  obtain ⟨w3, hw3⟩ : ∃ v, w2.alloc (.cells #[.slice BA bn bc] 32) = v := ⟨_, rfl⟩
  have z3 : w3.heap.size = w2.heap.size + 1 := by rw [← hw3]; simp
  rw [hw3] at a2 hb3
  have a0' := ((a0.bel hb2).bel hb3)
  have a1' := (a1.bel hb3)
  have a2' := a2
  have hb : Below w.heap.size w w3 := ((hb1.trans (hb2.mono (by omega))).trans (hb3.mono (by omega)))
  have hcall := deed_append p S d (doAppend s bs) (.pointer (some ⟨w.heap.size, 0, none⟩)) (.pointer (some ⟨w1.heap.size, 0, none⟩)) (.pointer (some ⟨w2.heap.size, 0, none⟩)) w3 (di_below h hb) hf fun w4 hi hk => by
    obtain ⟨m, hs, ho4⟩ := hi
    have hsp := ho4.sp
    have nP : ∀ b, w.heap.size ≤ b → b ≠ p := fun b hb' e => by have := hlt p hsp; omega
    have nS : ∀ b, w.heap.size ≤ b → ¬ S b := fun b hb' hS => by have := hlt b hS; omega
    have hk2 : Keeps S w w4 := (Keeps.ofBelow hb).trans (Keeps.trans hk (Keeps.refl _ w4) (Grew.refl _ _)) (fun k hk' => .inl (by rw [show k = p from hk']; exact hsp))
    have hrd := (frame_rd BA bn bc (cs bs)).go ⟨hr, ho⟩ hk2 (Grew.refl S w)
    exact append1_any p m w.heap.size w1.heap.size w2.heap.size S (deed d) hs s BA bn bc bs w4 ho4 hf.deed hsz hbn ((hk.block _ (by omega) (nP _ (by omega))).trans a0') ((hk.block _ (by omega) (nP _ (by omega))).trans a1') ((hk.block _ (by omega) (nP _ (by omega))).trans a2') (nS _ (by omega)) (nS _ (by omega)) (nS _ (by omega)) hrd.1 hrd.2
  rw [z2, z1] at hcall
  have HC := Lib.hid hcall
  have HB := Lib.hid hb
  have HW1 := Lib.hid hw1
  have HW2 := Lib.hid hw2
  have HW3 := Lib.hid hw3
  have q0 := a0'.cell 0
  have q1 := a1'.cell 0
  have q2 := a2'.cell 0
  simp only [List.getElem?_toArray, List.getElem?_cons_zero] at q0 q1 q2
  rw [z1] at q1
  rw [z2, z1] at q2
  clear hcall hb h hlt a0 a0' hb1 hw1 z1 a1 a1' hb2 hw2 z2 a2 a2' hb3 hw3 z3
  unfold ptr
  go_enter Tryd.func24, Tryd.ntmps24
  go_upto_region 1 with fail
  rw [HW1.out, HW2.out, HW3.out]
  go_wp2_with fail
  with_reducible refine HC.out.mono ?_
  rintro e u hd
  obtain ⟨rfl, hst⟩ := hd.from (Keeps.ofBelow (S := S) HB.out) (fun k hk => hk)
  have HST := Lib.hid hst
  clear hst hd HC
  go_wp2_with fail
  go_ret
  exact ⟨rfl, HST.out⟩
set_option maxRecDepth 20000 in
set_option maxHeartbeats 4000000 in
theorem dremove_any (p : Nat) (S : Nat → Prop) (d : Dk) (s : ByteArray) (w : World) (h : DI w S p d) (hf : Fine d) (hsz : s.size ≤ 9223372036854775807) :
    Calls Tryd.prog 47 #[ptr p, .string s] w (Does DI p S (whole (doRemove s) d) w) := by
  have hlt := di_lt h
  have a0 := Blk.new w 25 #[.pointer (some ⟨p, 0, none⟩)]
  have hb1 := bel_alloc (Below.refl w.heap.size w) (.cells #[.pointer (some ⟨p, 0, none⟩)] 25)
  obtain ⟨w1, hw1⟩ : ∃ v, w.alloc (.cells #[.pointer (some ⟨p, 0, none⟩)] 25) = v := ⟨_, rfl⟩
  have z1 : w1.heap.size = w.heap.size + 1 := by rw [← hw1]; simp
  rw [hw1] at a0 hb1
  have a1 := Blk.new w1 9 #[.string s]
  have hb2 := bel_alloc (Below.refl w1.heap.size w1) (.cells #[.string s] 9)
  obtain ⟨w2, hw2⟩ : ∃ v, w1.alloc (.cells #[.string s] 9) = v := ⟨_, rfl⟩
  have z2 : w2.heap.size = w1.heap.size + 1 := by rw [← hw2]; simp
  rw [hw2] at a1 hb2
  have a0' := (a0.bel hb2)
  have a1' := a1
  have hb : Below w.heap.size w w2 := (hb1.trans (hb2.mono (by omega)))
  have hcall := on_remove p S d (doRemove s) s (.pointer (some ⟨w.heap.size, 0, none⟩)) (.pointer (some ⟨w1.heap.size, 0, none⟩)) w2 (di_below h hb) hf hsz (fun d hn => by unfold doRemove; rw [hn]) fun m hs i x w4 ho4 hx hnm hp hkp hz4 => by
    have nS : ∀ b, w.heap.size ≤ b → ¬ S b := fun b hb' hS => by have := hlt b hS; omega
    exact remove1_any p m i w.heap.size w1.heap.size S (deed d) hs x s w4 ho4 hsz hp ((hkp _ (by omega) (nS _ (by omega))).trans a0') ((hkp _ (by omega) (nS _ (by omega))).trans a1') (nS _ (by omega)) (nS _ (by omega))
  rw [z1] at hcall
  have HC := Lib.hid hcall
  have HB := Lib.hid hb
  have HW1 := Lib.hid hw1
  have HW2 := Lib.hid hw2
  have q0 := a0'.cell 0
  have q1 := a1'.cell 0
  simp only [List.getElem?_toArray, List.getElem?_cons_zero] at q0 q1
  rw [z1] at q1
  clear hcall hb h hlt a0 a0' hb1 hw1 z1 a1 a1' hb2 hw2 z2
  unfold ptr
  go_enter Tryd.func47, Tryd.ntmps47
  go_upto_region 1 with fail
  rw [HW1.out, HW2.out]
  go_wp2_with fail
  with_reducible refine HC.out.mono ?_
  rintro e u hd
  obtain ⟨rfl, hst⟩ := hd.from (Keeps.ofBelow (S := S) HB.out) (fun k hk => hk)
  have HST := Lib.hid hst
  clear hst hd HC
  go_wp2_with fail
  go_ret
  exact ⟨rfl, HST.out⟩
set_option maxRecDepth 20000 in
set_option maxHeartbeats 4000000 in
theorem dmove_any (p : Nat) (S : Nat → Prop) (d : Dk) (s t : ByteArray) (w : World) (h : DI w S p d) (hf : Fine d) (hsz : s.size ≤ 9223372036854775807) (htz : t.size ≤ 9223372036854775807) :
    Calls Tryd.prog 48 #[ptr p, .string s, .string t] w (Does DI p S (whole (doMove s t) d) w) := by
  have hlt := di_lt h
  have a0 := Blk.new w 25 #[.pointer (some ⟨p, 0, none⟩)]
  have hb1 := bel_alloc (Below.refl w.heap.size w) (.cells #[.pointer (some ⟨p, 0, none⟩)] 25)
  obtain ⟨w1, hw1⟩ : ∃ v, w.alloc (.cells #[.pointer (some ⟨p, 0, none⟩)] 25) = v := ⟨_, rfl⟩
  have z1 : w1.heap.size = w.heap.size + 1 := by rw [← hw1]; simp
  rw [hw1] at a0 hb1
  have a1 := Blk.new w1 9 #[.string s]
  have hb2 := bel_alloc (Below.refl w1.heap.size w1) (.cells #[.string s] 9)
  obtain ⟨w2, hw2⟩ : ∃ v, w1.alloc (.cells #[.string s] 9) = v := ⟨_, rfl⟩
  have z2 : w2.heap.size = w1.heap.size + 1 := by rw [← hw2]; simp
  rw [hw2] at a1 hb2
  have a2 := Blk.new w2 9 #[.string t]
  have hb3 := bel_alloc (Below.refl w2.heap.size w2) (.cells #[.string t] 9)
  obtain ⟨w3, hw3⟩ : ∃ v, w2.alloc (.cells #[.string t] 9) = v := ⟨_, rfl⟩
  have z3 : w3.heap.size = w2.heap.size + 1 := by rw [← hw3]; simp
  rw [hw3] at a2 hb3
  have a0' := ((a0.bel hb2).bel hb3)
  have a1' := (a1.bel hb3)
  have a2' := a2
  have hb : Below w.heap.size w w3 := ((hb1.trans (hb2.mono (by omega))).trans (hb3.mono (by omega)))
  have hcall := on_move p S d (doMove s t) s (.pointer (some ⟨w2.heap.size, 0, none⟩)) (.pointer (some ⟨w.heap.size, 0, none⟩)) (.pointer (some ⟨w1.heap.size, 0, none⟩)) w3 (di_below h hb) hf hsz (fun d hn => by unfold doMove; rw [hn]) fun m hs i x w4 ho4 hx hnm hp hkp hz4 => by
    have nS : ∀ b, w.heap.size ≤ b → ¬ S b := fun b hb' hS => by have := hlt b hS; omega
    exact move1_any p m i w2.heap.size w.heap.size w1.heap.size S (deed d) hs x s t w4 ho4 (by rw [ho4.length]; exact hf.deed.length) hsz htz hx hnm hp ((hkp _ (by omega) (nS _ (by omega))).trans a2') ((hkp _ (by omega) (nS _ (by omega))).trans a0') ((hkp _ (by omega) (nS _ (by omega))).trans a1') (nS _ (by omega)) (nS _ (by omega)) (nS _ (by omega))
  rw [z2, z1] at hcall
  have HC := Lib.hid hcall
  have HB := Lib.hid hb
  have HW1 := Lib.hid hw1
  have HW2 := Lib.hid hw2
  have HW3 := Lib.hid hw3
  have q0 := a0'.cell 0
  have q1 := a1'.cell 0
  have q2 := a2'.cell 0
  simp only [List.getElem?_toArray, List.getElem?_cons_zero] at q0 q1 q2
  rw [z1] at q1
  rw [z2, z1] at q2
  clear hcall hb h hlt a0 a0' hb1 hw1 z1 a1 a1' hb2 hw2 z2 a2 a2' hb3 hw3 z3
  unfold ptr
  go_enter Tryd.func48, Tryd.ntmps48
  go_upto_region 1 with fail
  rw [HW1.out, HW2.out, HW3.out]
  go_wp2_with fail
  with_reducible refine HC.out.mono ?_
  rintro e u hd
  obtain ⟨rfl, hst⟩ := hd.from (Keeps.ofBelow (S := S) HB.out) (fun k hk => hk)
  have HST := Lib.hid hst
  clear hst hd HC
  go_wp2_with fail
  go_ret
  exact ⟨rfl, HST.out⟩
end Go.Proofs.YthkbmmebfkaphaaDoor.Dsk
