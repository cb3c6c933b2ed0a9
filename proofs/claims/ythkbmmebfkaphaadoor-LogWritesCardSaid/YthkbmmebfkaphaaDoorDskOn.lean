/-
  Texts of earlier layers, as one.
-/
import Derived.Test.YthkbmmebfkaphaaDoorDskDeed
import Derived.Test.YthkbmmebfkaphaaDoorRBase
import Derived.Deep.RegionHeld
import Derived.Deep.Cut
import Derived.Laws.Pointers
/- The program's deedOn: a deed on a file that there must be. -/
namespace Go.Proofs.YthkbmmebfkaphaaDoor.Dsk
open Go.RowKit Mem Go.Maps

set_option maxRecDepth 20000 in
set_option maxHeartbeats 4000000 in
theorem on1_sync (p : Nat) (S : Nat → Prop) (d : Dk) (f : Dk → Nat × Dk) (s : ByteArray) (b0 b1 b2 : Nat) (w : World) (h : DI w S p d) (hs : s.size ≤ 9223372036854775807)
    (k0 : Blk w b0 25 #[.pointer (some ⟨p, 0, none⟩)]) (k1 : Blk w b1 9 #[.string s]) (k2 : Blk w b2 75 #[.func (.func 44) #[] #[]])
    (hnone : place d.fs s = none → f d = (8, d))
    (hdo : ∀ m hs i x w1, Own w1 S p m d hs → hs[i]? = some x → x.f.nm = s → place d.fs s = some i → Below w.heap.size w w1 → Calls Tryd.prog 44 #[.pointer (some ⟨x.b, 0, none⟩)] w1 (Does DI p S (f d) w1)) :
    Calls Tryd.prog 55 #[.pointer (some ⟨b0, 0, none⟩), .pointer (some ⟨b1, 0, none⟩), .pointer (some ⟨b2, 0, none⟩)] w (Does DI p S (f d) w) := by
  obtain ⟨m, hl, ho⟩ := h
  have c0 := ho.cells.1
  have q0 := k0.cell 0
  have q1 := k1.cell 0
  have q2 := k2.cell 0
  simp only [List.getElem?_toArray, List.getElem?_cons_zero] at q0 q1 q2
  have hfind := fun (q : Nat) => (ho.below (below_drewN (Below.refl w.heap.size w) q)).find (s := s) (by unfold maxLen; omega)
  obtain ⟨o, hlook⟩ : ∃ o, look hl s = o := ⟨_, rfl⟩
  have hlp := look_place hl s
  rw [ho.fs] at hlp
  rw [hlook] at hlp hfind
  have HO := Lib.hid ho
  have HN := Lib.hid hnone
  have HDO := Lib.hid hdo
  have HLP := Lib.hid hlp
  clear ho hnone hdo hlp hlook k0 k1 k2
  go_enter Tryd.func55, Tryd.ntmps55
  cases o with
  | none =>
    unfold pv at hfind
    have hres : place d.fs s = none := by
      rcases HLP.out with ⟨_, h⟩ | ⟨i, x, h, _⟩
      · exact h
      · cases h
    rw [HN.out hres]
    clear HLP HDO hres
    go_upto_region 1 with fail
    go_quiet (fail)
    go_wp2_with fail
    go_ret
    exact Does.stay (di_below ⟨m, hl, HO.out⟩ (below_drewN (Below.refl w.heap.size w) nq)) (Keeps.ofBelow (below_drewN (Below.refl w.heap.size w) nq))
  | some x =>
    unfold pv at hfind
    obtain ⟨i, hres, hi, hnm⟩ : ∃ i, place d.fs s = some i ∧ hl[i]? = some x ∧ x.f.nm = s := by
      rcases HLP.out with ⟨h, _⟩ | ⟨i, y, h, h1, h2, h3⟩
      · cases h
      · injection h with h
        subst h
        exact ⟨i, h1, h2, h3⟩
    have HC := Lib.hid (fun (q : Nat) => HDO.out m hl i x (w.drewN q) (HO.out.below (below_drewN (Below.refl w.heap.size w) q)) hi hnm hres (below_drewN (Below.refl w.heap.size w) q))
    clear HLP HDO hres hi hnm HN
    go_upto_region 1 with fail
    go_quiet (fail)
    go_wp2_with fail
    refine (HC.out nq).mono ?_
    rintro e u hd
    obtain ⟨rfl, hst⟩ := hd.from (Keeps.ofBelow (S := S) (below_drewN (Below.refl w.heap.size w) nq)) (fun k hk => hk)
    have HST := Lib.hid hst
    clear hst hd HC
    go_wp2_with fail
    go_ret
    exact ⟨rfl, HST.out⟩
set_option maxRecDepth 20000 in
set_option maxHeartbeats 4000000 in
theorem on_sync (p : Nat) (S : Nat → Prop) (d : Dk) (f : Dk → Nat × Dk) (s : ByteArray) (w : World) (h : DI w S p d) (hf : Fine d) (hs : s.size ≤ 9223372036854775807)
    (hnone : ∀ d, place d.fs s = none → f d = (8, d))
    (hdo : ∀ m hs i x w1, Own w1 S p m (deed d) hs → hs[i]? = some x → x.f.nm = s → place (deed d).fs s = some i → (∀ b, b < w.heap.size → ¬ S b → w1.heap[b]? = w.heap[b]?) → w.heap.size ≤ w1.heap.size → Calls Tryd.prog 44 #[.pointer (some ⟨x.b, 0, none⟩)] w1 (Does DI p S (f (deed d)) w1)) :
    Calls Tryd.prog 36 #[.pointer (some ⟨p, 0, none⟩), .string s, .func (.func 44) #[] #[]] w (Does DI p S (whole f d) w) := by
  have hlt := di_lt h
  have hsp : S p := by
    obtain ⟨m, hl, ho⟩ := h
    exact ho.sp
  have hb1 := bel_alloc (Below.refl w.heap.size w) (.cells #[.pointer (some ⟨p, 0, none⟩)] 25)
  have a0 := Blk.new w 25 #[.pointer (some ⟨p, 0, none⟩)]
  obtain ⟨w1, hw1⟩ : ∃ v, w.alloc (.cells #[.pointer (some ⟨p, 0, none⟩)] 25) = v := ⟨_, rfl⟩
  have z1 : w1.heap.size = w.heap.size + 1 := by rw [← hw1]; simp
  have a1 := Blk.new w1 9 #[.string s]
  have hb2 := bel_alloc (Below.refl w1.heap.size w1) (.cells #[.string s] 9)
  obtain ⟨w2, hw2⟩ : ∃ v, w1.alloc (.cells #[.string s] 9) = v := ⟨_, rfl⟩
  have z2 : w2.heap.size = w1.heap.size + 1 := by rw [← hw2]; simp
  have a2 := Blk.new w2 75 #[.func (.func 44) #[] #[]]
  have hb3 := bel_alloc (Below.refl w2.heap.size w2) (.cells #[.func (.func 44) #[] #[]] 75)
  obtain ⟨w3, hw3⟩ : ∃ v, w2.alloc (.cells #[.func (.func 44) #[] #[]] 75) = v := ⟨_, rfl⟩
  have z3 : w3.heap.size = w2.heap.size + 1 := by rw [← hw3]; simp
  rw [hw1] at hb1 a0
  rw [hw2] at hb2 a1
  rw [hw3] at hb3 a2
  have a1' := a1.bel hb3
  have a0' := (a0.bel hb2).bel hb3
  have hb : Below w.heap.size w w3 := (hb1.trans (hb2.mono (by omega))).trans (hb3.mono (by omega))
  have hcall := deed_on p S d f (.pointer (some ⟨w.heap.size, 0, none⟩)) (.pointer (some ⟨w1.heap.size, 0, none⟩)) (.pointer (some ⟨w2.heap.size, 0, none⟩)) w3 (di_below h hb) hf (fun w4 hi hk => by
    have hne : ∀ b, w.heap.size ≤ b → b ≠ p := fun b hb' e => by have := hlt p hsp; omega
    refine on1_sync p S (deed d) f s  w.heap.size w1.heap.size w2.heap.size w4 hi hs ((hk.block _ (by omega) (hne _ (by omega))).trans a0') ((hk.block _ (by omega) (hne _ (by omega))).trans a1') ((hk.block _ (by omega) (hne _ (by omega))).trans a2) (hnone _) fun m hl i x w5 ho h1 h2 h3 hb5 => ?_
    have s1 := hk.size
    have s2 := hb5.size
    refine hdo m hl i x w5 ho h1 h2 h3 (fun b hb' hS => ?_) (by omega)
    exact ((hb5.block b (by omega)).trans (hk.block b (by omega) fun e => hS (by rw [e]; exact hsp))).trans (hb.block b hb'))
  rw [z2, z1] at hcall
  have HC := Lib.hid hcall
  have HB := Lib.hid hb
  have HW1 := Lib.hid hw1
  have HW2 := Lib.hid hw2
  have HW3 := Lib.hid hw3
  have q0 := a0'.cell 0
  simp only [List.getElem?_toArray, List.getElem?_cons_zero] at q0
  clear hcall hb hb1 hb2 hb3 a0 a1 a2 a0' a1' hw1 hw2 hw3 hdo hnone h z1 z2 z3 hlt hsp
  go_enter Tryd.func36, Tryd.ntmps36
  go_upto_region 1 with fail
  rw [HW1.out, HW2.out, HW3.out]
  go_wp2_with fail
  with_reducible refine HC.out.mono ?_
  rintro e u hd
  obtain ⟨rfl, hst⟩ := hd.from (Keeps.ofBelow (S := S) HB.out) (fun k hk => hk)
  have HST := Lib.hid hst
  clear hst hd HC
  go_wp2_with fail
  go_ret
  exact ⟨rfl, HST.out⟩
set_option maxRecDepth 20000 in
set_option maxHeartbeats 4000000 in
theorem on1_move (p : Nat) (S : Nat → Prop) (d : Dk) (f : Dk → Nat × Dk) (s : ByteArray) (v1 v2 v3 : Value) (b0 b1 b2 : Nat) (w : World) (h : DI w S p d) (hs : s.size ≤ 9223372036854775807)
    (k0 : Blk w b0 25 #[.pointer (some ⟨p, 0, none⟩)]) (k1 : Blk w b1 9 #[.string s]) (k2 : Blk w b2 75 #[.func (.func 61) #[] #[v1, v2, v3]])
    (hnone : place d.fs s = none → f d = (8, d))
    (hdo : ∀ m hs i x w1, Own w1 S p m d hs → hs[i]? = some x → x.f.nm = s → place d.fs s = some i → Below w.heap.size w w1 → Calls Tryd.prog 61 #[.pointer (some ⟨x.b, 0, none⟩), v1, v2, v3] w1 (Does DI p S (f d) w1)) :
    Calls Tryd.prog 55 #[.pointer (some ⟨b0, 0, none⟩), .pointer (some ⟨b1, 0, none⟩), .pointer (some ⟨b2, 0, none⟩)] w (Does DI p S (f d) w) := by
  obtain ⟨m, hl, ho⟩ := h
  have c0 := ho.cells.1
  have q0 := k0.cell 0
  have q1 := k1.cell 0
  have q2 := k2.cell 0
  simp only [List.getElem?_toArray, List.getElem?_cons_zero] at q0 q1 q2
  have hfind := fun (q : Nat) => (ho.below (below_drewN (Below.refl w.heap.size w) q)).find (s := s) (by unfold maxLen; omega)
  obtain ⟨o, hlook⟩ : ∃ o, look hl s = o := ⟨_, rfl⟩
  have hlp := look_place hl s
  rw [ho.fs] at hlp
  rw [hlook] at hlp hfind
  have HO := Lib.hid ho
  have HN := Lib.hid hnone
  have HDO := Lib.hid hdo
  have HLP := Lib.hid hlp
  clear ho hnone hdo hlp hlook k0 k1 k2
  go_enter Tryd.func55, Tryd.ntmps55
  cases o with
  | none =>
    unfold pv at hfind
    have hres : place d.fs s = none := by
      rcases HLP.out with ⟨_, h⟩ | ⟨i, x, h, _⟩
      · exact h
      · cases h
    rw [HN.out hres]
    clear HLP HDO hres
    go_upto_region 1 with fail
    go_quiet (fail)
    go_wp2_with fail
    go_ret
    exact Does.stay (di_below ⟨m, hl, HO.out⟩ (below_drewN (Below.refl w.heap.size w) nq)) (Keeps.ofBelow (below_drewN (Below.refl w.heap.size w) nq))
  | some x =>
    unfold pv at hfind
    obtain ⟨i, hres, hi, hnm⟩ : ∃ i, place d.fs s = some i ∧ hl[i]? = some x ∧ x.f.nm = s := by
      rcases HLP.out with ⟨h, _⟩ | ⟨i, y, h, h1, h2, h3⟩
      · cases h
      · injection h with h
        subst h
        exact ⟨i, h1, h2, h3⟩
    have HC := Lib.hid (fun (q : Nat) => HDO.out m hl i x (w.drewN q) (HO.out.below (below_drewN (Below.refl w.heap.size w) q)) hi hnm hres (below_drewN (Below.refl w.heap.size w) q))
    clear HLP HDO hres hi hnm HN
    go_upto_region 1 with fail
    go_quiet (fail)
    go_wp2_with fail
    refine (HC.out nq).mono ?_
    rintro e u hd
    obtain ⟨rfl, hst⟩ := hd.from (Keeps.ofBelow (S := S) (below_drewN (Below.refl w.heap.size w) nq)) (fun k hk => hk)
    have HST := Lib.hid hst
    clear hst hd HC
    go_wp2_with fail
    go_ret
    exact ⟨rfl, HST.out⟩
set_option maxRecDepth 20000 in
set_option maxHeartbeats 4000000 in
theorem on_move (p : Nat) (S : Nat → Prop) (d : Dk) (f : Dk → Nat × Dk) (s : ByteArray) (v1 v2 v3 : Value) (w : World) (h : DI w S p d) (hf : Fine d) (hs : s.size ≤ 9223372036854775807)
    (hnone : ∀ d, place d.fs s = none → f d = (8, d))
    (hdo : ∀ m hs i x w1, Own w1 S p m (deed d) hs → hs[i]? = some x → x.f.nm = s → place (deed d).fs s = some i → (∀ b, b < w.heap.size → ¬ S b → w1.heap[b]? = w.heap[b]?) → w.heap.size ≤ w1.heap.size → Calls Tryd.prog 61 #[.pointer (some ⟨x.b, 0, none⟩), v1, v2, v3] w1 (Does DI p S (f (deed d)) w1)) :
    Calls Tryd.prog 36 #[.pointer (some ⟨p, 0, none⟩), .string s, .func (.func 61) #[] #[v1, v2, v3]] w (Does DI p S (whole f d) w) := by
  have hlt := di_lt h
  have hsp : S p := by
    obtain ⟨m, hl, ho⟩ := h
    exact ho.sp
  have hb1 := bel_alloc (Below.refl w.heap.size w) (.cells #[.pointer (some ⟨p, 0, none⟩)] 25)
  have a0 := Blk.new w 25 #[.pointer (some ⟨p, 0, none⟩)]
  obtain ⟨w1, hw1⟩ : ∃ v, w.alloc (.cells #[.pointer (some ⟨p, 0, none⟩)] 25) = v := ⟨_, rfl⟩
  have z1 : w1.heap.size = w.heap.size + 1 := by rw [← hw1]; simp
  have a1 := Blk.new w1 9 #[.string s]
  have hb2 := bel_alloc (Below.refl w1.heap.size w1) (.cells #[.string s] 9)
  obtain ⟨w2, hw2⟩ : ∃ v, w1.alloc (.cells #[.string s] 9) = v := ⟨_, rfl⟩
  have z2 : w2.heap.size = w1.heap.size + 1 := by rw [← hw2]; simp
  have a2 := Blk.new w2 75 #[.func (.func 61) #[] #[v1, v2, v3]]
  have hb3 := bel_alloc (Below.refl w2.heap.size w2) (.cells #[.func (.func 61) #[] #[v1, v2, v3]] 75)
  obtain ⟨w3, hw3⟩ : ∃ v, w2.alloc (.cells #[.func (.func 61) #[] #[v1, v2, v3]] 75) = v := ⟨_, rfl⟩
  have z3 : w3.heap.size = w2.heap.size + 1 := by rw [← hw3]; simp
  rw [hw1] at hb1 a0
  rw [hw2] at hb2 a1
  rw [hw3] at hb3 a2
  have a1' := a1.bel hb3
  have a0' := (a0.bel hb2).bel hb3
  have hb : Below w.heap.size w w3 := (hb1.trans (hb2.mono (by omega))).trans (hb3.mono (by omega))
  have hcall := deed_on p S d f (.pointer (some ⟨w.heap.size, 0, none⟩)) (.pointer (some ⟨w1.heap.size, 0, none⟩)) (.pointer (some ⟨w2.heap.size, 0, none⟩)) w3 (di_below h hb) hf (fun w4 hi hk => by
    have hne : ∀ b, w.heap.size ≤ b → b ≠ p := fun b hb' e => by have := hlt p hsp; omega
    refine on1_move p S (deed d) f s v1 v2 v3 w.heap.size w1.heap.size w2.heap.size w4 hi hs ((hk.block _ (by omega) (hne _ (by omega))).trans a0') ((hk.block _ (by omega) (hne _ (by omega))).trans a1') ((hk.block _ (by omega) (hne _ (by omega))).trans a2) (hnone _) fun m hl i x w5 ho h1 h2 h3 hb5 => ?_
    have s1 := hk.size
    have s2 := hb5.size
    refine hdo m hl i x w5 ho h1 h2 h3 (fun b hb' hS => ?_) (by omega)
    exact ((hb5.block b (by omega)).trans (hk.block b (by omega) fun e => hS (by rw [e]; exact hsp))).trans (hb.block b hb'))
  rw [z2, z1] at hcall
  have HC := Lib.hid hcall
  have HB := Lib.hid hb
  have HW1 := Lib.hid hw1
  have HW2 := Lib.hid hw2
  have HW3 := Lib.hid hw3
  have q0 := a0'.cell 0
  simp only [List.getElem?_toArray, List.getElem?_cons_zero] at q0
  clear hcall hb hb1 hb2 hb3 a0 a1 a2 a0' a1' hw1 hw2 hw3 hdo hnone h z1 z2 z3 hlt hsp
  go_enter Tryd.func36, Tryd.ntmps36
  go_upto_region 1 with fail
  rw [HW1.out, HW2.out, HW3.out]
  go_wp2_with fail
  with_reducible refine HC.out.mono ?_
  rintro e u hd
  obtain ⟨rfl, hst⟩ := hd.from (Keeps.ofBelow (S := S) HB.out) (fun k hk => hk)
  have HST := Lib.hid hst
  clear hst hd HC
  go_wp2_with fail
  go_ret
  exact ⟨rfl, HST.out⟩
set_option maxRecDepth 20000 in
set_option maxHeartbeats 4000000 in
theorem on1_cut (p : Nat) (S : Nat → Prop) (d : Dk) (f : Dk → Nat × Dk) (s : ByteArray) (v1 : Value) (b0 b1 b2 : Nat) (w : World) (h : DI w S p d) (hs : s.size ≤ 9223372036854775807)
    (k0 : Blk w b0 25 #[.pointer (some ⟨p, 0, none⟩)]) (k1 : Blk w b1 9 #[.string s]) (k2 : Blk w b2 75 #[.func (.func 37) #[] #[v1]])
    (hnone : place d.fs s = none → f d = (8, d))
    (hdo : ∀ m hs i x w1, Own w1 S p m d hs → hs[i]? = some x → x.f.nm = s → place d.fs s = some i → Below w.heap.size w w1 → Calls Tryd.prog 37 #[.pointer (some ⟨x.b, 0, none⟩), v1] w1 (Does DI p S (f d) w1)) :
    Calls Tryd.prog 55 #[.pointer (some ⟨b0, 0, none⟩), .pointer (some ⟨b1, 0, none⟩), .pointer (some ⟨b2, 0, none⟩)] w (Does DI p S (f d) w) := by
  obtain ⟨m, hl, ho⟩ := h
  have c0 := ho.cells.1
  have q0 := k0.cell 0
  have q1 := k1.cell 0
  have q2 := k2.cell 0
  simp only [List.getElem?_toArray, List.getElem?_cons_zero] at q0 q1 q2
  have hfind := fun (q : Nat) => (ho.below (below_drewN (Below.refl w.heap.size w) q)).find (s := s) (by unfold maxLen; omega)
  obtain ⟨o, hlook⟩ : ∃ o, look hl s = o := ⟨_, rfl⟩
  have hlp := look_place hl s
  rw [ho.fs] at hlp
  rw [hlook] at hlp hfind
  have HO := Lib.hid ho
  have HN := Lib.hid hnone
  have HDO := Lib.hid hdo
  have HLP := Lib.hid hlp
  clear ho hnone hdo hlp hlook k0 k1 k2
  go_enter Tryd.func55, Tryd.ntmps55
  cases o with
  | none =>
    unfold pv at hfind
    have hres : place d.fs s = none := by
      rcases HLP.out with ⟨_, h⟩ | ⟨i, x, h, _⟩
      · exact h
      · cases h
    rw [HN.out hres]
    clear HLP HDO hres
    go_upto_region 1 with fail
    go_quiet (fail)
    go_wp2_with fail
    go_ret
    exact Does.stay (di_below ⟨m, hl, HO.out⟩ (below_drewN (Below.refl w.heap.size w) nq)) (Keeps.ofBelow (below_drewN (Below.refl w.heap.size w) nq))
  | some x =>
    unfold pv at hfind
    obtain ⟨i, hres, hi, hnm⟩ : ∃ i, place d.fs s = some i ∧ hl[i]? = some x ∧ x.f.nm = s := by
      rcases HLP.out with ⟨h, _⟩ | ⟨i, y, h, h1, h2, h3⟩
      · cases h
      · injection h with h
        subst h
        exact ⟨i, h1, h2, h3⟩
    have HC := Lib.hid (fun (q : Nat) => HDO.out m hl i x (w.drewN q) (HO.out.below (below_drewN (Below.refl w.heap.size w) q)) hi hnm hres (below_drewN (Below.refl w.heap.size w) q))
    clear HLP HDO hres hi hnm HN
    go_upto_region 1 with fail
    go_quiet (fail)
    go_wp2_with fail
    refine (HC.out nq).mono ?_
    rintro e u hd
    obtain ⟨rfl, hst⟩ := hd.from (Keeps.ofBelow (S := S) (below_drewN (Below.refl w.heap.size w) nq)) (fun k hk => hk)
    have HST := Lib.hid hst
    clear hst hd HC
    go_wp2_with fail
    go_ret
    exact ⟨rfl, HST.out⟩
set_option maxRecDepth 20000 in
set_option maxHeartbeats 4000000 in
theorem on_cut (p : Nat) (S : Nat → Prop) (d : Dk) (f : Dk → Nat × Dk) (s : ByteArray) (v1 : Value) (w : World) (h : DI w S p d) (hf : Fine d) (hs : s.size ≤ 9223372036854775807)
    (hnone : ∀ d, place d.fs s = none → f d = (8, d))
    (hdo : ∀ m hs i x w1, Own w1 S p m (deed d) hs → hs[i]? = some x → x.f.nm = s → place (deed d).fs s = some i → (∀ b, b < w.heap.size → ¬ S b → w1.heap[b]? = w.heap[b]?) → w.heap.size ≤ w1.heap.size → Calls Tryd.prog 37 #[.pointer (some ⟨x.b, 0, none⟩), v1] w1 (Does DI p S (f (deed d)) w1)) :
    Calls Tryd.prog 36 #[.pointer (some ⟨p, 0, none⟩), .string s, .func (.func 37) #[] #[v1]] w (Does DI p S (whole f d) w) := by
  have hlt := di_lt h
  have hsp : S p := by
    obtain ⟨m, hl, ho⟩ := h
    exact ho.sp
  have hb1 := bel_alloc (Below.refl w.heap.size w) (.cells #[.pointer (some ⟨p, 0, none⟩)] 25)
  have a0 := Blk.new w 25 #[.pointer (some ⟨p, 0, none⟩)]
  obtain ⟨w1, hw1⟩ : ∃ v, w.alloc (.cells #[.pointer (some ⟨p, 0, none⟩)] 25) = v := ⟨_, rfl⟩
  have z1 : w1.heap.size = w.heap.size + 1 := by rw [← hw1]; simp
  have a1 := Blk.new w1 9 #[.string s]
  have hb2 := bel_alloc (Below.refl w1.heap.size w1) (.cells #[.string s] 9)
  obtain ⟨w2, hw2⟩ : ∃ v, w1.alloc (.cells #[.string s] 9) = v := ⟨_, rfl⟩
  have z2 : w2.heap.size = w1.heap.size + 1 := by rw [← hw2]; simp
  have a2 := Blk.new w2 75 #[.func (.func 37) #[] #[v1]]
  have hb3 := bel_alloc (Below.refl w2.heap.size w2) (.cells #[.func (.func 37) #[] #[v1]] 75)
  obtain ⟨w3, hw3⟩ : ∃ v, w2.alloc (.cells #[.func (.func 37) #[] #[v1]] 75) = v := ⟨_, rfl⟩
  have z3 : w3.heap.size = w2.heap.size + 1 := by rw [← hw3]; simp
  rw [hw1] at hb1 a0
  rw [hw2] at hb2 a1
  rw [hw3] at hb3 a2
  have a1' := a1.bel hb3
  have a0' := (a0.bel hb2).bel hb3
  have hb : Below w.heap.size w w3 := (hb1.trans (hb2.mono (by omega))).trans (hb3.mono (by omega))
  have hcall := deed_on p S d f (.pointer (some ⟨w.heap.size, 0, none⟩)) (.pointer (some ⟨w1.heap.size, 0, none⟩)) (.pointer (some ⟨w2.heap.size, 0, none⟩)) w3 (di_below h hb) hf (fun w4 hi hk => by
    have hne : ∀ b, w.heap.size ≤ b → b ≠ p := fun b hb' e => by have := hlt p hsp; omega
    refine on1_cut p S (deed d) f s v1 w.heap.size w1.heap.size w2.heap.size w4 hi hs ((hk.block _ (by omega) (hne _ (by omega))).trans a0') ((hk.block _ (by omega) (hne _ (by omega))).trans a1') ((hk.block _ (by omega) (hne _ (by omega))).trans a2) (hnone _) fun m hl i x w5 ho h1 h2 h3 hb5 => ?_
    have s1 := hk.size
    have s2 := hb5.size
    refine hdo m hl i x w5 ho h1 h2 h3 (fun b hb' hS => ?_) (by omega)
    exact ((hb5.block b (by omega)).trans (hk.block b (by omega) fun e => hS (by rw [e]; exact hsp))).trans (hb.block b hb'))
  rw [z2, z1] at hcall
  have HC := Lib.hid hcall
  have HB := Lib.hid hb
  have HW1 := Lib.hid hw1
  have HW2 := Lib.hid hw2
  have HW3 := Lib.hid hw3
  have q0 := a0'.cell 0
  simp only [List.getElem?_toArray, List.getElem?_cons_zero] at q0
  clear hcall hb hb1 hb2 hb3 a0 a1 a2 a0' a1' hw1 hw2 hw3 hdo hnone h z1 z2 z3 hlt hsp
  go_enter Tryd.func36, Tryd.ntmps36
  go_upto_region 1 with fail
  rw [HW1.out, HW2.out, HW3.out]
  go_wp2_with fail
  with_reducible refine HC.out.mono ?_
  rintro e u hd
  obtain ⟨rfl, hst⟩ := hd.from (Keeps.ofBelow (S := S) HB.out) (fun k hk => hk)
  have HST := Lib.hid hst
  clear hst hd HC
  go_wp2_with fail
  go_ret
  exact ⟨rfl, HST.out⟩
set_option maxRecDepth 20000 in
set_option maxHeartbeats 4000000 in
theorem on1_remove (p : Nat) (S : Nat → Prop) (d : Dk) (f : Dk → Nat × Dk) (s : ByteArray) (v1 v2 : Value) (b0 b1 b2 : Nat) (w : World) (h : DI w S p d) (hs : s.size ≤ 9223372036854775807)
    (k0 : Blk w b0 25 #[.pointer (some ⟨p, 0, none⟩)]) (k1 : Blk w b1 9 #[.string s]) (k2 : Blk w b2 75 #[.func (.func 60) #[] #[v1, v2]])
    (hnone : place d.fs s = none → f d = (8, d))
    (hdo : ∀ m hs i x w1, Own w1 S p m d hs → hs[i]? = some x → x.f.nm = s → place d.fs s = some i → Below w.heap.size w w1 → Calls Tryd.prog 60 #[.pointer (some ⟨x.b, 0, none⟩), v1, v2] w1 (Does DI p S (f d) w1)) :
    Calls Tryd.prog 55 #[.pointer (some ⟨b0, 0, none⟩), .pointer (some ⟨b1, 0, none⟩), .pointer (some ⟨b2, 0, none⟩)] w (Does DI p S (f d) w) := by
  obtain ⟨m, hl, ho⟩ := h
  have c0 := ho.cells.1
  have q0 := k0.cell 0
  have q1 := k1.cell 0
  have q2 := k2.cell 0
  simp only [List.getElem?_toArray, List.getElem?_cons_zero] at q0 q1 q2
  have hfind := fun (q : Nat) => (ho.below (below_drewN (Below.refl w.heap.size w) q)).find (s := s) (by unfold maxLen; omega)
  obtain ⟨o, hlook⟩ : ∃ o, look hl s = o := ⟨_, rfl⟩
  have hlp := look_place hl s
  rw [ho.fs] at hlp
  rw [hlook] at hlp hfind
  have HO := Lib.hid ho
  have HN := Lib.hid hnone
  have HDO := Lib.hid hdo
  have HLP := Lib.hid hlp
  clear ho hnone hdo hlp hlook k0 k1 k2
  go_enter Tryd.func55, Tryd.ntmps55
  cases o with
  | none =>
    unfold pv at hfind
    have hres : place d.fs s = none := by
      rcases HLP.out with ⟨_, h⟩ | ⟨i, x, h, _⟩
      · exact h
      · cases h
    rw [HN.out hres]
    clear HLP HDO hres
    go_upto_region 1 with fail
    go_quiet (fail)
    go_wp2_with fail
    go_ret
    exact Does.stay (di_below ⟨m, hl, HO.out⟩ (below_drewN (Below.refl w.heap.size w) nq)) (Keeps.ofBelow (below_drewN (Below.refl w.heap.size w) nq))
  | some x =>
    unfold pv at hfind
    obtain ⟨i, hres, hi, hnm⟩ : ∃ i, place d.fs s = some i ∧ hl[i]? = some x ∧ x.f.nm = s := by
      rcases HLP.out with ⟨h, _⟩ | ⟨i, y, h, h1, h2, h3⟩
      · cases h
      · injection h with h
        subst h
        exact ⟨i, h1, h2, h3⟩
    have HC := Lib.hid (fun (q : Nat) => HDO.out m hl i x (w.drewN q) (HO.out.below (below_drewN (Below.refl w.heap.size w) q)) hi hnm hres (below_drewN (Below.refl w.heap.size w) q))
    clear HLP HDO hres hi hnm HN
    go_upto_region 1 with fail
    go_quiet (fail)
    go_wp2_with fail
    refine (HC.out nq).mono ?_
    rintro e u hd
    obtain ⟨rfl, hst⟩ := hd.from (Keeps.ofBelow (S := S) (below_drewN (Below.refl w.heap.size w) nq)) (fun k hk => hk)
    have HST := Lib.hid hst
    clear hst hd HC
    go_wp2_with fail
    go_ret
    exact ⟨rfl, HST.out⟩
set_option maxRecDepth 20000 in
set_option maxHeartbeats 4000000 in
theorem on_remove (p : Nat) (S : Nat → Prop) (d : Dk) (f : Dk → Nat × Dk) (s : ByteArray) (v1 v2 : Value) (w : World) (h : DI w S p d) (hf : Fine d) (hs : s.size ≤ 9223372036854775807)
    (hnone : ∀ d, place d.fs s = none → f d = (8, d))
    (hdo : ∀ m hs i x w1, Own w1 S p m (deed d) hs → hs[i]? = some x → x.f.nm = s → place (deed d).fs s = some i → (∀ b, b < w.heap.size → ¬ S b → w1.heap[b]? = w.heap[b]?) → w.heap.size ≤ w1.heap.size → Calls Tryd.prog 60 #[.pointer (some ⟨x.b, 0, none⟩), v1, v2] w1 (Does DI p S (f (deed d)) w1)) :
    Calls Tryd.prog 36 #[.pointer (some ⟨p, 0, none⟩), .string s, .func (.func 60) #[] #[v1, v2]] w (Does DI p S (whole f d) w) := by
  have hlt := di_lt h
  have hsp : S p := by
    obtain ⟨m, hl, ho⟩ := h
    exact ho.sp
  have hb1 := bel_alloc (Below.refl w.heap.size w) (.cells #[.pointer (some ⟨p, 0, none⟩)] 25)
  have a0 := Blk.new w 25 #[.pointer (some ⟨p, 0, none⟩)]
  obtain ⟨w1, hw1⟩ : ∃ v, w.alloc (.cells #[.pointer (some ⟨p, 0, none⟩)] 25) = v := ⟨_, rfl⟩
  have z1 : w1.heap.size = w.heap.size + 1 := by rw [← hw1]; simp
  have a1 := Blk.new w1 9 #[.string s]
  have hb2 := bel_alloc (Below.refl w1.heap.size w1) (.cells #[.string s] 9)
  obtain ⟨w2, hw2⟩ : ∃ v, w1.alloc (.cells #[.string s] 9) = v := ⟨_, rfl⟩
  have z2 : w2.heap.size = w1.heap.size + 1 := by rw [← hw2]; simp
  have a2 := Blk.new w2 75 #[.func (.func 60) #[] #[v1, v2]]
  have hb3 := bel_alloc (Below.refl w2.heap.size w2) (.cells #[.func (.func 60) #[] #[v1, v2]] 75)
  obtain ⟨w3, hw3⟩ : ∃ v, w2.alloc (.cells #[.func (.func 60) #[] #[v1, v2]] 75) = v := ⟨_, rfl⟩
  have z3 : w3.heap.size = w2.heap.size + 1 := by rw [← hw3]; simp
  rw [hw1] at hb1 a0
  rw [hw2] at hb2 a1
  rw [hw3] at hb3 a2
  have a1' := a1.bel hb3
  have a0' := (a0.bel hb2).bel hb3
  have hb : Below w.heap.size w w3 := (hb1.trans (hb2.mono (by omega))).trans (hb3.mono (by omega))
  have hcall := deed_on p S d f (.pointer (some ⟨w.heap.size, 0, none⟩)) (.pointer (some ⟨w1.heap.size, 0, none⟩)) (.pointer (some ⟨w2.heap.size, 0, none⟩)) w3 (di_below h hb) hf (fun w4 hi hk => by
    have hne : ∀ b, w.heap.size ≤ b → b ≠ p := fun b hb' e => by have := hlt p hsp; omega
    refine on1_remove p S (deed d) f s v1 v2 w.heap.size w1.heap.size w2.heap.size w4 hi hs ((hk.block _ (by omega) (hne _ (by omega))).trans a0') ((hk.block _ (by omega) (hne _ (by omega))).trans a1') ((hk.block _ (by omega) (hne _ (by omega))).trans a2) (hnone _) fun m hl i x w5 ho h1 h2 h3 hb5 => ?_
    have s1 := hk.size
    have s2 := hb5.size
    refine hdo m hl i x w5 ho h1 h2 h3 (fun b hb' hS => ?_) (by omega)
    exact ((hb5.block b (by omega)).trans (hk.block b (by omega) fun e => hS (by rw [e]; exact hsp))).trans (hb.block b hb'))
  rw [z2, z1] at hcall
  have HC := Lib.hid hcall
  have HB := Lib.hid hb
  have HW1 := Lib.hid hw1
  have HW2 := Lib.hid hw2
  have HW3 := Lib.hid hw3
  have q0 := a0'.cell 0
  simp only [List.getElem?_toArray, List.getElem?_cons_zero] at q0
  clear hcall hb hb1 hb2 hb3 a0 a1 a2 a0' a1' hw1 hw2 hw3 hdo hnone h z1 z2 z3 hlt hsp
  go_enter Tryd.func36, Tryd.ntmps36
  go_upto_region 1 with fail
  rw [HW1.out, HW2.out, HW3.out]
  go_wp2_with fail
  with_reducible refine HC.out.mono ?_
  rintro e u hd
  obtain ⟨rfl, hst⟩ := hd.from (Keeps.ofBelow (S := S) HB.out) (fun k hk => hk)
  have HST := Lib.hid hst
  clear hst hd HC
  go_wp2_with fail
  go_ret
  exact ⟨rfl, HST.out⟩
end Go.Proofs.YthkbmmebfkaphaaDoor.Dsk
