/-
  Texts of earlier layers, as one.
-/
import Derived.Test.YthkbmmebfkaphaaDoorDskPut
import Derived.Test.YthkbmmebfkaphaaDoorRBase
import Derived.Deep.RegionHeld
import Derived.Deep.Cut
import Derived.Laws.Pointers
/- The program's deed: is there power? And a deed on a file that there must be. -/
namespace Go.Proofs.YthkbmmebfkaphaaDoor.Dsk
open Go.RowKit Mem Go.Maps

theorem set_grown (w : World) (g i : Nat) (v : Value) : w.grownBy (w.setCell ⟨g, i, none⟩ v) (some g) :=
  ⟨rfl, rfl, rfl, by simp, fun k _ hne => Below.heap_setCell w ⟨g, i, none⟩ _ k fun e => hne (by rw [e])⟩
theorem keeps_set (w : World) (g i : Nat) (v : Value) : Keeps (fun k => k = g) w (w.setCell ⟨g, i, none⟩ v) := Keeps.ofGrown (set_grown w g i v) rfl
theorem di_lt {w : World} {S : Nat → Prop} {p : Nat} {d : Dk} (h : DI w S p d) : ∀ k, S k → k < w.heap.size := by
  obtain ⟨m, hs, h⟩ := h
  exact h.lt
theorem di_keep {w w' : World} {S T : Nat → Prop} {p : Nat} {d : Dk} (h : DI w S p d) (hk : Keeps T w w') (hd : ∀ b, S b → ¬ T b) : DI w' S p d := by
  obtain ⟨m, hs, h⟩ := h
  exact ⟨m, hs, h.keep hk hd⟩
theorem di_below {w w' : World} {S : Nat → Prop} {p : Nat} {d : Dk} (h : DI w S p d) (hb : Below w.heap.size w w') : DI w' S p d := di_keep h (T := fun _ => False) (Keeps.ofBelow hb) fun _ _ h => h
/-- What a deed does behind what kept all but blocks of the disk. -/
theorem Does.from {S T : Nat → Prop} {p : Nat} {r : Nat × Dk} {w w1 w' : World} {e : Ending} (h : Does DI p S r w1 e w') (hk : Keeps T w w1) (hT : ∀ k, T k → S k) : Does DI p S r w e w' := by
  obtain ⟨he, S', h1, h2, h3⟩ := h
  have hz := hk.size
  refine ⟨he, S', h1, fun k hk' => (h2 k hk').imp id fun h => by omega, ⟨h3.os.trans hk.os, h3.tape.trans hk.tape, h3.output.trans hk.output, Nat.le_trans hz h3.size, fun k hk' hn => ?_⟩⟩
  exact (h3.block k (by omega) hn).trans (hk.block k hk' fun ht => hn (hT k ht))
theorem Does.stay {S : Nat → Prop} {p n : Nat} {d : Dk} {w w' : World} (h : DI w' S p d) (hk : Keeps S w w') : Does DI p S (n, d) w (.returned (.int .i64 (n : Int))) w' := ⟨rfl, S, h, Grew.refl S w, hk⟩
theorem whole_off {d : Dk} {f : Dk → Nat × Dk} (h : fails d = true) : whole f d = (15, deed d) := by unfold whole; rw [if_pos h]
theorem whole_on {d : Dk} {f : Dk → Nat × Dk} (h : fails d = false) : whole f d = f (deed d) := by unfold whole; rw [if_neg (by rw [h]; decide)]
set_option maxRecDepth 20000 in
set_option maxHeartbeats 4000000 in
theorem deed_append (p : Nat) (S : Nat → Prop) (d : Dk) (f : Dk → Nat × Dk) (v1 v2 v3 : Value) (w : World) (h : DI w S p d) (hf : Fine d)
    (hdo : ∀ w1, DI w1 S p (deed d) → Keeps (fun k => k = p) w w1 → Calls Tryd.prog 40 #[v1, v2, v3] w1 (Does DI p S (f (deed d)) w1)) :
    Calls Tryd.prog 39 #[.pointer (some ⟨p, 0, none⟩), .func (.func 40) #[] #[v1, v2, v3]] w (Does DI p S (whole f d) w) := by
  obtain ⟨m, hs, ho⟩ := h
  obtain ⟨c0, c1, c2, c3⟩ := ho.cells
  have f2 := ho.box.soft 2
  have f3 := ho.box.soft 3
  obtain ⟨fs, room, fuse, dn⟩ := d
  have hl1 : -9223372036854775808 ≤ fuse := hf.2.2.1
  have hl2 : fuse ≤ 9223372036854775807 := hf.2.2.2
  have HO := Lib.hid ho
  have HDO := Lib.hid hdo
  clear ho hdo hf c0 c1
  simp only at c2 c3
  go_enter Tryd.func39, Tryd.ntmps39
  by_cases h0 : fuse = 0
  · subst h0
    have hfl : fails ⟨fs, room, 0, dn⟩ = true := by unfold fails; simp
    have hdd : deed ⟨fs, room, 0, dn⟩ = ⟨fs, room, 0, true⟩ := by unfold deed; rw [if_pos hfl]
    rw [whole_off hfl, hdd]
    have hb := HO.out.setp (d' := ⟨fs, room, 0, true⟩) (set_grown w p 3 (.bool true)) (HO.out.box.put 3 (.bool true)) rfl
    have HB := Lib.hid (show Does DI p S (15, ⟨fs, room, 0, true⟩) w (.returned (.int .i64 ((15 : Nat) : Int))) (w.setCell ⟨p, 3, none⟩ (.bool true)) from Does.stay ⟨m, hs, hb⟩ (Keeps.ofGrown (set_grown w p 3 (.bool true)) HO.out.sp))
    clear hb hfl hdd
    go_wp2_with fail
    go_ret
    exact HB.out
  have b0 : (fuse == 0) = false := by
    cases e : (fuse == 0)
    · rfl
    · simp at e; omega
  cases dn with
  | true =>
    have hfl : fails ⟨fs, room, fuse, true⟩ = true := by unfold fails; simp
    have hdd : deed ⟨fs, room, fuse, true⟩ = ⟨fs, room, fuse, true⟩ := by unfold deed; rw [if_pos hfl]
    rw [whole_off hfl, hdd]
    have HB := Lib.hid (show Does DI p S (15, ⟨fs, room, fuse, true⟩) w (.returned (.int .i64 ((15 : Nat) : Int))) w from Does.stay ⟨m, hs, HO.out⟩ (Keeps.refl S w))
    clear hfl hdd h0
    go_wp2_with fail
    go_ret
    exact HB.out
  | false =>
    have hfl : fails ⟨fs, room, fuse, false⟩ = false := by unfold fails; simp [h0]
    rw [whole_on hfl]
    by_cases hp : 0 < fuse
    · have hdd : deed ⟨fs, room, fuse, false⟩ = ⟨fs, room, fuse - 1, false⟩ := by unfold deed; rw [if_neg (by rw [hfl]; decide), if_pos hp]
      have b1 : decide (0 < fuse) = true := decide_eq_true hp
      have hw : IntKind.i64.wrap (fuse - 1) = fuse - 1 := wrap64 (by omega) (by omega)
      have hb := HO.out.setp (d' := ⟨fs, room, fuse - 1, false⟩) (set_grown w p 2 (.int .i64 (fuse - 1))) (HO.out.box.put 2 (.int .i64 (fuse - 1))) rfl
      rw [hdd] at HDO ⊢
      have hc := HDO.out _ ⟨m, hs, hb⟩ (keeps_set w p 2 _)
      have HC := Lib.hid hc
      clear hc hb hfl hdd h0
      obtain ⟨f1, hf1⟩ : ∃ f1, fuse - 1 = f1 := ⟨_, rfl⟩
      rw [hf1] at HC hw ⊢
      clear HDO
      go_wp2_with fail
      refine HC.out.mono ?_
      rintro e u hs'
      have hd := hs'.from (keeps_set w p 2 _) (fun k hk => by rw [hk]; exact HO.out.sp)
      obtain ⟨rfl, hst⟩ := hd
      have HST := Lib.hid hst
      clear hst hs' HC
      go_wp2_with fail
      go_ret
      exact ⟨rfl, HST.out⟩
    · have hdd : deed ⟨fs, room, fuse, false⟩ = ⟨fs, room, fuse, false⟩ := by unfold deed; rw [if_neg (by rw [hfl]; decide), if_neg hp]
      have b1 : decide (0 < fuse) = false := decide_eq_false hp
      rw [hdd] at HDO ⊢
      have hc := HDO.out w ⟨m, hs, HO.out⟩ (Keeps.refl _ w)
      have HC := Lib.hid hc
      clear hc hfl hdd h0 HDO
      go_wp2_with fail
      refine HC.out.mono ?_
      rintro e u ⟨rfl, hst⟩
      have HST := Lib.hid hst
      clear hst HC
      go_wp2_with fail
      go_ret
      exact ⟨rfl, HST.out⟩
set_option maxRecDepth 20000 in
set_option maxHeartbeats 4000000 in
theorem deed_on (p : Nat) (S : Nat → Prop) (d : Dk) (f : Dk → Nat × Dk) (v1 v2 v3 : Value) (w : World) (h : DI w S p d) (hf : Fine d)
    (hdo : ∀ w1, DI w1 S p (deed d) → Keeps (fun k => k = p) w w1 → Calls Tryd.prog 55 #[v1, v2, v3] w1 (Does DI p S (f (deed d)) w1)) :
    Calls Tryd.prog 39 #[.pointer (some ⟨p, 0, none⟩), .func (.func 55) #[] #[v1, v2, v3]] w (Does DI p S (whole f d) w) := by
  obtain ⟨m, hs, ho⟩ := h
  obtain ⟨c0, c1, c2, c3⟩ := ho.cells
  have f2 := ho.box.soft 2
  have f3 := ho.box.soft 3
  obtain ⟨fs, room, fuse, dn⟩ := d
  have hl1 : -9223372036854775808 ≤ fuse := hf.2.2.1
  have hl2 : fuse ≤ 9223372036854775807 := hf.2.2.2
  have HO := Lib.hid ho
  have HDO := Lib.hid hdo
  clear ho hdo hf c0 c1
  simp only at c2 c3
  go_enter Tryd.func39, Tryd.ntmps39
  by_cases h0 : fuse = 0
  · subst h0
    have hfl : fails ⟨fs, room, 0, dn⟩ = true := by unfold fails; simp
    have hdd : deed ⟨fs, room, 0, dn⟩ = ⟨fs, room, 0, true⟩ := by unfold deed; rw [if_pos hfl]
    rw [whole_off hfl, hdd]
    have hb := HO.out.setp (d' := ⟨fs, room, 0, true⟩) (set_grown w p 3 (.bool true)) (HO.out.box.put 3 (.bool true)) rfl
    have HB := Lib.hid (show Does DI p S (15, ⟨fs, room, 0, true⟩) w (.returned (.int .i64 ((15 : Nat) : Int))) (w.setCell ⟨p, 3, none⟩ (.bool true)) from Does.stay ⟨m, hs, hb⟩ (Keeps.ofGrown (set_grown w p 3 (.bool true)) HO.out.sp))
    clear hb hfl hdd
    go_wp2_with fail
    go_ret
    exact HB.out
  have b0 : (fuse == 0) = false := by
    cases e : (fuse == 0)
    · rfl
    · simp at e; omega
  cases dn with
  | true =>
    have hfl : fails ⟨fs, room, fuse, true⟩ = true := by unfold fails; simp
    have hdd : deed ⟨fs, room, fuse, true⟩ = ⟨fs, room, fuse, true⟩ := by unfold deed; rw [if_pos hfl]
    rw [whole_off hfl, hdd]
    have HB := Lib.hid (show Does DI p S (15, ⟨fs, room, fuse, true⟩) w (.returned (.int .i64 ((15 : Nat) : Int))) w from Does.stay ⟨m, hs, HO.out⟩ (Keeps.refl S w))
    clear hfl hdd h0
    go_wp2_with fail
    go_ret
    exact HB.out
  | false =>
    have hfl : fails ⟨fs, room, fuse, false⟩ = false := by unfold fails; simp [h0]
    rw [whole_on hfl]
    by_cases hp : 0 < fuse
    · have hdd : deed ⟨fs, room, fuse, false⟩ = ⟨fs, room, fuse - 1, false⟩ := by unfold deed; rw [if_neg (by rw [hfl]; decide), if_pos hp]
      have b1 : decide (0 < fuse) = true := decide_eq_true hp
      have hw : IntKind.i64.wrap (fuse - 1) = fuse - 1 := wrap64 (by omega) (by omega)
      have hb := HO.out.setp (d' := ⟨fs, room, fuse - 1, false⟩) (set_grown w p 2 (.int .i64 (fuse - 1))) (HO.out.box.put 2 (.int .i64 (fuse - 1))) rfl
      rw [hdd] at HDO ⊢
      have hc := HDO.out _ ⟨m, hs, hb⟩ (keeps_set w p 2 _)
      have HC := Lib.hid hc
      clear hc hb hfl hdd h0
      obtain ⟨f1, hf1⟩ : ∃ f1, fuse - 1 = f1 := ⟨_, rfl⟩
      rw [hf1] at HC hw ⊢
      clear HDO
      go_wp2_with fail
      refine HC.out.mono ?_
      rintro e u hs'
      have hd := hs'.from (keeps_set w p 2 _) (fun k hk => by rw [hk]; exact HO.out.sp)
      obtain ⟨rfl, hst⟩ := hd
      have HST := Lib.hid hst
      clear hst hs' HC
      go_wp2_with fail
      go_ret
      exact ⟨rfl, HST.out⟩
    · have hdd : deed ⟨fs, room, fuse, false⟩ = ⟨fs, room, fuse, false⟩ := by unfold deed; rw [if_neg (by rw [hfl]; decide), if_neg hp]
      have b1 : decide (0 < fuse) = false := decide_eq_false hp
      rw [hdd] at HDO ⊢
      have hc := HDO.out w ⟨m, hs, HO.out⟩ (Keeps.refl _ w)
      have HC := Lib.hid hc
      clear hc hfl hdd h0 HDO
      go_wp2_with fail
      refine HC.out.mono ?_
      rintro e u ⟨rfl, hst⟩
      have HST := Lib.hid hst
      clear hst HC
      go_wp2_with fail
      go_ret
      exact ⟨rfl, HST.out⟩
end Go.Proofs.YthkbmmebfkaphaaDoor.Dsk
