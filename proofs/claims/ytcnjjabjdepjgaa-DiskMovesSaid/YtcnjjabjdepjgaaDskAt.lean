/-
  Texts of earlier layers, as one.
-/
import Derived.Test.YtcnjjabjdepjgaaDskSmall
import Derived.Test.YtcnjjabjdepjgaaRBase
import Derived.Deep.Cut
import Derived.Lib.MinMax
/- The document's New, At, deed and Used of a disk. -/
namespace Go.Proofs.Ytcnjjabjdepjgaa.Dsk
open Go.RowKit Mem Cod

theorem wrap64 {x : Int} (h : -9223372036854775808 ≤ x) (h' : x ≤ 9223372036854775807) : IntKind.i64.wrap x = x := by
  simp [IntKind.wrap, IntKind.bits, IntKind.signed]
  omega
/-- The cells of a disk at a block. -/
def dk4 (A : Option Addr) (n c : Nat) (d : Dk) : Array Value := #[.slice A n c, .int .i64 d.room, .int .i64 d.fuse, .bool d.dn]
theorem cells_dk {w : World} {g : Nat} {a b c d : Value} (h : Blk w g 60 #[a, b, c, d]) : w.cell? ⟨g, 0, none⟩ = some a ∧ w.cell? ⟨g, 1, none⟩ = some b ∧ w.cell? ⟨g, 2, none⟩ = some c ∧ w.cell? ⟨g, 3, none⟩ = some d :=
  ⟨h.cell 0, h.cell 1, h.cell 2, h.cell 3⟩
def AtRel (w : World) (l : List Fl) (s : ByteArray) (i : Value) (wr : World) : Prop := ∃ k : Nat, k ≤ l.length ∧ i = .int .i64 (k : Int) ∧ (∀ f ∈ l.take k, eqn f.nm s = false) ∧ wr = w
theorem not_yet {l : List Fl} {s : ByteArray} {k : Nat} {f : Fl} (h : ∀ f ∈ l.take k, eqn f.nm s = false) (hk : l[k]? = some f) (hs : eqn f.nm s = false) : ∀ f ∈ l.take (k + 1), eqn f.nm s = false := by
  intro x hx
  rw [List.take_add_one, hk, List.mem_append] at hx
  rcases hx with hx | hx
  · exact h x hx
  · simp at hx
    rw [hx]
    exact hs
set_option maxRecDepth 20000 in
set_option maxHeartbeats 4000000 in
theorem at_any (g : Nat) (A : Option Addr) (n c : Nat) (r1 r2 r3 : Value) (l : List Fl) (S : Nat → Prop) (s : ByteArray) (w : World) (hb : Blk w g 60 #[.slice A n c, r1, r2, r3]) (hf : Files S w A n c l) :
    Calls Try.prog 50 #[.pointer (some ⟨g, 0, none⟩), .string s] w (fun e w' => e = .returned (.int .i64 (atI l s)) ∧ w' = w) := by
  obtain ⟨T, hT⟩ : ∃ T, atI l s = T := ⟨_, rfl⟩
  rw [hT]
  have hln := hf.len
  have hcp := hf.cap
  obtain ⟨c0, c1, c2, c3⟩ := cells_dk hb
  have HF := Lib.hid hf
  have HT := Lib.hid hT
  have HLN := Lib.hid hln
  clear hb hf hT hln c1 c2 c3
  go_enter Try.func50, Try.ntmps50
  go_wp2_with fail
  go_loopw [5] (AtRel w l s) (fun i _ => n - (intOf i).toNat)
  case atStart => exact ⟨0, Nat.zero_le _, rfl, fun f hf => by simp at hf, rfl⟩
  case round =>
    obtain ⟨k, hk, rfl, hpre, rfl⟩ := hrel
    have HP := Lib.hid hpre
    have hkn : k ≤ n := by rw [← HLN.out]; exact hk
    clear hpre hk
    by_cases hlt : k < n
    · obtain ⟨f, hfk⟩ : ∃ f, l[k]? = some f := ⟨_, List.getElem?_eq_getElem (by rw [HLN.out]; exact hlt)⟩
      obtain ⟨gr, o, SA, sc, TA, tc, rfl, ho, hgl, q0, q1, q2, _, _⟩ := HF.out.at_ hfk
      have HFK := Lib.hid hfk
      have HO := Lib.hid ho
      have he : (f.nm.toList == s.toList) = eqn f.nm s := rfl
      obtain ⟨t, ht⟩ : ∃ t, eqn f.nm s = t := ⟨_, rfl⟩
      rw [ht] at he
      have HE := Lib.hid ht
      have b2 : decide ((n : Int) ≤ (k : Int)) = false := decide_eq_false (by omega)
      have b3 : ¬ n ≤ k := by omega
      clear hfk ho ht q1 q2
      cases t with
      | true =>
        go_wp2_with fail
        go_ret
        refine ⟨?_, rfl⟩
        rw [← HT.out]
        unfold atI
        rw [place_here HP.out HFK.out HE.out]
        rfl
      | false =>
        go_wp2_with fail
        exact ⟨⟨k + 1, by rw [HLN.out]; omega, by simp, not_yet HP.out HFK.out HE.out, rfl⟩, by simp [intOf]; omega⟩
    · have hkn' : k = n := by omega
      subst hkn'
      have hall : ∀ f ∈ l, eqn f.nm s = false := by have h := HP.out; rwa [List.take_of_length_le (by rw [HLN.out]; exact Nat.le_refl _)] at h
      have HA := Lib.hid hall
      clear hall hlt
      go_wp2_with fail
      go_ret
      refine ⟨?_, rfl⟩
      rw [← HT.out]
      unfold atI
      rw [place_away HA.out]
      rfl
def UsedRel (w : World) (l : List Fl) (a i : Value) (wr : World) : Prop := ∃ k : Nat, k ≤ l.length ∧ i = .int .i64 (k : Int) ∧ a = .int .i64 ((used (l.take k) : Nat) : Int) ∧ ∃ q, wr = w.drewN q
set_option maxRecDepth 20000 in
set_option maxHeartbeats 4000000 in
theorem used_any (g : Nat) (A : Option Addr) (n c : Nat) (r1 r2 r3 : Value) (l : List Fl) (S : Nat → Prop) (w : World) (hb : Blk w g 60 #[.slice A n c, r1, r2, r3]) (hf : Files S w A n c l) (hu : used l ≤ 9223372036854775807) :
    Calls Try.prog 34 #[.pointer (some ⟨g, 0, none⟩)] w (fun e w' => e = .returned (.int .i64 ((used l : Nat) : Int)) ∧ ∃ q, w' = w.drewN q) := by
  have hln := hf.len
  have hcp := hf.cap
  obtain ⟨c0, c1, c2, c3⟩ := cells_dk hb
  have HF := Lib.hid hf
  have HLN := Lib.hid hln
  have HU := Lib.hid hu
  clear hb hf hln c1 c2 c3 hu
  go_enter Try.func34, Try.ntmps34
  go_wp2_with fail
  go_loopw [3, 4] (UsedRel w l) (fun _ i _ => n - (intOf i).toNat)
  case atStart => exact ⟨0, Nat.zero_le _, rfl, rfl, 0, rfl⟩
  case round =>
    obtain ⟨k, hk, rfl, rfl, q, rfl⟩ := hrel
    have hkn : k ≤ n := by rw [← HLN.out]; exact hk
    clear hk
    by_cases hlt : k < n
    · obtain ⟨f, hfk⟩ : ∃ f, l[k]? = some f := ⟨_, List.getElem?_eq_getElem (by rw [HLN.out]; exact hlt)⟩
      obtain ⟨gr, o, SA, sc, TA, tc, rfl, ho, hgl, q0, q1, q2, h1, h2⟩ := HF.out.at_ hfk
      have hle : used (l.take k) + f.len ≤ used l := by rw [← used_take hfk]; exact used_le _ _
      have hst : used (l.take (k + 1)) = used (l.take k) + f.sure.length + f.tail.length := by rw [used_take hfk, Fl.len]; omega
      have hfl : f.len = f.sure.length + f.tail.length := rfl
      have huu := HU.out
      have HST := Lib.hid hst
      have b2 : decide ((n : Int) ≤ (k : Int)) = false := decide_eq_false (by omega)
      have b3 : ¬ n ≤ k := by omega
      obtain ⟨u, hu0⟩ : ∃ u, used (l.take k) = u := ⟨_, rfl⟩
      obtain ⟨x, hx⟩ : ∃ x, f.sure.length = x := ⟨_, rfl⟩
      obtain ⟨y, hy⟩ : ∃ y, f.tail.length = y := ⟨_, rfl⟩
      rw [hu0] at hle ⊢
      rw [hx] at q1 hfl
      rw [hy] at q2 hfl
      have w1 : IntKind.i64.wrap ((u : Int) + (x : Int)) = ((u + x : Nat) : Int) := by rw [wrap64 (by omega) (by omega)]; omega
      obtain ⟨ux, hux⟩ : ∃ ux, u + x = ux := ⟨_, rfl⟩
      rw [hux] at w1
      have w2 : IntKind.i64.wrap ((ux : Int) + (y : Int)) = ((ux + y : Nat) : Int) := by rw [wrap64 (by omega) (by omega)]; omega
      have HX := Lib.hid (show used (l.take (k + 1)) = ux + y by rw [hst, hu0, hx, hy, hux])
      clear hfk ho h1 h2 q0 hst hle hfl huu hu0 hx hy hux
      go_wp2_with fail
      go_quiet (fail)
      go_wp2_with fail
      exact ⟨⟨k + 1, by rw [HLN.out]; omega, by simp, by rw [HX.out]; simp, q + nq, rfl⟩, by simp [intOf]; omega⟩
    · have hkn' : k = n := by omega
      subst hkn'
      have hall : l.take k = l := List.take_of_length_le (by rw [HLN.out]; exact Nat.le_refl _)
      have HA := Lib.hid hall
      clear hall hlt
      go_wp2_with fail
      go_ret
      refine ⟨?_, q, rfl⟩
      show Ending.returned (.int .i64 ((used (l.take k) : Nat) : Int)) = _
      rw [HA.out]
/-- What a deed leaves of the disk's own block. -/
theorem blk_fuse {w : World} {g : Nat} {t : TypeId} {a b c d : Value} (h : Blk w g t #[a, b, c, d]) (v : Value) : Blk (w.setCell ⟨g, 2, none⟩ v) g t #[a, b, v, d] ∧ w.grownBy (w.setCell ⟨g, 2, none⟩ v) (some g) :=
  ⟨by simpa using h.put 2 v, gr_set (p := ⟨g, 2, none⟩) (gr_refl w (some g)) (.inl rfl) _⟩
theorem blk_down {w : World} {g : Nat} {t : TypeId} {a b c d : Value} (h : Blk w g t #[a, b, c, d]) (v : Value) : Blk (w.setCell ⟨g, 3, none⟩ v) g t #[a, b, c, v] ∧ w.grownBy (w.setCell ⟨g, 3, none⟩ v) (some g) :=
  ⟨by simpa using h.put 3 v, gr_set (p := ⟨g, 3, none⟩) (gr_refl w (some g)) (.inl rfl) _⟩
theorem blk_list {w : World} {g : Nat} {t : TypeId} {a b c d : Value} (h : Blk w g t #[a, b, c, d]) (v : Value) : Blk (w.setCell ⟨g, 0, none⟩ v) g t #[v, b, c, d] ∧ w.grownBy (w.setCell ⟨g, 0, none⟩ v) (some g) :=
  ⟨by simpa using h.put 0 v, gr_set (p := ⟨g, 0, none⟩) (gr_refl w (some g)) (.inl rfl) _⟩
set_option maxRecDepth 20000 in
set_option maxHeartbeats 4000000 in
theorem deed_any (g : Nat) (L : Value) (d : Dk) (w : World) (hb : Blk w g 60 #[L, .int .i64 d.room, .int .i64 d.fuse, .bool d.dn]) (hf : -9223372036854775808 ≤ d.fuse ∧ d.fuse ≤ 9223372036854775807) :
    Calls Try.prog 48 #[.pointer (some ⟨g, 0, none⟩)] w (fun e w' => e = .returned (.bool (fails d)) ∧ Blk w' g 60 #[L, .int .i64 (deed d).room, .int .i64 (deed d).fuse, .bool (deed d).dn] ∧ w.grownBy w' (some g)) := by
  obtain ⟨fs, room, fuse, dn⟩ := d
  simp only at hb hf ⊢
  obtain ⟨c0, c1, c2, c3⟩ := cells_dk hb
  have z2 := hb.soft 2
  have z3 := hb.soft 3
  have HB := Lib.hid hb
  clear hb c0 c1
  cases dn with
  | true =>
    have e1 : fails ⟨fs, room, fuse, true⟩ = true := rfl
    have e2 : deed ⟨fs, room, fuse, true⟩ = ⟨fs, room, fuse, true⟩ := by unfold deed; rw [e1]; rfl
    rw [e1, e2]
    clear e1 e2
    go_enter Try.func48, Try.ntmps48
    go_wp2_with fail
    go_ret
    have h := blk_down HB.out (.bool true)
    exact ⟨rfl, h.1, h.2⟩
  | false =>
    by_cases h0 : fuse = 0
    · subst h0
      have e1 : fails ⟨fs, room, 0, false⟩ = true := rfl
      have e2 : deed ⟨fs, room, 0, false⟩ = ⟨fs, room, 0, true⟩ := rfl
      rw [e1, e2]
      clear e1 e2
      go_enter Try.func48, Try.ntmps48
      go_wp2_with fail
      go_ret
      have h := blk_down HB.out (.bool true)
      exact ⟨rfl, h.1, h.2⟩
    · have e1 : fails ⟨fs, room, fuse, false⟩ = false := by unfold fails; rw [Bool.false_or, decide_eq_false h0]
      have b0 : (fuse == 0) = false := beq_false_of_ne h0
      by_cases hp : 0 < fuse
      · have e2 : deed ⟨fs, room, fuse, false⟩ = ⟨fs, room, fuse - 1, false⟩ := by
          unfold deed
          rw [e1]
          simp only [Bool.false_eq_true, if_false]
          rw [if_pos hp]
        rw [e1, e2]
        simp only
        have b1 : decide (0 < fuse) = true := decide_eq_true hp
        have hw : Go.RowKit.wrap64 (fuse - 1) = fuse - 1 := by unfold Go.RowKit.wrap64; omega
        have HWR := Lib.hid hw
        clear hw
        clear e1 e2 hf
        go_enter Try.func48, Try.ntmps48
        go_wp2_with fail
        go_ret
        rw [HWR.out]
        have h := blk_fuse HB.out (.int .i64 (fuse - 1))
        exact ⟨rfl, h.1, h.2⟩
      · have e2 : deed ⟨fs, room, fuse, false⟩ = ⟨fs, room, fuse, false⟩ := by
          unfold deed
          rw [e1]
          simp only [Bool.false_eq_true, if_false]
          rw [if_neg hp]
        rw [e1, e2]
        have b1 : decide (0 < fuse) = false := decide_eq_false hp
        clear e1 e2 hf
        go_enter Try.func48, Try.ntmps48
        go_wp2_with fail
        go_ret
        exact ⟨rfl, HB.out, gr_refl _ _⟩
set_option maxRecDepth 20000 in
set_option maxHeartbeats 4000000 in
theorem new_any (room : Int) (w : World) : Calls Try.prog 11 #[.int .i64 room] w (fun e w' => e = .returned (.pointer (some ⟨w.heap.size, 0, none⟩)) ∧ Blk w' w.heap.size 60 #[.slice none 0 0, .int .i64 (newDk room).room, .int .i64 (-1), .bool false] ∧ Below w.heap.size w w') := by
  obtain ⟨M, hM⟩ : ∃ M : Int, max room 0 = M := ⟨_, rfl⟩
  have hn : (newDk room).room = M := hM
  rw [hn]
  clear hn
  have hmx : ∀ (W : World) (ts : Array TypeId) (ty : TypeId), (Builtin.max_ ts ty #[.int .i64 room, .int .i64 0]).run Try.prog W = .ok (.int .i64 M) W := fun W ts ty => by rw [Lib.run_max_ints, hM]
  have hb := Blk.new w 60 #[.slice none 0 0, .int .i64 M, .int .i64 (-1), .bool false]
  have hbe := bel_alloc (Below.refl w.heap.size w) (.cells #[.slice none 0 0, .int .i64 M, .int .i64 (-1), .bool false] 60)
  have HB := Lib.hid hb
  have HBE := Lib.hid hbe
  clear hb hbe hM
  go_enter Try.func11, Try.ntmps11
  go_wp2_with fail
  go_ret
  exact ⟨rfl, HB.out, HBE.out⟩
end Go.Proofs.Ytcnjjabjdepjgaa.Dsk
