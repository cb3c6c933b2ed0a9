/-
  Texts of earlier layers, as one.
-/
import Derived.Test.YtgnpnjfoenmfbaaBagSmall
import Derived.Maps.OwnIn
/- A new bag, how many it has, whether there is one at a place; the questions that a bag's closures ask; the document's Room and Same. -/
namespace Go.Proofs.Ytgnpnjfoenmfbaa.Bg
open Go.RowKit Mem Dsk Go.Maps

set_option maxRecDepth 20000 in
set_option maxHeartbeats 2000000 in
theorem new_any (room : Int) (w : World) : Calls Try.prog 7 #[.int .i64 room] w (fun e w' => ∃ p S, e = .returned (ptr p) ∧ BI w' S p (newBag room) ∧ (∀ k, S k → w.heap.size ≤ k) ∧ Below w.heap.size w w') := by
  have hr : min (max room 0) 4096 = max 0 (min room 4096) := by omega
  obtain ⟨M, hM⟩ : ∃ M : Int, max room 0 = M := ⟨_, rfl⟩
  obtain ⟨R, hR⟩ : ∃ R : Int, min M 4096 = R := ⟨_, rfl⟩
  have hmx : ∀ (W : World) (ts : Array TypeId) (ty : TypeId), (Builtin.max_ ts ty #[.int .i64 room, .int .i64 0]).run Try.prog W = .ok (.int .i64 M) W := fun W ts ty => by rw [Lib.run_max_ints, hM]
  have hmn : ∀ (W : World) (ts : Array TypeId) (ty : TypeId), (Builtin.min_ ts ty #[.int .i64 M, .int .i64 4096]).run Try.prog W = .ok (.int .i64 R) W := fun W ts ty => by rw [Lib.run_min_ints, hR]
  have hnb : newBag room = ⟨[], R, 0⟩ := by unfold newBag; rw [← hr, hM, hR]
  rw [hnb]
  have HB := Lib.hid (bel_alloc (Below.refl w.heap.size w) (.cells #[.slice none 0 0, .int .i64 R, .int .i64 0] 47))
  have HO : Hid (BI (w.alloc (.cells #[.slice none 0 0, .int .i64 R, .int .i64 0] 47)) (fun k => k = w.heap.size) w.heap.size ⟨[], R, 0⟩) := Lib.hid ⟨none, 0, [], ⟨Blk.new w _ _, ⟨rfl, .inl ⟨rfl, rfl⟩⟩, (fun x hx => by cases hx), (fun h => by cases h), rfl, (fun k h => by cases h), (fun k hk => by rw [hk]; simp), Up.nil⟩, rfl⟩
  clear hM hR hnb hr
  go_enter Try.func7, Try.ntmps7
  go_wp2_with fail
  go_ret
  exact ⟨w.heap.size, _, rfl, HO.out, fun k hk => by rw [hk]; exact Nat.le_refl _, HB.out⟩
set_option maxRecDepth 20000 in
theorem len_any (p : Nat) (S : Nat → Prop) (b : Bag) (w : World) (h : BI w S p b) : Calls Try.prog 16 #[ptr p] w (fun e w' => e = .returned (.int .i64 (b.xs.length : Int)) ∧ w' = w) := by
  obtain ⟨A, c, es, ho, he⟩ := h
  have hl : es.length = b.xs.length := by rw [← he, List.length_map]
  rw [← hl]
  have c0 := ho.cells.1
  obtain ⟨n, hn⟩ : ∃ n, es.length = n := ⟨_, rfl⟩
  rw [hn] at c0 ⊢
  clear ho he hl hn
  unfold ptr
  go_enter Try.func16, Try.ntmps16
  go_wp2_with fail
  go_ret
  exact ⟨rfl, rfl⟩
set_option maxRecDepth 20000 in
set_option maxHeartbeats 2000000 in
theorem has_any (p : Nat) (S : Nat → Prop) (b : Bag) (i : Int) (w : World) (h : BI w S p b) : Calls Try.prog 22 #[ptr p, .int .i64 i] w (fun e w' => e = .returned (.bool (atB i b).isSome) ∧ w' = w) := by
  obtain ⟨A, c, es, ho, he⟩ := h
  have hl : es.length = b.xs.length := by rw [← he, List.length_map]
  have c0 := ho.cells.1
  obtain ⟨n, hn⟩ : ∃ n, es.length = n := ⟨_, rfl⟩
  rw [hn] at c0 hl
  have hat : (atB i b).isSome = (decide (0 ≤ i) && decide (i < (n : Int))) := by
    by_cases h0 : 0 ≤ i
    · by_cases h1 : i < (n : Int)
      · rw [at_some (k := i.toNat) (by omega) (by omega), decide_eq_true h0, decide_eq_true h1]
        rfl
      · rw [at_none (.inr (by omega)), decide_eq_false h1, Bool.and_false]
        rfl
    · rw [at_none (.inl (by omega)), decide_eq_false h0]
      rfl
  rw [hat]
  clear ho he hl hn hat
  unfold ptr
  by_cases h0 : 0 ≤ i
  · have b0 : decide (0 ≤ i) = true := decide_eq_true h0
    rw [b0, Bool.true_and]
    go_enter Try.func22, Try.ntmps22
    go_wp2_with fail
    go_ret
    exact ⟨rfl, rfl⟩
  · have b0 : decide (0 ≤ i) = false := decide_eq_false h0
    rw [b0, Bool.false_and]
    go_enter Try.func22, Try.ntmps22
    go_wp2_with fail
    go_ret
    exact ⟨rfl, rfl⟩
set_option maxRecDepth 20000 in
theorem room_any (room : Int) (w : World) : Calls Try.prog 8 #[.int .i64 room] w (fun e w' => e = .returned (.int .i64 (newBag room).r) ∧ w' = w) := by
  unfold newBag
  go_enter Try.func8, Try.ntmps8
  go_wp2_with fail
  go_ret
  exact ⟨rfl, rfl⟩
set_option maxRecDepth 20000 in
set_option maxHeartbeats 2000000 in
theorem refsame_any (x : En) (A B : Option Addr) (c d : Nat) (w : World) (ha : Rd w A x.bs.length c (cs x.bs)) (hb : Rd w B x.bs.length d (cs x.bs)) :
    Calls Try.prog 11 #[.agg #[.int .i64 x.f, .int .i64 x.t, .slice A x.bs.length c], .agg #[.int .i64 x.f, .int .i64 x.t, .slice B x.bs.length d]] w (Tells true w) := by
  obtain ⟨f, t, bs⟩ := x
  simp only at ha hb ⊢
  have hbel := bel_alloc (bel_alloc (Below.refl w.heap.size w) (.cells #[.int .i64 f, .int .i64 t, .slice A bs.length c] 29)) (.cells #[.int .i64 f, .int .i64 t, .slice B bs.length d] 29)
  have hs := same_tells A B bs.length bs.length c d bs bs true _ (ha.below hbel) (hb.below hbel) (decide_eq_true rfl)
  obtain ⟨n, hn⟩ : ∃ n, bs.length = n := ⟨_, rfl⟩
  rw [hn] at hs hbel ⊢
  have e1 : (f == f) = true := by simp
  have e2 : (t == t) = true := by simp
  have HS := Lib.hid hs
  have HB := Lib.hid hbel
  clear ha hb hs hbel hn
  go_enter Try.func11, Try.ntmps11
  go_wp2_with fail
  refine HS.out.mono ?_
  rintro e u ⟨rfl, hb⟩
  have HU := Lib.hid (bel_trans HB.out hb)
  clear hb
  go_wp2_with fail
  go_ret
  exact ⟨rfl, HU.out⟩
set_option maxRecDepth 20000 in
theorem keeps_any (x : En) (to : Int) (A : Option Addr) (n c : Nat) (w : World) :
    Calls Try.prog 15 #[.agg #[.int .i64 to], .agg #[.int .i64 x.f, .int .i64 x.t, .slice A n c]] w (Tells (!decide (x.t = to)) w) := by
  obtain ⟨f, t, bs⟩ := x
  have hb := bel_alloc (bel_alloc (Below.refl w.heap.size w) (.cells #[.int .i64 to] 41)) (.cells #[.int .i64 f, .int .i64 t, .slice A n c] 29)
  have HB := Lib.hid hb
  have e1 : (t != to) = !decide (t = to) := by
    by_cases h : t = to <;> simp [h]
  obtain ⟨v, hv⟩ : ∃ v, (!decide (t = to)) = v := ⟨_, rfl⟩
  rw [hv] at e1 ⊢
  clear hb hv
  go_enter Try.func15, Try.ntmps15
  go_wp2_with fail
  go_ret
  exact ⟨rfl, HB.out⟩
set_option maxRecDepth 20000 in
theorem isit_any (x : Pe) (g : Nat) (n : Int) (w : World) (h : Blk w g 3 #[.int .i64 n]) :
    Calls Try.prog 20 #[valP x, .pointer (some ⟨g, 0, none⟩)] w (Tells (decide (x.k = n)) w) := by
  obtain ⟨k, ⟨f, t, bs⟩, A, c⟩ := x
  unfold valP
  simp only
  have hb := bel_alloc (Below.refl w.heap.size w) (.cells #[.int .i64 k, .int .i64 f, .int .i64 t, .slice A bs.length c] 50)
  have c0 := (h.alloc (.cells #[.int .i64 k, .int .i64 f, .int .i64 t, .slice A bs.length c] 50)).cell 0
  simp only [List.getElem?_toArray, List.getElem?_cons_zero] at c0
  have HB := Lib.hid hb
  have e1 : (k == n) = decide (k = n) := by
    by_cases h : k = n <;> simp [h]
  obtain ⟨v, hv⟩ : ∃ v, decide (k = n) = v := ⟨_, rfl⟩
  rw [hv] at e1 ⊢
  clear hb hv h
  go_enter Try.func20, Try.ntmps20
  go_wp2_with fail
  go_ret
  exact ⟨rfl, HB.out⟩
/-- The map has these numbers. -/
def Gone (D : DataW Value) (ks : List Int) : Prop := IsMap D ∧ ∀ i : Int, (Lit.int .i64 i).wf = true → has D (.int .i64 i) = decide (i ∈ ks)
theorem Gone.nil : Gone (.map []) [] := ⟨isMap_empty, fun _ _ => rfl⟩
theorem Gone.put {D : DataW Value} {ks : List Int} (h : Gone D ks) {i : Int} (hi : (Lit.int .i64 i).wf = true) : Gone (D.put (.int .i64 i) (.agg [])) (ks ++ [i]) := by
  refine ⟨h.1.put _ _, fun j hj => ?_⟩
  by_cases e : j = i
  · subst e
    rw [has_put_same h.1 (by trivial)]
    simp
  · rw [has_put_other (fun e' => e (by injection e')), h.2 j hj]
    simp [e]
theorem int_law : Keyed Try.prog 3 := int_keyed Try.underlying3
set_option maxRecDepth 20000 in
set_option maxHeartbeats 2000000 in
theorem gone_any (x : Pe) (g m n : Nat) (D : DataW Value) (ks : List Int) (w : World) (h : Blk w g 54 #[.map (some m)]) (hm : w.ownsMap Try.prog 3 unitElem m n D) (hD : Gone D ks) (hk : (Lit.int .i64 x.k).wf = true) :
    Calls Try.prog 25 #[valP x, .pointer (some ⟨g, 0, none⟩)] w (Tells (decide (x.k ∈ ks)) w) := by
  have hd := hD.2 x.k hk
  obtain ⟨k, ⟨f, t, bs⟩, A, c⟩ := x
  unfold valP
  simp only at hk hd ⊢
  have hb := bel_alloc (bel_alloc (Below.refl w.heap.size w) (.cells #[.int .i64 k, .int .i64 f, .int .i64 t, .slice A bs.length c] 50)) (.cells #[] 56)
  have c0 := (h.alloc (.cells #[.int .i64 k, .int .i64 f, .int .i64 t, .slice A bs.length c] 50)).cell 0
  simp only [List.getElem?_toArray, List.getElem?_cons_zero] at c0
  have hown := hm.alloc (.cells #[.int .i64 k, .int .i64 f, .int .i64 t, .slice A bs.length c] 50)
  obtain ⟨v, ps, hlook, hv⟩ := hown.look_ok int_law (t := 54) Try.underlying54 (Try.zeroValue56 _) unitElem_mk (keyOf_int_mk Try.underlying3 hk)
  obtain ⟨rfl, _⟩ := unitElem_inv hv
  rw [hd] at hlook
  obtain ⟨r, hr⟩ : ∃ r, decide (k ∈ ks) = r := ⟨_, rfl⟩
  rw [hr] at hlook ⊢
  have HB := Lib.hid hb
  clear hb hr h hm hown hv hd hD
  go_enter Try.func25, Try.ntmps25
  go_wp2_with fail
  go_ret
  exact ⟨rfl, HB.out⟩
end Go.Proofs.Ytgnpnjfoenmfbaa.Bg
