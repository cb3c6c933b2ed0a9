/-
  Texts of earlier layers, as one.
-/
import Derived.Test.YtldlcddmbgcfdaaWhlCalls
/- The program's New, At, Next, Cancel. -/
namespace Go.Proofs.Ytldlcddmbgcfdaa.Wh
open Go.RowKit Mem Dsk Go.Maps

theorem blk2 {w : World} {g : Nat} {t : TypeId} {a b : Value} (h : Blk w g t #[a, b]) : w.cell? ⟨g, 0, none⟩ = some a ∧ w.cell? ⟨g, 1, none⟩ = some b := ⟨h.cell 0, h.cell 1⟩
/-- When an id is due. -/
def atR (l : List Tm) (i : Int × Int) : Option Int := (l.find? fun t => decide (t.i = i)).map (·.a)
theorem atR_in {l : List Tm} (u : Uq l) {t : Tm} {i : Int × Int} (ht : t ∈ l) (e : t.i = i) : atR l i = some t.a := by
  unfold atR
  cases hf : l.find? fun t => decide (t.i = i) with
  | none =>
    have := List.find?_eq_none.1 hf t ht
    simp [e] at this
  | some y =>
    have h1 := List.mem_of_find?_eq_some hf
    have h2 := List.find?_some hf
    simp only [decide_eq_true_eq] at h2
    rw [u.eq h1 ht (h2.trans e.symm)]
    rfl
theorem atR_out {l : List Tm} {i : Int × Int} (h : ∀ t ∈ l, t.i ≠ i) : atR l i = none := by
  unfold atR
  rw [List.find?_eq_none.2 fun t ht => by simpa using h t ht]
  rfl
theorem find_or (h : List Tm) (i : Int × Int) : (∃ (k : Nat) (t : Tm), h[k]? = some t ∧ t.i = i) ∨ ∀ t ∈ h, t.i ≠ i := by
  cases e : posR h i with
  | none => exact .inr (posR_none e)
  | some k =>
    obtain ⟨t, h1, h2⟩ := posR_some e
    exact .inl ⟨k, t, h1, h2⟩
set_option maxRecDepth 20000 in
set_option maxHeartbeats 2000000 in
theorem new_any (w : World) : Calls Try.prog 7 #[] w (fun e w' => ∃ p S, e = .returned (ptr p) ∧ WI w' S p [] ∧ (∀ k, S k → w.heap.size ≤ k) ∧ Below w.heap.size w w') := by
  have hmm := @run_makeMap Try.prog
  have hb1 := bel_alloc (Below.refl w.heap.size w) (.map #[] 0)
  have hpm := World.ownsMap_made (H := Value) w Try.prog 28 (plainElem Try.prog 3)
  have HB := Lib.hid (bel_alloc hb1 (.cells #[.slice none 0 0, .map (some w.heap.size)] 53))
  have HO : Hid (WI ((w.alloc (.map #[] 0)).alloc (.cells #[.slice none 0 0, .map (some w.heap.size)] 53)) (fun k => k = w.heap.size ∨ k = w.heap.size + 1) (w.heap.size + 1) []) := by
    refine Lib.hid ⟨none, 0, w.heap.size, .map [], [], ⟨?_, ⟨rfl, .inl ⟨rfl, rfl⟩⟩, ?_, Holds.nil, List.Pairwise.nil, (fun x hx => by cases hx), (fun h => by cases h), (fun h => by cases h), by omega, .inr rfl, .inl rfl, (fun k h => by cases h), fun k hk => ?_⟩, (fun k _ h => by cases h), List.Perm.refl _, List.Pairwise.nil⟩
    · have := Blk.new (w.alloc (.map #[] 0)) 53 #[.slice none 0 0, .map (some w.heap.size)]
      rw [size_alloc] at this
      exact this
    · exact hpm.alloc _
    · simp
      omega
  clear hb1 hpm
  go_enter Try.func7, Try.ntmps7
  go_wp2_with fail
  go_ret
  exact ⟨w.heap.size + 1, _, rfl, HO.out, fun k hk => by rcases hk with rfl | rfl <;> omega, HB.out⟩
set_option maxRecDepth 20000 in
set_option maxHeartbeats 4000000 in
theorem at_any {S : Nat → Prop} {p : Nat} {x : List Tm} (i : Int × Int) (w : World) (hw : WI w S p x) (hwf : Wf i) (hl : x.length ≤ 900000) :
    Calls Try.prog 9 #[ptr p, .agg #[.int .i64 i.1, .int .i64 i.2]] w (fun e w' => e = .returned (.tuple #[.int .i64 ((atR x i).getD 0), .bool (atR x i).isSome]) ∧ Below w.heap.size w w') := by
  obtain ⟨A, c, b, D, h, ho, hh, hpm, hs⟩ := hw
  obtain ⟨i1, i2⟩ := i
  have hb1 := bel_alloc (Below.refl w.heap.size w) (.cells #[.int .i64 i1, .int .i64 i2] 28)
  have hbx := Blk.new w 28 #[.int .i64 i1, .int .i64 i2]
  obtain ⟨W, hW⟩ : ∃ v, w.alloc (.cells #[.int .i64 i1, .int .i64 i2] 28) = v := ⟨_, rfl⟩
  rw [hW] at hb1 hbx
  have hoW := ho.below hb1
  have hw1 := hoW.cells.2
  obtain ⟨e0, e1⟩ := blk2 hbx
  rcases find_or h (i1, i2) with ⟨k, ⟨ti, ta⟩, hk, hti⟩ | hno
  · have hti : ti = (i1, i2) := hti
    subst hti
    have hat := atR_in (ho.uq.perm hpm) (hpm.mem_iff.1 (List.mem_of_getElem? hk)) rfl
    rw [hat]
    have hlk := fun q => look_yes (w := W.drewN q) (show PM (W.drewN q) b h.length D from hoW.mp) ho.hol hk hwf
    have hkl := (List.getElem?_eq_some_iff.1 hk).1
    obtain ⟨g, rfl, _, _, _, hlc, hhd⟩ := hoW.hdr (by omega)
    have hc3 := (three (hhd.at_ hk)).2.2
    simp only [LT] at hc3
    have c0 := hoW.cells.1
    simp only at hc3 ⊢
    obtain ⟨n, hn⟩ : ∃ n, h.length = n := ⟨_, rfl⟩
    rw [hn] at c0 hkl hlc
    have hln : n ≤ 900000 := by rw [← hn, hpm.length_eq]; exact hl
    unfold idV at hlk
    have HB := Lib.hid hb1
    have HW := Lib.hid hW
    clear hwf hl ho hh hpm hs hb1 hbx hW hoW hk hat hhd hn
    unfold ptr
    go_enter Try.func9, Try.ntmps9
    go_upto_region 1 with fail
    rw [HW.out]
    go_quiet (fail)
    go_wp2_with fail
    refine bodyPost_ret (v := .tuple #[.int .i64 ta, .bool true]) (by simp [results, Try.results9, go_sem]) rfl ?_
    exact ⟨rfl, below_drewN HB.out _⟩
  · have hat := atR_out (l := x) (i := (i1, i2)) fun t ht => hno t (hpm.mem_iff.2 ht)
    rw [hat]
    have hlk := fun q => look_no (w := W.drewN q) (show PM (W.drewN q) b h.length D from hoW.mp) ho.hol hno hwf
    unfold idV at hlk
    have HB := Lib.hid hb1
    have HW := Lib.hid hW
    clear hwf hl ho hh hpm hs hb1 hbx hW hoW hat hno
    unfold ptr
    go_enter Try.func9, Try.ntmps9
    go_upto_region 1 with fail
    rw [HW.out]
    go_quiet (fail)
    go_wp2_with fail
    refine bodyPost_ret (v := .tuple #[.int .i64 0, .bool false]) (by simp [results, Try.results9, go_sem]) rfl ?_
    exact ⟨rfl, below_drewN HB.out _⟩
set_option maxRecDepth 20000 in
set_option maxHeartbeats 4000000 in
theorem next_any {S : Nat → Prop} {p : Nat} {x : List Tm} (w : World) (hw : WI w S p x) (hl : x.length ≤ 900000) :
    Calls Try.prog 16 #[ptr p] w (fun e w' => e = .returned (.tuple #[.int .i64 ((x.head?.map (·.a)).getD 0), .bool (x.head?).isSome]) ∧ w' = w) := by
  have hlen := len_any w hw
  obtain ⟨A, c, b, D, h, ho, hh, hpm, hs⟩ := hw
  cases x with
  | nil =>
    have HL := Lib.hid hlen
    simp only [List.head?_nil, Option.map_none, Option.getD_none, Option.isSome_none, List.length_nil] at HL ⊢
    unfold ptr at HL ⊢
    clear hlen ho hh hpm hs hl
    go_enter Try.func16, Try.ntmps16
    go_wp2_with fail
    refine HL.out.mono ?_
    rintro e w2 ⟨rfl, rfl⟩
    go_wp2_with fail
    refine bodyPost_ret (v := .tuple #[.int .i64 0, .bool false]) (by simp [results, Try.results16, go_sem]) rfl ?_
    exact ⟨rfl, rfl⟩
  | cons r x =>
    have hr := root_first hh hpm hs
    obtain ⟨g, rfl, _, _, _, hlc, hhd⟩ := ho.hdr (by rw [hpm.length_eq]; simp)
    have hc3 := (three (hhd.at_ hr)).2.2
    simp only [LT] at hc3
    have c0 := ho.cells.1
    obtain ⟨n, hn⟩ : ∃ n, (r :: x).length = n := ⟨_, rfl⟩
    have hn1 : 0 < n := by rw [← hn]; simp
    rw [hpm.length_eq, hn] at c0 hlc
    rw [hn] at hlen hl
    obtain ⟨ra, hra⟩ : ∃ v, r.a = v := ⟨_, rfl⟩
    simp only [List.head?_cons, Option.map_some, Option.getD_some, Option.isSome_some]
    rw [hra] at hc3 ⊢
    have hn0 : ¬ (n : Int) = 0 := by omega
    have hn2 : ((n : Int) == 0) = false := by simpa using hn0
    have HL := Lib.hid hlen
    unfold ptr at HL ⊢
    clear hlen ho hh hpm hs hn hra hr hhd
    go_enter Try.func16, Try.ntmps16
    go_wp2_with fail
    refine HL.out.mono ?_
    rintro e w2 ⟨rfl, rfl⟩
    go_wp2_with fail
    refine bodyPost_ret (v := .tuple #[.int .i64 ra, .bool true]) (by simp [results, Try.results16, go_sem]) rfl ?_
    exact ⟨rfl, rfl⟩
set_option maxRecDepth 20000 in
set_option maxHeartbeats 4000000 in
theorem cancel_any {S : Nat → Prop} {p : Nat} {x : List Tm} (i : Int × Int) (w : World) (hw : WI w S p x) (hwf : Wf i) (hl : x.length ≤ 900000) :
    Calls Try.prog 12 #[ptr p, .agg #[.int .i64 i.1, .int .i64 i.2]] w (fun e w' => e = .returned (.bool (atR x i).isSome) ∧ WI w' S p (outR x i) ∧ Keeps S w w') := by
  obtain ⟨A, c, b, D, h, ho, hh, hpm, hs⟩ := hw
  obtain ⟨i1, i2⟩ := i
  have hb1 := bel_alloc (Below.refl w.heap.size w) (.cells #[.int .i64 i1, .int .i64 i2] 28)
  have hbx := Blk.new w 28 #[.int .i64 i1, .int .i64 i2]
  obtain ⟨W, hW⟩ : ∃ v, w.alloc (.cells #[.int .i64 i1, .int .i64 i2] 28) = v := ⟨_, rfl⟩
  rw [hW] at hb1 hbx
  have hoW := ho.below hb1
  have hw1 := hoW.cells.2
  obtain ⟨e0, e1⟩ := blk2 hbx
  rcases find_or h (i1, i2) with ⟨k, ⟨ti, ta⟩, hk, hti⟩ | hno
  · have hti : ti = (i1, i2) := hti
    subst hti
    have hat := atR_in (ho.uq.perm hpm) (hpm.mem_iff.1 (List.mem_of_getElem? hk)) rfl
    rw [hat]
    have hlk := fun q => look_yes (w := W.drewN q) (show PM (W.drewN q) b h.length D from hoW.mp) ho.hol hk hwf
    have hkl := (List.getElem?_eq_some_iff.1 hk).1
    have hrm := fun q => remove_any (i := k) (W.drewN q) (hoW.below (below_drewN (Below.refl _ _) q)) hkl hh (by rw [hpm.length_eq]; exact hl)
    rw [G_at hk] at hrm
    unfold ifc at hrm
    unfold idV at hlk
    have HRM := Lib.hid hrm
    have HB := Lib.hid hb1
    have HW := Lib.hid hW
    have HF := Lib.hid (And.intro ho.uq (And.intro hpm hs))
    clear hwf hl ho hh hpm hs hb1 hbx hW hoW hk hat hkl hrm
    unfold ptr at HRM ⊢
    go_enter Try.func12, Try.ntmps12
    go_upto_region 1 with fail
    rw [HW.out]
    go_quiet (fail)
    clear hlk
    go_wp2_with fail
    refine (HRM.out _).mono ?_
    rintro e u ⟨v, D', h', rfl, hrest⟩
    have HR := Lib.hid hrest
    clear hrest
    go_wp2_with fail
    go_ret
    obtain ⟨ho', hh', hp', hk'⟩ := HR.out
    have hout : h'.Perm (outR x (i1, i2)) := (out_of HF.out.1 (hp'.symm.trans (List.perm_append_singleton _ h'))).trans (out_perm HF.out.2.1 (i1, i2))
    exact ⟨rfl, ⟨A, c, b, D', h', ho', hh', hout, HF.out.2.2.out (i1, i2)⟩, (Keeps.ofBelow (below_drewN HB.out _)).trans hk' (Grew.refl _ _)⟩
  · have hat := atR_out (l := x) (i := (i1, i2)) fun t ht => hno t (hpm.mem_iff.2 ht)
    rw [hat, out_none fun t ht => hno t (hpm.mem_iff.2 ht)]
    have hlk := fun q => look_no (w := W.drewN q) (show PM (W.drewN q) b h.length D from hoW.mp) ho.hol hno hwf
    unfold idV at hlk
    have HB := Lib.hid hb1
    have HW := Lib.hid hW
    have HWI := Lib.hid (show WI w S p x from ⟨A, c, b, D, h, ho, hh, hpm, hs⟩)
    clear hwf hl ho hh hpm hs hb1 hbx hW hoW hat hno
    unfold ptr
    go_enter Try.func12, Try.ntmps12
    go_upto_region 1 with fail
    rw [HW.out]
    go_quiet (fail)
    go_wp2_with fail
    go_ret
    exact ⟨rfl, wi_below HWI.out (below_drewN HB.out _), Keeps.ofBelow (below_drewN HB.out _)⟩
end Go.Proofs.Ytldlcddmbgcfdaa.Wh
