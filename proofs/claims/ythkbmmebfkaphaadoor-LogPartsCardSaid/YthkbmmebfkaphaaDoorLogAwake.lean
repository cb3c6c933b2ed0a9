/-
  Texts of earlier layers, as one.
-/
import Derived.Test.YthkbmmebfkaphaaDoorLogSmall
/- The document's example, and its own form of the empty record. -/
namespace Go.Proofs.YthkbmmebfkaphaaDoor.Lg
open Go.RowKit Mem

theorem put0 : Num.put 0 = [0] := rfl
theorem form0 : form [] = [0] ++ be (Crc.sum [0]) := by
  show Num.put 0 ++ (mark [] (Num.put 0) ++ []) = _
  rw [put0, List.append_nil]
  rfl
set_option maxHeartbeats 1000000 in
theorem refput0 (w : World) : Calls Tryd.prog 34 #[.int .u64 0] w (fun e w' => ∃ V c, e = .returned (.slice V 1 c) ∧ w'.ownsRow w.heap.size 5 1 (.slice V 1 c) 1 (cs [0]) ∧ Below w.heap.size w w') := by
  go_enter Tryd.func34, Tryd.ntmps34
  go_wp2
  go_ret
  exact ⟨_, 1, rfl, ⟨rfl, .inr ⟨w.heap.size, 1, #[.int .u8 0], rfl, Nat.le_refl _, heap_alloc_new w _, Nat.le_refl _, by unfold maxLen; omega, rfl, rfl⟩⟩, bel_alloc (Below.refl _ _) _⟩

set_option maxRecDepth 20000 in
set_option maxHeartbeats 2000000 in
theorem refform0 (w : World) : Calls Tryd.prog 19 #[.slice none 0 0] w (Gives w 5 (form [])) := by
  obtain ⟨i0, hi, hz0, hz1, hz2⟩ := info_parts info5
  have HP := Lib.hid (refput0 w)
  go_enter Tryd.func19, Tryd.ntmps19
  go_wp2_with fail
  refine HP.out.mono ?_
  rintro e w1 ⟨V, c, rfl, hown, hb⟩
  have HO := Lib.hid hown
  have HB := Lib.hid hb
  have HR1 := Lib.hid ((Rd.own hown).alloc (.cells #[] 5))
  clear hown hb
  go_wp2_with (first
    | (at_builtin; refine wpList_append_rd rfl (.tmp 9) (.tmp 10) 32 rfl w1.heap.size 5 i0 _ 1 Tryd.underlying32 hi hz0 hz1 hz2 rfl (some ⟨w1.heap.size, 0, none⟩) 0 0 [] rfl ⟨rfl, .inr ⟨w1.heap.size, 0, #[], rfl, Nat.le_refl _, heap_alloc_new w1 _, Nat.le_refl _, by unfold maxLen; omega, rfl, rfl⟩⟩ V 1 c (cs [0]) rfl HR1.out (cs_one _) (by unfold maxLen; omega) (by omega) (by rw [size_alloc]; omega) ?_; intro V4 c4 w4 hown4 hb4; simp only [Nat.zero_add, List.nil_append] at hown4; have hb34 : Below w1.heap.size w1 w4 := (bel_alloc (Below.refl _ _) _).trans hb4)
    | (at_builtin; refine wpList_append_rd rfl (.tmp 11) (.tmp 12) 32 rfl w1.heap.size 5 i0 _ 1 Tryd.underlying32 hi hz0 hz1 hz2 rfl V4 1 c4 (cs [0]) rfl hown4 none 0 0 [] rfl (Rd.nil_ _) (fun _ h => (by cases h)) (by unfold maxLen; omega) (by omega) hb34.size ?_; intro V5 c5 w5 hown5 hb5))
  simp only [Nat.add_zero, List.append_nil] at hown5
  have hb15 := hb34.trans hb5
  have hs := Cr.ref_any V5 1 c5 [0] w5 (Rd.own hown5) (by decide)
  have hlt := Crc.sum_lt [0] (by decide)
  have hf0 := form0
  obtain ⟨s, hsm⟩ : ∃ s, Crc.sum [0] = s := ⟨_, rfl⟩
  rw [hsm] at hs hlt hf0
  have HS := Lib.hid hs
  have HF := Lib.hid hf0
  have HB5 := Lib.hid (HB.out.trans (hb15.mono HB.out.size))
  have HO5 := Lib.hid (ownsRow_below HO.out hb15)
  clear hs hf0 hb15 hb34 hb5 hb4 hown4 hown5 hsm
  go_wp2_with fail
  refine HS.out.mono ?_
  rintro e w6 ⟨rfl, rfl⟩
  have hlit := Rd.lit w6 [.int .u8 ((s : Int) / 16777216), .int .u8 ((s : Int) / 65536 % 256), .int .u8 ((s : Int) / 256 % 256), .int .u8 ((s : Int) % 256)] 5 4 rfl (by simp [maxLen])
  have e1 : cs (be s) = [.int .u8 ((s : Int) / 16777216), .int .u8 ((s : Int) / 65536 % 256), .int .u8 ((s : Int) / 256 % 256), .int .u8 ((s : Int) % 256)] := by
    have e2 : s / 16777216 % 256 = s / 16777216 := by omega
    simp [be, cs, e2]
  have hlit2 : Rd (w6.alloc (.cells #[.int .u8 ((s : Int) / 16777216), .int .u8 ((s : Int) / 65536 % 256), .int .u8 ((s : Int) / 256 % 256), .int .u8 ((s : Int) % 256)] 5)) (some ⟨w6.heap.size, 0, none⟩) 4 4 (cs (be s)) := by rw [e1]; exact hlit
  have HL := Lib.hid hlit2
  have HO6 := Lib.hid (ownsRow_below HO5.out (bel_alloc (Below.refl w6.heap.size w6) (.cells #[.int .u8 ((s : Int) / 16777216), .int .u8 ((s : Int) / 65536 % 256), .int .u8 ((s : Int) / 256 % 256), .int .u8 ((s : Int) % 256)] 5)))
  have HB6 := Lib.hid (bel_alloc HB5.out (.cells #[.int .u8 ((s : Int) / 16777216), .int .u8 ((s : Int) / 65536 % 256), .int .u8 ((s : Int) / 256 % 256), .int .u8 ((s : Int) % 256)] 5))
  clear hlit hlit2 e1
  go_wp2_with (first
    | (at_builtin; refine wpList_append_rd rfl (.tmp 15) (.tmp 30) 32 rfl w.heap.size 5 i0 _ 1 Tryd.underlying32 hi hz0 hz1 hz2 rfl V 1 c (cs [0]) rfl HO6.out _ 4 4 (cs (be s)) rfl HL.out (cs_one _) (by unfold maxLen; omega) (by omega) HB6.out.size ?_; intro V7 c7 w7 hown7 hb7)
    | (at_builtin; refine wpList_append_rd rfl (.tmp 32) (.tmp 33) 32 rfl w.heap.size 5 i0 _ 1 Tryd.underlying32 hi hz0 hz1 hz2 rfl V7 5 c7 _ rfl hown7 none 0 0 [] rfl (Rd.nil_ _) (fun _ h => (by cases h)) (by unfold maxLen; omega) (by omega) (Nat.le_trans HB6.out.size hb7.size) ?_; intro V8 c8 w8 hown8 hb8))
  have HO8 := Lib.hid hown8
  have HB8 := Lib.hid (HB6.out.trans (hb7.trans hb8))
  clear hown7 hown8 hb7 hb8
  go_ret
  have h8 := Rd.own HO8.out
  refine ⟨V8, c8, rfl, ?_, HB8.out⟩
  rw [HF.out, cs_append]
  simpa using h8
theorem own_first {W : World} {B n c : Nat} {V : Option Addr} {e : TypeId} {x : Value} {xs : List Value} (h : W.ownsRow B e 1 (.slice V n c) n (x :: xs)) : ∃ g, V = some ⟨g, 0, none⟩ ∧ W.cell? ⟨g, 0, none⟩ = some x := by
  have hl := h.1
  rcases h.2 with ⟨_, h0⟩ | ⟨g, cap, cur, ev, _, _⟩
  · rw [h0] at hl
    cases hl
  · injection ev with ev _ _
    subst ev
    exact ⟨g, rfl, h.cells (g := g) rfl 0 x rfl⟩
set_option maxRecDepth 20000 in
set_option maxHeartbeats 2000000 in
theorem lawake_any (w : World) (ht : Cr.Tab w) : Calls Tryd.prog 7 #[] w (Tells true w) := by
  have hfl : (form []).length = 5 := by rw [length_form]; rfl
  have hfb : ∀ x ∈ form [], x < 256 := form_lt (by decide) (fun _ h => (by cases h))
  have hF := lform_any none 0 0 [] w ht (Rd.nil_ w) (fun _ h => (by cases h)) (by decide)
  have hrd : Reads (form []) [[]] [] := by
    have h := reads_forms (l := [[]]) fun p hp => by rw [List.mem_singleton.1 hp]; exact ⟨by decide, fun _ h => (by cases h)⟩
    simpa [forms] using h
  have hfs : (forms [[]]).length = 5 := by simp [forms, hfl]
  have HT := Lib.hid ht
  have HF := Lib.hid hF
  have HFB := Lib.hid hfb
  have HRD := Lib.hid hrd
  have HFL := Lib.hid (And.intro hfl hfs)
  clear ht hF hfb hrd hfl hfs
  go_enter Tryd.func7, Tryd.ntmps7
  go_wp2_with fail
  refine HF.out.mono ?_
  rintro e w1 ⟨V, c, rfl, hown, hb⟩
  rw [HFL.out.1] at hown ⊢
  have hr1 := Rd.own hown
  have hs := scan_any V 5 c (form []) [[]] [] w1 (HT.out.below hb) hr1 HFB.out (by decide) HRD.out
  obtain ⟨g, rfl, hg⟩ := own_first (x := .int .u8 0) (xs := cs (be (Crc.sum [0]))) (by rw [form0] at hown; exact hown)
  have hgl := World.block_lt_of_cell? _ _ hg
  have HR1 := Lib.hid hr1
  have HG := Lib.hid (And.intro hg hgl)
  have HB := Lib.hid hb
  have HS := Lib.hid hs
  clear hown hr1 hs hg hgl hb
  go_wp2_with fail
  refine HS.out.mono ?_
  rintro e w2 ⟨V2, k2, ps, rfl, hm, hb2⟩
  rw [HFL.out.2]
  have hg2 : w2.cell? ⟨g, 0, none⟩ = some (.int .u8 0) := (hb2.cell (p := ⟨g, 0, none⟩) HG.out.2).trans HG.out.1
  have HR2 := Lib.hid (HR1.out.below hb2)
  have HB2 := Lib.hid (HB.out.trans (hb2.mono HB.out.size))
  have HRF := Lib.hid (refform0 w2)
  clear hm hb2
  go_wp2_with fail
  refine HRF.out.mono ?_
  rintro e w3 ⟨V3, c3, rfl, hr3, hb3⟩
  have hsm := same_tells (some ⟨g, 0, none⟩) V3 5 5 c c3 (form []) (form []) true w3 (HR2.out.below hb3) hr3 (decide_eq_true rfl)
  have HSM := Lib.hid hsm
  have HB3 := Lib.hid (HB2.out.trans (hb3.mono HB2.out.size))
  clear hsm hr3 hb3
  go_wp2_with fail
  refine HSM.out.mono ?_
  rintro e w4 ⟨rfl, hb4⟩
  have HB4 := Lib.hid (HB3.out.trans (hb4.mono HB3.out.size))
  clear hb4
  go_wp2_with fail
  go_ret
  exact ⟨rfl, HB4.out⟩
end Go.Proofs.YthkbmmebfkaphaaDoor.Lg
