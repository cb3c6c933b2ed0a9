/-
  The document's Text; the document's examples: awake answers true.
-/
import Derived.Test.YtmbmgmelnejceaaDoorIdsText
import Derived.Test.YtmbmgmelnejceaaDoorIdsCheck
namespace Go.Proofs.YtmbmgmelnejceaaDoor
open Go.RowKit Mem Ids Go.Sort

set_option maxHeartbeats 1000000 in
theorem reftext_any (x : Int × Int) (hx1 : -4611686018427387904 ≤ x.1 ∧ x.1 ≤ 9223372036854775807) (hx2 : -4611686018427387904 ≤ x.2 ∧ x.2 ≤ 9223372036854775807) (w : World) :
    Calls Tryd.prog 18 #[.agg #[.int .i64 x.1, .int .i64 x.2]] w fun e w' => e = .returned (.string (idText x)) ∧ Below w.heap.size w w' := by
  have hblk := Blk.new w 24 #[.int .i64 x.1, .int .i64 x.2]
  have hg1 := bel_alloc (Below.refl w.heap.size w) (.cells #[.int .i64 x.1, .int .i64 x.2] 24)
  obtain ⟨W, hW⟩ : ∃ W, W = w.alloc (.cells #[.int .i64 x.1, .int .i64 x.2] 24) := ⟨_, rfl⟩
  rw [← hW] at hblk hg1
  have HG := Lib.hid hg1
  have H1 := Lib.hid (fun W => reftext1 x.1 hx1.1 hx1.2 W)
  have H2 := Lib.hid (fun W => reftext1 x.2 hx2.1 hx2.2 W)
  have a0 := fun p : BelBy W => p.cell (a := ⟨w.heap.size, 0, none⟩) hblk.lt (hblk.cell 0)
  have a1 := fun p : BelBy W => p.cell (a := ⟨w.heap.size, 1, none⟩) hblk.lt (hblk.cell 1)
  have z1 := itoa_size x.1 (by omega) hx1.2
  have z2 := itoa_size x.2 (by omega) hx2.2
  unfold idText
  generalize itoaS x.1 = s1 at H1 z1 ⊢
  generalize itoaS x.2 = s2 at H2 z2 ⊢
  have n1 : ¬ (9223372036854775807 < s1.size + 1) := by omega
  have n2 : ¬ (9223372036854775807 < s1.size + 1 + s2.size) := by omega
  obtain ⟨x1, x2⟩ := x
  simp only at a0 a1
  clear hblk hg1
  go_enter Tryd.func18, Tryd.ntmps18
  go_wp2_with fail
  rw [← hW]
  clear hW
  refine wp_region_bel (by kernel_rfl) (by kernel_rfl) ?_
  repeat (first | ((with_reducible refine wpQuiet_skip ?_ ?_); (focus rfl); simp only [Act.put, List.setIfInBounds_toArray, List.set_cons_zero, List.set_cons_succ]) | ((with_reducible refine wpQuiet_step (fun K hK => ?_)); go_simp; (with_reducible refine hK _ ?_); clear hK K))
  with_reducible refine wpQuiet_step (fun K hK => ?_)
  go_simp
  apply Exists.intro
  refine ⟨fun _ => ?_, hK _ ?_⟩
  exact Calls.bel_of (H1.out _)
  clear hK K
  repeat (first | ((with_reducible refine wpQuiet_skip ?_ ?_); (focus rfl); simp only [Act.put, List.setIfInBounds_toArray, List.set_cons_zero, List.set_cons_succ]) | ((with_reducible refine wpQuiet_step (fun K hK => ?_)); go_simp; (with_reducible refine hK _ ?_); clear hK K))
  with_reducible refine wpQuiet_step (fun K hK => ?_)
  go_simp
  apply Exists.intro
  refine ⟨fun _ => ?_, hK _ ?_⟩
  exact Calls.bel_of (H2.out _)
  clear hK K
  repeat (first | ((with_reducible refine wpQuiet_skip ?_ ?_); (focus rfl); simp only [Act.put, List.setIfInBounds_toArray, List.set_cons_zero, List.set_cons_succ]) | ((with_reducible refine wpQuiet_step (fun K hK => ?_)); go_simp; (with_reducible refine hK _ ?_); clear hK K))
  with_reducible refine wpQuiet_nil ?_
  intro _ hw'
  obtain ⟨⟨W9, hW9⟩, hw''⟩ := hw'
  subst hw''
  go_wp2_with fail
  go_ret
  exact ⟨rfl, bel_trans HG.out hW9⟩

theorem ex_text : idText (2, 17) = ⟨#[50, 46, 49, 55]⟩ := by
  have h1 : Lib.decDigits 2 = [50] := by rw [Lib.decDigits]; rfl
  have h2 : Lib.decDigits 17 = [49, 55] := by rw [Lib.decDigits, dif_neg (by omega), Lib.decDigits]; rfl
  unfold idText itoaS Lib.itoa
  apply ByteArray.ext
  rw [ByteArray.data_append, ByteArray.data_append]
  simp [h1, h2]

set_option maxHeartbeats 1000000 in
theorem awake_any (w : World) (hT : Tab w) : Calls Tryd.prog 7 #[] w (Tells true w) := by
  have ht := text_any (2, 17) (by omega) (by omega) w hT
  rw [ex_text] at ht
  have hl := fun W => less_any (1, 3) (0, 4) W
  rw [show lt (1, 3) (0, 4) = true by decide] at hl
  have hc := fun W : World => check_any [(1, 3), (0, 4)] (some ⟨W.heap.size, 0, none⟩) 2 2 _ (Rs.lit W [(1, 3), (0, 4)] #[.int .i64 1, .int .i64 3, .int .i64 0, .int .i64 4] 24 2 rfl rfl (by simp [maxLen]))
  rw [show chk [(1, 3), (0, 4)] = true by decide] at hc
  have H1 := Lib.hid ht
  have H2 := Lib.hid hl
  have H3 := Lib.hid hc
  clear ht hl hc
  go_enter Tryd.func7, Tryd.ntmps7
  go_wp2_with fail
  refine H1.out.mono ?_
  rintro e w1 ⟨rfl, hg1⟩
  have hb1 := hg1.bel
  clear hg1
  go_wp2_with fail
  refine (H2.out w1).mono ?_
  rintro e w2 ⟨rfl, hb2⟩
  have hb2' := bel_trans hb1 hb2
  clear hb1 hb2
  go_wp2_with fail
  refine (H3.out w2).mono ?_
  rintro e w3 ⟨rfl, hb3⟩
  go_wp2_with fail
  go_ret
  exact ⟨rfl, bel_trans (bel_alloc hb2' _) hb3⟩
end Go.Proofs.YtmbmgmelnejceaaDoor
