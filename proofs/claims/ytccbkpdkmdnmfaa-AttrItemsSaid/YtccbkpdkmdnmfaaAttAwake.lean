/-
  The document's example: awake answers true, whenever it is asked.
-/
import Derived.Test.YtccbkpdkmdnmfaaAttJoin2
namespace Go.Proofs.Ytccbkpdkmdnmfaa
open Go.RowKit Mem Ids Att

theorem aw_join : joinl [(0, 4)] [(1, 3)] = [(1, 3), (0, 4)] :=
  (setl_eq (l := [(0, 4)] ++ [(1, 3)]) (by decide) fun x => by simp only [List.cons_append, List.nil_append, List.mem_cons, List.not_mem_nil, or_false]; exact Or.comm).symm
theorem aw1 : ajoin ⟨[(0, 4)], 5, 1⟩ ⟨[(1, 3)], 2, 1⟩ = (⟨[(1, 3), (0, 4)], 5, 1⟩, 0) := by
  rw [ajoin_of (a := ⟨[(0, 4)], 5, 1⟩) (b := ⟨[(1, 3)], 2, 1⟩) (by decide) (by decide) rfl (by show (joinl [(0, 4)] [(1, 3)]).length ≤ 4096; rw [aw_join]; decide)]
  show ((⟨joinl [(0, 4)] [(1, 3)], _, _⟩ : At), (0 : Int)) = _
  rw [aw_join]
  rfl

theorem aw_world (w : World) (W : World) (hW : ((((w.alloc (.cells #[.int .i64 1, .int .i64 3] 48)).alloc (.cells #[.int .i64 0, .int .i64 4] 48)).alloc (.cells #[.int .i64 0, .int .i64 4] 48)).alloc (.cells #[.int .i64 1, .int .i64 3] 48)) = W) :
    Blk W w.heap.size 48 #[.int .i64 1, .int .i64 3] ∧ Blk W (w.heap.size + 1) 48 #[.int .i64 0, .int .i64 4] ∧ Rs W (some ⟨w.heap.size + 1 + 1, 0, none⟩) 1 1 [(0, 4)] ∧ Rs W (some ⟨w.heap.size + 1 + 1 + 1, 0, none⟩) 1 1 [(1, 3)] ∧ Below w.heap.size w W := by
  subst hW
  obtain ⟨h1, h2, h3⟩ := two_boxes w 48 #[.int .i64 1, .int .i64 3] #[.int .i64 0, .int .i64 4]
  have hs1 := size_alloc w (.cells #[.int .i64 1, .int .i64 3] 48)
  have hs2 := size_alloc (w.alloc (.cells #[.int .i64 1, .int .i64 3] 48)) (.cells #[.int .i64 0, .int .i64 4] 48)
  generalize (w.alloc (.cells #[.int .i64 1, .int .i64 3] 48)).alloc (.cells #[.int .i64 0, .int .i64 4] 48) = W2 at h1 h2 h3 hs2 ⊢
  have hs3 := size_alloc W2 (.cells #[.int .i64 0, .int .i64 4] 48)
  have r1 := Rs.lit W2 [(0, 4)] #[.int .i64 0, .int .i64 4] 48 1 rfl rfl (by simp [maxLen])
  have r2 := Rs.lit (W2.alloc (.cells #[.int .i64 0, .int .i64 4] 48)) [(1, 3)] #[.int .i64 1, .int .i64 3] 48 1 rfl rfl (by simp [maxLen])
  rw [hs3, hs2, hs1] at r2
  rw [hs2, hs1] at r1
  exact ⟨(h1.alloc _).alloc _, (h2.alloc _).alloc _, r1.alloc _, r2, bel_alloc (bel_alloc h3 _) _⟩

set_option maxHeartbeats 1000000 in
theorem awake_any (w : World) : Calls Try.prog 7 #[] w (Tells true w) := by
  have h1 := fun w A A' (hr : Rs w A 1 1 [(0, 4)]) (hr' : Rs w A' 1 1 [(1, 3)]) => ajoin_any [(0, 4)] 5 1 A 1 1 [(1, 3)] 2 1 A' 1 1 w hr hr'
  rw [aw1] at h1
  have h2 := fun w A n c A' (hr : Rs w A n c [(1, 3), (0, 4)]) (hr' : Rs w A' 2 2 [(1, 3), (0, 4)]) => asame_any [(1, 3), (0, 4)] 5 1 A n c [(1, 3), (0, 4)] 5 1 A' 2 2 w hr hr'
  rw [show asame ⟨[(1, 3), (0, 4)], 5, 1⟩ ⟨[(1, 3), (0, 4)], 5, 1⟩ = true by decide] at h2
  have h3 := fun w => acheck_any [] 0 0 none 0 0 w (Rs.nil_ w)
  rw [show achk ⟨[], 0, 0⟩ = 17 by decide] at h3
  have H1 := Lib.hid h1
  have H2 := Lib.hid h2
  have H3 := Lib.hid h3
  clear h1 h2 h3
  go_enter Try.func7, Try.ntmps7
  go_wp2_with fail
  obtain ⟨W, hW⟩ : ∃ W, ((((w.alloc (.cells #[.int .i64 1, .int .i64 3] 48)).alloc (.cells #[.int .i64 0, .int .i64 4] 48)).alloc (.cells #[.int .i64 0, .int .i64 4] 48)).alloc (.cells #[.int .i64 1, .int .i64 3] 48)) = W := ⟨_, rfl⟩
  obtain ⟨k1, k2, r1, r2, hb⟩ := aw_world w W hW
  rw [hW]
  clear hW
  refine (H1.out _ _ _ r1 r2).mono ?_
  rintro e w1 ⟨V, n, c, rfl, hrs, hb1⟩
  have k1 := k1.bel hb1
  have k2 := k2.bel hb1
  have HB := Lib.hid (bel_trans hb hb1)
  have a0 : w1.cell? ⟨w.heap.size, 0, none⟩ = some (.int .i64 1) := k1.cell 0
  have a1 : w1.cell? ⟨w.heap.size, 1, none⟩ = some (.int .i64 3) := k1.cell 1
  have e0 : w1.cell? ⟨w.heap.size + 1, 0, none⟩ = some (.int .i64 0) := k2.cell 0
  have e1 : w1.cell? ⟨w.heap.size + 1, 1, none⟩ = some (.int .i64 4) := k2.cell 1
  have l1 := k1.lt
  have l2 := k2.lt
  have HRS := Lib.hid hrs
  clear hrs hb1 k1 k2 r1 r2 hb H1
  simp only
  go_wp2_with fail
  have hs3 := size_alloc w1 (.cells #[.slice V n c, .int .i64 5, .int .i64 1] 24)
  have r2 := Rs.lit (w1.alloc (.cells #[.slice V n c, .int .i64 5, .int .i64 1] 24)) [(1, 3), (0, 4)] #[.int .i64 1, .int .i64 3, .int .i64 0, .int .i64 4] 48 2 rfl rfl (by simp [maxLen])
  rw [hs3] at r2
  refine (H2.out _ _ _ _ _ ((HRS.out.alloc _).alloc _) r2).mono ?_
  rintro e w2 ⟨rfl, hb2⟩
  have HB2 := Lib.hid (bel_trans (bel_alloc (bel_alloc HB.out _) _) hb2)
  clear hb2 hs3 r2 H2
  go_wp2_with fail
  refine (H3.out _).mono ?_
  rintro e w3 ⟨rfl, hb3⟩
  have HB3 := Lib.hid (bel_trans HB2.out hb3)
  clear hb3 H3
  go_wp2_with fail
  go_ret
  exact ⟨rfl, HB3.out⟩
end Go.Proofs.Ytccbkpdkmdnmfaa
