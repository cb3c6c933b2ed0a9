/-
  The document's example holds: 'awake' answers true, whatever the world; what was there stays.
-/
import Derived.Test.YthlhlhihllgfiaaCodList
import Derived.Test.YthlhlhihllgfiaaCodPut
namespace Go.Proofs.Ythlhlhihllgfiaa
open Go.RowKit Mem Cod

theorem lies_leaf (w : World) (S : Nat → Prop) {k : Int} {n : Nat} {s : ByteArray} (hk : -9223372036854775808 ≤ k ∧ k ≤ 9223372036854775807) (hn : n ≤ 18446744073709551615) (hs : s.size ≤ 140737488355328) : Lies w S (.mk k n s []) none 0 := by
  rw [lies_eq]
  exact ⟨⟨hk.1, hk.2, hn, hs⟩, ⟨Nat.le_refl _, by omega, fun _ => rfl⟩, fun i hi => by simp [It.kids] at hi⟩

/-- A slice literal of items, just made. -/
theorem row_lit (W : World) (hs : List Hung) (vs : Array Value) (n : Nat) (hv : vs.toList = cells4 hs) (hn : hs.length = n) (hm : n ≤ 9223372036854775807) (hl : ∀ h ∈ hs, Lies W (fun b => b < W.heap.size) h.x h.A h.c) :
    Row (W.alloc (.cells vs 25)) (fun b => b < W.heap.size + 1) (some ⟨W.heap.size, 0, none⟩) n n (hs.map (·.x)) := by
  refine Row.of_hung hn ⟨Nat.le_refl _, hm, (fun e => by cases e)⟩ (fun h hh => ((hl h hh).alloc _).more fun b hb _ => by omega) fun _ => ⟨_, rfl, Nat.lt_succ_self _, by simp, fun j u hu => ?_⟩
  rw [Addr.add_lit, Nat.zero_add, cell_of_row _ _ _ _ _ _ (heap_alloc_new W _)]
  rw [← hv] at hu
  simpa using hu

def exam : It := .mk 2 0 ByteArray.empty [.mk 0 5 ByteArray.empty [], .mk 1 0 ⟨#[97]⟩ []]
theorem exam_chk : chk exam 0 = 0 := by decide
theorem exam_form : form exam = [2, 2, 0, 5, 1, 1, 97] := by decide

set_option maxHeartbeats 2000000 in
theorem awake_true (w : World) : Calls Try.prog 10 #[] w (Tells true w) := by
  go_enter Try.func10, Try.ntmps10
  go_wp2_with fail
  refine (num_any 5 w).mono ?_
  rintro e w1 ⟨rfl, hb1⟩
  go_wp2_with fail
  refine (text_any ⟨#[97]⟩ w1).mono ?_
  rintro e w2 ⟨rfl, hb2⟩
  have hrow := row_lit w2 [⟨.mk 0 5 ByteArray.empty [], none, 0⟩, ⟨.mk 1 0 ⟨#[97]⟩ [], none, 0⟩] #[.int .i64 0, .int .u64 5, .string ByteArray.empty, .slice none 0 0, .int .i64 1, .int .u64 0, .string ⟨#[97]⟩, .slice none 0 0] 2 rfl rfl (by omega)
    (by intro h hh; simp at hh; rcases hh with rfl | rfl <;> exact lies_leaf _ _ (by omega) (by omega) (by decide))
  have HROW := Lib.hid hrow
  have hb12 := bel_trans hb1 hb2
  clear hrow hb1 hb2
  go_wp2_with fail
  refine (list_any _ 2 2 _ _ _ HROW.out (fun b hb => by rw [size_alloc]; exact hb) (by decide)).mono ?_
  rintro e w3 ⟨V3, c3, rfl, hr3, hb3⟩
  have hl3 : Lies w3 (fun b => b < w3.heap.size) exam V3 c3 := hr3.lies (by omega) (by omega) (by decide)
  have hb13 := hb12.trans ((bel_alloc (Below.refl _ _) _).trans (hb3.mono (by rw [size_alloc]; omega)) |>.mono hb12.size)
  have HL3 := Lib.hid hl3
  have HB13 := Lib.hid hb13
  clear hr3 hb3 hl3 hb13 hb12
  go_wp2_with fail
  refine (put_item exam V3 c3 _ w3 HL3.out (fun _ h => h) (by rw [exam_form]; decide)).mono ?_
  rintro e w4 ⟨A4, n4, c4, rfl, hr4, hb4⟩
  rw [if_pos exam_chk, exam_form] at hr4
  rw [exam_chk]
  have HR4 := Lib.hid hr4
  clear hr4
  go_wp2_with fail
  refine (same_tells A4 _ n4 7 c4 7 _ _ true _ (HR4.out.alloc _) (Rd.lit w4 (cs [2, 2, 0, 5, 1, 1, 97]) 5 7 rfl (by simp [maxLen])) (by decide)).mono ?_
  rintro e w5 ⟨rfl, hb5⟩
  go_wp2_with fail
  go_ret
  exact ⟨rfl, HB13.out.trans ((hb4.mono HB13.out.size).trans ((bel_alloc (Below.refl _ _) _).trans (hb5.mono (by rw [size_alloc]; omega)) |>.mono (by have := HB13.out.size; have := hb4.size; omega)))⟩
end Go.Proofs.Ythlhlhihllgfiaa
