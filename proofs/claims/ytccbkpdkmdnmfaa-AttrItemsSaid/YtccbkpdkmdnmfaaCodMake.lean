/-
  codec.Num: the item; slices.Clone of items: the same cells in a row of the call's own.
-/
import Derived.Test.YtccbkpdkmdnmfaaProg
import Derived.Test.YtccbkpdkmdnmfaaCodNode
import Derived.Laws.Cover3
namespace Go.Proofs.Ytccbkpdkmdnmfaa
open Go.RowKit Mem Cod

theorem info25 : (Try.prog.info? 37).map (fun i => (i.zero, i.size, i.bytes)) = some (some (.agg #[.int .i64 0, .int .u64 0, .string ⟨#[]⟩, .slice none 0 0]), 4, 56) := by kernel_rfl

/-- The ending: this value; what was there stays. -/
def Hands (v : Value) (w : World) (e : Ending) (w' : World) : Prop := e = .returned v ∧ Below w.heap.size w w'

theorem num_any (v : Int) (w : World) : Calls Try.prog 34 #[.int .u64 v] w (Hands (.agg #[.int .i64 0, .int .u64 v, .string ByteArray.empty, .slice none 0 0]) w) := by
  go_enter Try.func34, Try.ntmps34
  go_wp2_with fail
  exact bodyPost_ret (v := .agg #[.int .i64 0, .int .u64 v, .string ByteArray.empty, .slice none 0 0]) (by simp [results, Try.results34, go_sem]; rfl) rfl ⟨rfl, bel_alloc (Below.refl _ _) _⟩

/-- The ending: a row of the call's own, with these cells. -/
def Cloned (n : Nat) (vs : List Value) (w : World) (e : Ending) (w' : World) : Prop :=
  ∃ V c, e = .returned (.slice V n c) ∧ w'.ownsRow w.heap.size 37 4 (.slice V n c) n vs ∧ Below w.heap.size w w'

theorem own_form {w : World} {base : Nat} {e : TypeId} {size : Nat} {v : Value} {n : Nat} {xs : List Value} (h : w.ownsRow base e size v n xs) : ∃ V c, v = .slice V n c := by
  rcases h.2 with ⟨rfl, rfl⟩ | ⟨g, cap, cur, rfl, _⟩
  · exact ⟨none, 0, rfl⟩
  · exact ⟨_, _, rfl⟩

set_option maxHeartbeats 1000000 in
theorem clone_any (A : Option Addr) (n c : Nat) (vs : List Value) (w : World) (hl : vs.length = n * 4) (hn : n ≤ 1000000) (h0 : A = none → n = 0 ∧ c = 0) (h1 : ∀ u ∈ vs, u.oneCell' = true) (hc : ∀ ad, A = some ad → ∀ j u, vs[j]? = some u → w.cell? (ad.add j) = some u) :
    Calls Try.prog 54 #[.slice A n c] w (Cloned n vs w) := by
  obtain ⟨i0, hi, hz0, hz1, hz2⟩ := info_parts info25
  have hnil : ∀ (W : World) (a : Option Addr) (n c : Nat), (binOp .eql 35 (.slice a n c) (.slice none 0 0)).run Try.prog W = .ok (.bool a.isNone) W := fun W a n c => by
    simp only [binOp]
    simp [run_equal_slice_nil W _ _ a n c Try.underlying35]
  have HC := Lib.hid hc
  have HL := Lib.hid hl
  have H1 := Lib.hid h1
  clear hc hl h1
  rcases A with _ | ad
  · obtain ⟨rfl, rfl⟩ := h0 rfl
    go_enter Try.func54, Try.ntmps54
    go_wp2_with fail
    go_ret
    have : vs = [] := List.eq_nil_of_length_eq_zero (by have := HL.out; omega)
    subst this
    exact ⟨none, 0, rfl, ⟨rfl, .inl ⟨rfl, rfl⟩⟩, Below.refl _ _⟩
  · clear h0
    go_enter Try.func54, Try.ntmps54
    go_wp2_with (at_builtin; refine wpList_append_own _ rfl (.tmp 5) (.tmp 6) 35 rfl w.heap.size 37 i0 _ 4 56 Try.underlying35 hi hz0 hz1 hz2 rfl (by omega) (.slice (some ⟨w.heap.size, 0, none⟩) 0 0) 0 [] rfl (World.ownsRow_lit w #[] 0 (Nat.le_refl _) (by simp [maxLen]) rfl) ad n c vs rfl HL.out (fun j u hu => (World.cell?_alloc_lt w _ _ (World.block_lt_of_cell? w _ (HC.out ad rfl j u hu))).trans (HC.out ad rfl j u hu)) H1.out (by unfold maxLen; omega) (by omega) (by rw [size_alloc]; omega) ?_; rw [Nat.zero_add, List.nil_append]; intro v1 w1 hown1 hg1 _; obtain ⟨V1, c1, rfl⟩ := own_form hown1)
    go_ret
    refine ⟨V1, c1, rfl, hown1, (bel_alloc (Below.refl _ _) _).trans (gr_below hg1 (by rw [size_alloc]; omega) fun b hb => ?_)⟩
    simp [Value.ownBlock] at hb
    omega
end Go.Proofs.Ytccbkpdkmdnmfaa
