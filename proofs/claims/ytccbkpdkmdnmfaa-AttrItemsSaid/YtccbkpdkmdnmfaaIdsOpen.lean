/-
  Slices of ids, and ids, that came in, as the rows' reading opens them.
-/
import Derived.Test.YtccbkpdkmdnmfaaIdsMem
import Derived.Test.YtccbkpdkmdnmfaaProg
import Derived.WalkKit
import Derived.ProofKit
import Derived.OpenShut
import Derived.Deep.DeepHandedRow
import Derived.Deep.SlicePairs
import Derived.ChangeSame
namespace Go.Proofs.Ytccbkpdkmdnmfaa
open Go.ChangeShapes Go.WideShapes Go.ChangeAt Go.RowKit Mem Ids

section
variable {H : Type} {enc : TypeId × Value → H} {W : World} {held : Bool}
/-- A slice of ids that came in. -/
theorem ids_of' {fuel : Nat} {cs : List Value} {x : DataW H × List MemPlace} (h : DataW.trod enc Try.prog W 0 (fun _ => true) held fuel 22 cs = some x) : ∃ a len cap l, cs = [.slice a len cap] ∧ Rs W a len cap l := by
  rcases Go.Deep.open_slice_pairs Try.underlying22 Try.underlying48 (by kernel_rfl) rfl rfl (by kernel_rfl) (by kernel_rfl) h with ⟨hcs, _⟩ | ⟨ad, len', cap', m, n, V0, V1, D0, D1, P0, P1, hcs, _, hl, hm, hmm, _, hr⟩
  · exact ⟨none, 0, 0, [], hcs, Rs.nil_ W⟩
  · obtain ⟨len, hlen⟩ : ∃ len, len = len' := ⟨_, rfl⟩
    obtain ⟨cap, hcap⟩ : ∃ cap, cap = cap' := ⟨_, rfl⟩
    subst hlen; subst hcap
    have hlm : len ≤ m := by rw [hmm]; split <;> omega
    have hv : ∀ i, ∃ p : Int × Int, i < len → W.cell? (ad.add (i * 2)) = some (.int .i64 p.1) ∧ W.cell? (ad.add (i * 2 + 1)) = some (.int .i64 p.2) := by
      intro i
      by_cases hi : i < len
      · obtain ⟨c0, c1, t0, t1⟩ := hr i (by omega)
        obtain ⟨k0, hk0, _, _⟩ := DataW.trod_int Try.underlying3 t0
        obtain ⟨k1, hk1, _, _⟩ := DataW.trod_int Try.underlying3 t1
        simp only [List.cons.injEq, and_true] at hk0 hk1
        exact ⟨(k0, k1), fun _ => ⟨by rw [c0, hk0], by rw [c1, hk1]⟩⟩
      · exact ⟨(0, 0), fun h => absurd h hi⟩
    obtain ⟨f, hf⟩ := Classical.axiomOfChoice hv
    refine ⟨some ad, len, cap, (List.range len).map f, hcs, by simp, hl, hm, (fun e => by cases e), fun h0 => ?_⟩
    have hs : ad.spot = none := by
      have h1 := (hf 0 h0).1
      have h2 : W.cell? ad = some (.int .i64 (f 0).1) := by simpa [Addr.add] using h1
      unfold World.cell? at h2
      cases hsp : ad.spot with
      | none => rfl
      | some _ =>
        rw [hsp] at h2
        split at h2
        · simp at h2
        · cases h2
    obtain ⟨g, o, sp⟩ := ad
    have hs' : sp = none := hs
    subst hs'
    refine ⟨g, o, rfl, ?_, fun j y hy => ?_⟩
    · have := World.block_lt_of_cell? W _ (hf 0 h0).1
      rwa [add_block] at this
    · rw [List.getElem?_map, Option.map_eq_some_iff] at hy
      obtain ⟨i, hi, rfl⟩ := hy
      have hj := (List.getElem?_eq_some_iff.1 hi).1
      rw [List.length_range] at hj
      have : i = j := by simpa [List.getElem?_range hj] using hi.symm
      subst this
      have := hf i hj
      rw [Addr.add_lit, Addr.add_lit, ← Nat.add_assoc] at this
      exact this
theorem ids_of {fuel : Nat} {a : Option Addr} {len cap : Nat} {x : DataW H × List MemPlace} (h : DataW.trod enc Try.prog W 0 (fun _ => true) held fuel 22 [.slice a len cap] = some x) : ∃ l, Rs W a len cap l := by
  obtain ⟨a', len', cap', l, e, hr⟩ := ids_of' h
  simp at e
  obtain ⟨rfl, rfl, rfl⟩ := e
  exact ⟨l, hr⟩
/-- An id that came in. -/
theorem id_of {fuel : Nat} {cs : List Value} {x : DataW H × List MemPlace} (h : DataW.trod enc Try.prog W 0 (fun _ => true) held fuel 48 cs = some x) :
    ∃ y : Int × Int, cs = [.int .i64 y.1, .int .i64 y.2] ∧ (-9223372036854775808 ≤ y.1 ∧ y.1 ≤ 9223372036854775807) ∧ -9223372036854775808 ≤ y.2 ∧ y.2 ≤ 9223372036854775807 := by
  obtain ⟨ys, n, _, _, hlen, hyl, hf⟩ := DataW.trod_struct Try.underlying48 h
  have hC : Try.prog.cellsOf 48 = 2 := by kernel_rfl
  have hc1 : Try.prog.cellsOf 3 = 1 := by kernel_rfl
  match ys, hyl with
  | [y0, y1], _ =>
  match cs, hlen.trans hC with
  | [c0, c1], _ =>
  have g0 := hf 0 _ rfl
  have g1 := hf 1 _ rfl
  simp [hc1] at g0 g1
  obtain ⟨k0, hk0, _, w0⟩ := DataW.trod_int Try.underlying3 g0
  obtain ⟨k1, hk1, _, w1⟩ := DataW.trod_int Try.underlying3 g1
  simp only [List.cons.injEq, and_true] at hk0 hk1
  subst hk0; subst hk1
  exact ⟨(k0, k1), rfl, bounds_i64 w0, bounds_i64 w1⟩
end
end Go.Proofs.Ytccbkpdkmdnmfaa
