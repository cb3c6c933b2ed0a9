/-
  Texts of earlier layers, as one.
-/
import Derived.Test.YtlcggldcofncgaaRIdsP
import Derived.Test.YtlcggldcofncgaaProg
import Derived.WalkKit
import Derived.ProofKit
import Derived.OpenShut
import Derived.Deep.DeepHandedRow
import Derived.Deep.SlicePairs
import Derived.ChangeSame
import Derived.Test.YtlcggldcofncgaaRCmd
import Derived.ShutString
import Derived.Deep.Slices
import Derived.Deep.Fields
import Derived.SizedLaws
/- Slices of ids, and ids, that came in, as the rows' reading opens them. -/
namespace Go.Proofs.Ytlcggldcofncgaa
open Go.ChangeShapes Go.WideShapes Go.ChangeAt Go.RowKit Mem Ids

section
variable {H : Type} {enc : TypeId × Value → H} {W : World} {held : Bool}
set_option maxRecDepth 100000 in
/-- A slice of ids that came in. -/
theorem ids_of' {fuel : Nat} {cs : List Value} {x : DataW H × List MemPlace} (h : DataW.trod enc Try.prog W 0 (fun _ => true) held fuel 42 cs = some x) : ∃ a len cap l, cs = [.slice a len cap] ∧ Rs W a len cap l := by
  rcases Go.Deep.open_slice_pairs Try.underlying42 Try.underlying26 (by kernel_rfl) rfl rfl (by kernel_rfl) (by kernel_rfl) h with ⟨hcs, _⟩ | ⟨ad, len', cap', m, n, V0, V1, D0, D1, P0, P1, hcs, _, hl, hm, hmm, _, hr⟩
  · exact ⟨none, 0, 0, [], hcs, Rs.nil_ W⟩
  · obtain ⟨len, hlen⟩ : ∃ len, len = len' := ⟨_, rfl⟩
    obtain ⟨cap, hcap⟩ : ∃ cap, cap = cap' := ⟨_, rfl⟩
    subst hlen; subst hcap
    have hlm : len ≤ m := by rw [hmm]; split <;> omega
    have hv : ∀ i, ∃ p : Int × Int, i < len → W.cell? (ad.add (i * 2)) = some (.int .i64 p.1) ∧ W.cell? (ad.add (i * 2 + 1)) = some (.int .i64 p.2) := by
      intro i
      by_cases hi : i < len
      · obtain ⟨c0, c1, t0, t1⟩ := hr i (by omega)
        obtain ⟨k0, hk0, _, _⟩ := DataW.trod_int Try.underlying3 t0
        obtain ⟨k1, hk1, _, _⟩ := DataW.trod_int Try.underlying3 t1
        simp only [List.cons.injEq, and_true] at hk0 hk1
        exact ⟨(k0, k1), fun _ => ⟨by rw [c0, hk0], by rw [c1, hk1]⟩⟩
      · exact ⟨(0, 0), fun h => absurd h hi⟩
    obtain ⟨f, hf⟩ := Classical.axiomOfChoice hv
    refine ⟨some ad, len, cap, (List.range len).map f, hcs, by simp, hl, hm, (fun e => by cases e), fun h0 => ?_⟩
    have hs : ad.spot = none := by
      have h1 := (hf 0 h0).1
      have h2 : W.cell? ad = some (.int .i64 (f 0).1) := by simpa [Addr.add] using h1
      unfold World.cell? at h2
      cases hsp : ad.spot with
      | none => rfl
      | some _ =>
        rw [hsp] at h2
        split at h2
        · simp at h2
        · cases h2
    obtain ⟨g, o, sp⟩ := ad
    have hs' : sp = none := hs
    subst hs'
    refine ⟨g, o, rfl, ?_, fun j y hy => ?_⟩
    · have := World.block_lt_of_cell? W _ (hf 0 h0).1
      rwa [add_block] at this
    · rw [List.getElem?_map, Option.map_eq_some_iff] at hy
      obtain ⟨i, hi, rfl⟩ := hy
      have hj := (List.getElem?_eq_some_iff.1 hi).1
      rw [List.length_range] at hj
      have : i = j := by simpa [List.getElem?_range hj] using hi.symm
      subst this
      have := hf i hj
      rw [Addr.add_lit, Addr.add_lit, ← Nat.add_assoc] at this
      exact this
set_option maxRecDepth 100000 in
theorem ids_of {fuel : Nat} {a : Option Addr} {len cap : Nat} {x : DataW H × List MemPlace} (h : DataW.trod enc Try.prog W 0 (fun _ => true) held fuel 42 [.slice a len cap] = some x) : ∃ l, Rs W a len cap l := by
  obtain ⟨a', len', cap', l, e, hr⟩ := ids_of' h
  simp at e
  obtain ⟨rfl, rfl, rfl⟩ := e
  exact ⟨l, hr⟩
set_option maxRecDepth 100000 in
/-- An id that came in. -/
theorem id_of {fuel : Nat} {cs : List Value} {x : DataW H × List MemPlace} (h : DataW.trod enc Try.prog W 0 (fun _ => true) held fuel 26 cs = some x) :
    ∃ y : Int × Int, cs = [.int .i64 y.1, .int .i64 y.2] ∧ (-9223372036854775808 ≤ y.1 ∧ y.1 ≤ 9223372036854775807) ∧ -9223372036854775808 ≤ y.2 ∧ y.2 ≤ 9223372036854775807 := by
  obtain ⟨ys, n, _, _, hlen, hyl, hf⟩ := DataW.trod_struct Try.underlying26 h
  have hC : Try.prog.cellsOf 26 = 2 := by kernel_rfl
  have hc1 : Try.prog.cellsOf 3 = 1 := by kernel_rfl
  match ys, hyl with
  | [y0, y1], _ =>
  match cs, hlen.trans hC with
  | [c0, c1], _ =>
  have g0 := hf 0 _ rfl
  have g1 := hf 1 _ rfl
  simp [hc1] at g0 g1
  obtain ⟨k0, hk0, _, w0⟩ := DataW.trod_int Try.underlying3 g0
  obtain ⟨k1, hk1, _, w1⟩ := DataW.trod_int Try.underlying3 g1
  simp only [List.cons.injEq, and_true] at hk0 hk1
  subst hk0; subst hk1
  exact ⟨(k0, k1), rfl, bounds_i64 w0, bounds_i64 w1⟩
end
end Go.Proofs.Ytlcggldcofncgaa
/- A command that came in, opened. -/
namespace Go.Proofs.Ytlcggldcofncgaa
open Go.ChangeShapes Go.WideShapes Go.ChangeAt Go.RowKit Mem Cmd
section
variable {H : Type} {enc : TypeId × Value → H} {W : World} {held : Bool}

def In64 (v : Int) : Prop := -9223372036854775808 ≤ v ∧ v ≤ 9223372036854775807
set_option maxRecDepth 100000 in
theorem cmd_of {fuel : Nat} {cs : List Value} {x : DataW H × List MemPlace} (h : DataW.trod enc Try.prog W 0 (fun _ => true) held fuel 24 cs = some x) :
    ∃ y : Cm, cs = [.int .i64 y.kd, .int .i64 y.cl, .int .i64 y.sq, .string y.ky, .string y.vl, .int .i64 y.rv] ∧ In64 y.kd ∧ In64 y.cl ∧ In64 y.sq ∧ In64 y.rv := by
  obtain ⟨ys, n, _, _, hlen, hyl, hf⟩ := DataW.trod_struct Try.underlying24 h
  have hC : Try.prog.cellsOf 24 = 6 := by kernel_rfl
  have hc1 : Try.prog.cellsOf 3 = 1 := by kernel_rfl
  have hc2 : Try.prog.cellsOf 9 = 1 := by kernel_rfl
  match ys, hyl with
  | [y0, y1, y2, y3, y4, y5], _ =>
  match cs, hlen.trans hC with
  | [c0, c1, c2, c3, c4, c5], _ =>
  have g0 := hf 0 _ rfl
  have g1 := hf 1 _ rfl
  have g2 := hf 2 _ rfl
  have g3 := hf 3 _ rfl
  have g4 := hf 4 _ rfl
  have g5 := hf 5 _ rfl
  simp [hc1, hc2] at g0 g1 g2 g3 g4 g5
  obtain ⟨k0, hk0, _, w0⟩ := DataW.trod_int Try.underlying3 g0
  obtain ⟨k1, hk1, _, w1⟩ := DataW.trod_int Try.underlying3 g1
  obtain ⟨k2, hk2, _, w2⟩ := DataW.trod_int Try.underlying3 g2
  obtain ⟨k5, hk5, _, w5⟩ := DataW.trod_int Try.underlying3 g5
  obtain ⟨s3, hs3, _⟩ := DataW.trod_string Try.underlying9 g3
  obtain ⟨s4, hs4, _⟩ := DataW.trod_string Try.underlying9 g4
  simp only [List.cons.injEq, and_true] at hk0 hk1 hk2 hk5 hs3 hs4
  subst hk0; subst hk1; subst hk2; subst hk5; subst hs3; subst hs4
  exact ⟨⟨k0, k1, k2, s3, s4, k5⟩, rfl, bounds_i64 w0, bounds_i64 w1, bounds_i64 w2, bounds_i64 w5⟩
end
end Go.Proofs.Ytlcggldcofncgaa
