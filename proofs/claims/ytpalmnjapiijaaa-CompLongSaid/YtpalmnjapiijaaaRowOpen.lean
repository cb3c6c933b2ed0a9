/-
  Texts of earlier layers, as one.
-/
import Derived.Test.YtpalmnjapiijaaaRBase
import Derived.Test.YtpalmnjapiijaaaProg
import Derived.WalkKit
import Derived.ProofKit
import Derived.OpenShut
import Derived.Deep.DeepHandedRow
import Derived.Deep.Slices
import Derived.ChangeSame
/- A slice of elements of whatever layout that came in, as the rows' reading opens it. -/
namespace Go.Proofs.Ytpalmnjapiijaaa.Mem
open Go.ChangeShapes Go.WideShapes Go.ChangeAt Go.RowKit

section
variable {H : Type} {enc : TypeId × Value → H} {W : World} {held : Bool}
set_option maxRecDepth 100000 in
/-- A slice of elements that came in. -/
theorem rows_of {α : Type} {L : Lay α} {t te : TypeId} (ht : Try.prog.underlying t = some (.slice te)) (hC : Try.prog.cellsOf te = L.s) (inh : α) (good : α → Prop) (h0 : ∀ y, ∃ n : Int, (L.enc y)[0]? = some (.int .i64 n))
    (hel : ∀ {fuel : Nat} {l : List Value} {x : DataW H × List MemPlace}, DataW.trod enc Try.prog W 0 (fun _ => true) held fuel te l = some x → ∃ y : α, l = L.enc y ∧ good y)
    {fuel : Nat} {a : Option Addr} {len cap : Nat} {x : DataW H × List MemPlace} (h : DataW.trod enc Try.prog W 0 (fun _ => true) held fuel t [.slice a len cap] = some x) : ∃ l, Rw L W a len cap l ∧ ∀ y ∈ l, good y := by
  rcases Go.Deep.open_slice ht h with ⟨hcs, _⟩ | ⟨ad, len', cap', m, n, D, Pl, hcs, _, hl, hm, hmm, _, hx⟩
  · simp at hcs
    obtain ⟨rfl, rfl, rfl⟩ := hcs
    exact ⟨[], Rw.nil_ W, fun y hy => by cases hy⟩
  · simp at hcs
    obtain ⟨rfl, rfl, rfl⟩ := hcs
    have hlm : len ≤ m := by rw [hmm]; split <;> omega
    have hspot : 0 < len → ad.spot = none := fun hp => by
      obtain ⟨cs', h1, h2⟩ := hx 0 (by omega)
      rw [hC] at h1
      obtain ⟨_, _, hcell⟩ := World.cells?_some h1
      obtain ⟨y, rfl, _⟩ := hel h2
      obtain ⟨v, hv⟩ := h0 y
      have e0 := hcell 0 L.pos
      have e1 : W.cell? ad = some (.int .i64 v) := by rw [hv] at e0; simpa [Addr.add] using e0
      unfold World.cell? at e1
      cases hsp : ad.spot with
      | none => rfl
      | some _ =>
        rw [hsp] at e1
        split at e1
        · simp at e1
        · cases e1
    have each : ∀ i, i < len → ∃ y : α, good y ∧ ∃ b o, ad = ⟨b, o, none⟩ ∧ b < W.heap.size ∧ W.rangeAt b (o + i * L.s) (L.enc y) := by
      intro i hi
      obtain ⟨cs', h1, h2⟩ := hx i (by omega)
      rw [hC] at h1
      obtain ⟨_, hlen, hcell⟩ := World.cells?_some h1
      obtain ⟨y, rfl, hg⟩ := hel h2
      have hs : ad.spot = none := hspot (by omega)
      obtain ⟨g, o, sp⟩ := ad
      have hs' : sp = none := hs
      subst hs'
      refine ⟨y, hg, g, o, rfl, ?_, fun j u hu => ?_⟩
      · obtain ⟨v, hv⟩ := h0 y
        have e0 := hcell 0 L.pos
        rw [hv] at e0
        have := World.block_lt_of_cell? W _ e0
        rwa [add_block, add_block] at this
      · have hj : j < L.s := by rw [← L.len y]; exact (List.getElem?_eq_some_iff.1 hu).1
        have e := hcell j hj
        rw [hu] at e
        rw [Addr.add_lit, Addr.add_lit] at e
        exact e
    have each2 : ∀ i, ∃ y : α, i < len → good y ∧ ∃ b o, ad = ⟨b, o, none⟩ ∧ b < W.heap.size ∧ W.rangeAt b (o + i * L.s) (L.enc y) := fun i => by
      by_cases hi : i < len
      · obtain ⟨y, hy⟩ := each i hi
        exact ⟨y, fun _ => hy⟩
      · exact ⟨inh, fun h => absurd h hi⟩
    obtain ⟨f, hf⟩ := Classical.axiomOfChoice each2
    have hget : ∀ (i : Nat) (y : α), ((List.range len).map f)[i]? = some y → i < len ∧ y = f i := fun i y hy => by
      rw [List.getElem?_map, Option.map_eq_some_iff] at hy
      obtain ⟨j, hj, rfl⟩ := hy
      have hlt := (List.getElem?_eq_some_iff.1 hj).1
      rw [List.length_range] at hlt
      have : j = i := by simpa [List.getElem?_range hlt] using hj.symm
      subst this
      exact ⟨hlt, rfl⟩
    refine ⟨(List.range len).map f, ⟨by simp, hl, hm, (fun e => by cases e), fun hp => ?_⟩, fun y hy => ?_⟩
    · obtain ⟨_, b, o, e, hb, _⟩ := hf 0 hp
      refine ⟨b, o, by rw [e], hb, fun j y hy => ?_⟩
      obtain ⟨hj, rfl⟩ := hget j y hy
      obtain ⟨_, b', o', e', _, hr⟩ := hf j hj
      rw [e] at e'
      injection e' with e1 e2
      subst e1
      subst e2
      exact hr
    · obtain ⟨i, hi⟩ := List.getElem?_of_mem hy
      obtain ⟨hlt, rfl⟩ := hget i y hi
      exact (hf i hlt).1
end
end Go.Proofs.Ytpalmnjapiijaaa.Mem
