/-
  Texts of earlier layers, as one.
-/
import Derived.Test.YtpalmnjapiijaaaCompMem
import Derived.Test.YtpalmnjapiijaaaRowOpen
import Derived.Deep.Matrix
import Derived.SizedLaws
/- A graph that came in, as the rows' reading opens it. -/
namespace Go.Proofs.Ytpalmnjapiijaaa.Gr
open Go.ChangeShapes Go.WideShapes Go.ChangeAt Go.RowKit Mem

theorem weights_all {H : Type} {P : Program} {e : TypeId} {d : DataW H} {n : Nat} : ∀ {l : List (DataW H)}, d ∈ l → n ∈ d.weights P e → n ∈ DataW.weightsAll P e l
  | x :: l, hd, hn => by
    simp only [DataW.weightsAll, List.mem_append]
    rcases List.mem_cons.1 hd with rfl | hd
    · exact .inl hn
    · exact .inr (weights_all hd hn)
theorem plain_spot {W : World} {ad : Addr} {v : Value} (h : W.cell? ad = some v) : ad.spot = none ∧ ad.block < W.heap.size := by
  refine ⟨?_, World.block_lt_of_cell? W _ h⟩
  unfold World.cell? at h
  cases hs : ad.spot with
  | none => rfl
  | some _ =>
    rw [hs] at h
    split at h
    · simp at h
    · cases h
section
variable {H : Type} {enc : TypeId × Value → H} {W : World} {held : Bool}
set_option maxRecDepth 100000 in
theorem graph_in {fuel : Nat} {a : Option Addr} {len cap : Nat} {d : DataW H} {p : List MemPlace} (h : DataW.trod enc Try.prog W 0 (fun _ => true) held fuel 22 [.slice a len cap] = some (d, p)) (hw : ∀ m ∈ d.weights Try.prog 22, m ≤ reachBytes) :
    ∃ e : Graph, Mat W a len cap e ∧ ∀ l ∈ e, l.length ≤ 17592186044416 := by
  rcases Go.Deep.open_int_rows Try.underlying22 Try.underlying27 Try.underlying3 (by kernel_rfl) (by kernel_rfl) h with ⟨hcs, _⟩ | ⟨ad, len', cap', A, L, C, Z, hcs, _, hl, hm, hx, hr⟩
  · simp at hcs
    obtain ⟨rfl, rfl, rfl⟩ := hcs
    exact ⟨[], ⟨[], Rw.nil_ W, rfl, fun j h l hj => by simp at hj⟩, fun l hl => by cases hl⟩
  · simp at hcs
    obtain ⟨rfl, rfl, rfl⟩ := hcs
    simp only [Prod.mk.injEq] at hx
    obtain ⟨rfl, rfl⟩ := hx
    have hg1 : ∀ (j : Nat) (x : Hd), ((List.range len).map fun r => (A r, L r, C r))[j]? = some x → j < len ∧ x = (A j, L j, C j) := fun j x hj => by
      rw [List.getElem?_map, Option.map_eq_some_iff] at hj
      obtain ⟨k, hk, rfl⟩ := hj
      have hlt := (List.getElem?_eq_some_iff.1 hk).1
      rw [List.length_range] at hlt
      rw [List.getElem?_range hlt] at hk
      cases hk
      exact ⟨hlt, rfl⟩
    have hg2 : ∀ (j : Nat) (x : List Int), ((List.range len).map fun r => (Z r).take (L r))[j]? = some x → j < len ∧ x = (Z j).take (L j) := fun j x hj => by
      rw [List.getElem?_map, Option.map_eq_some_iff] at hj
      obtain ⟨k, hk, rfl⟩ := hj
      have hlt := (List.getElem?_eq_some_iff.1 hk).1
      rw [List.length_range] at hlt
      rw [List.getElem?_range hlt] at hk
      cases hk
      exact ⟨hlt, rfl⟩
    refine ⟨(List.range len).map fun r => (Z r).take (L r), ⟨(List.range len).map fun r => (A r, L r, C r), ⟨by simp, hl, hm, (fun e => by cases e), fun hn => ?_⟩, by simp, fun j x l hj hl' => ?_⟩, fun l hlm => ?_⟩
    · obtain ⟨h1, h2⟩ := plain_spot (hr 0 (by omega)).1
      obtain ⟨g, o, sp⟩ := ad
      have hs : sp = none := h1
      subst hs
      refine ⟨g, o, rfl, h2, fun j x hj i u hu => ?_⟩
      obtain ⟨hlt, rfl⟩ := hg1 j x hj
      have hi : i < 1 := (List.getElem?_eq_some_iff.1 hu).1
      have hi0 : i = 0 := by omega
      subst hi0
      have hu' : hdV (A j, L j, C j) = u := by simpa [LS] using hu
      rw [← hu']
      have := (hr j (by omega)).1
      rw [Addr.add_lit] at this
      rw [show o + j * LS.s + 0 = o + j from by show o + j * 1 + 0 = _; omega]
      exact this
    · obtain ⟨hlt, rfl⟩ := hg1 j x hj
      obtain ⟨_, rfl⟩ := hg2 j l hl'
      obtain ⟨_, h1, h2, h3, h4, h5, h6⟩ := hr j (by omega)
      refine ⟨by show ((Z j).take (L j)).length = L j; rw [List.length_take, h3]; omega, h1, h2, h5, fun hn => ?_⟩
      cases hA : A j with
      | none =>
        have := h5 hA
        have hn' : 0 < L j := hn
        omega
      | some a' =>
        have hn' : 0 < L j := hn
        obtain ⟨q1, q2⟩ := plain_spot ((h6 a' hA).2 0 (by omega))
        obtain ⟨g, o, sp⟩ := a'
        have hs : sp = none := q1
        subst hs
        refine ⟨g, o, rfl, q2, fun k z hk i u hu => ?_⟩
        have hi : i < 1 := (List.getElem?_eq_some_iff.1 hu).1
        have hi0 : i = 0 := by omega
        subst hi0
        have hu' : Value.int .i64 z = u := by simpa [LN] using hu
        have hkl := (List.getElem?_eq_some_iff.1 hk).1
        rw [List.length_take] at hkl
        rw [List.getElem?_take, if_pos (by omega)] at hk
        have hc := (h6 _ hA).2 k (by omega)
        rw [Addr.add_lit] at hc
        rw [← hu', show o + k * LN.s + 0 = o + k from by show o + k * 1 + 0 = _; omega, hc]
        simp [List.getD, hk]
    · obtain ⟨r, hrr, rfl⟩ := List.mem_map.1 hlm
      have hlt := List.mem_range.1 hrr
      obtain ⟨_, h1, h2, h3, h4, h5, h6⟩ := hr r (by omega)
      rw [List.length_take, h3]
      cases hA : A r with
      | none =>
        have := h5 hA
        omega
      | some a' =>
        have hmem : C r * 8 ≤ reachBytes := hw _ (by
          simp only [DataW.weights, Try.underlying22, List.mem_cons, List.mem_append]
          refine .inr (.inl (weights_all (List.mem_map.2 ⟨r, hrr, rfl⟩) ?_))
          have hb : Try.prog.bytesOf 3 = 8 := by kernel_rfl
          simp [Go.Deep.intRow, hA, DataW.weights, Try.underlying27, lits, h3, hb]
          left
          omega)
        have hR : reachBytes = 140737488351232 := rfl
        omega
end
end Go.Proofs.Ytpalmnjapiijaaa.Gr
