/-
  An item that came in, as the row's reading opens it: it lies in memory with all that it leads to.
-/
import Derived.Test.YtccbkpdkmdnmfaaCodListMem
import Derived.Deep.Slices
import Derived.Deep.Fields
import Derived.ChangeSame
import Derived.SizedLaws
namespace Go.Proofs.Ytccbkpdkmdnmfaa
open Go.ChangeShapes Go.WideShapes Go.Deep Go.RowKit Mem Cod

theorem weights_all {H : Type} {P : Program} {e : TypeId} {d : DataW H} {n : Nat} : ∀ {l : List (DataW H)}, d ∈ l → n ∈ d.weights P e → n ∈ DataW.weightsAll P e l
  | x :: r, hd, hn => by
    simp only [DataW.weightsAll, List.mem_append]
    rcases List.mem_cons.1 hd with rfl | hd
    · exact .inl hn
    · exact .inr (weights_all hd hn)

/-- A struct of four fields of one cell each, its cells, with how deep the reading still goes. -/
theorem open_four {H : Type} {enc : TypeId × Value → H} {P : Program} {w : World} {base : Nat} {spare : Nat → Bool} {held : Bool} {fuel : Nat} {t : TypeId} {f0 f1 f2 f3 : Field} {cs : List Value} {x : DataW H × List MemPlace}
    (hs : P.underlying t = some (.struct #[f0, f1, f2, f3])) (hone : oneCellFields P #[f0, f1, f2, f3] = true) (hC : P.cellsOf t = 4) (h : DataW.trod enc P w base spare held fuel t cs = some x) :
    ∃ (n : Nat) (c0 c1 c2 c3 : Value) (y0 y1 y2 y3 : DataW H × List MemPlace), fuel = n + 1 ∧ cs = [c0, c1, c2, c3] ∧ x.1 = .agg [y0.1, y1.1, y2.1, y3.1] ∧
      DataW.trod enc P w base spare held n f0.type [c0] = some y0 ∧ DataW.trod enc P w base spare held n f1.type [c1] = some y1 ∧ DataW.trod enc P w base spare held n f2.type [c2] = some y2 ∧ DataW.trod enc P w base spare held n f3.type [c3] = some y3 := by
  obtain ⟨ys, n, hfu, hx, hlen, hyl, hf⟩ := DataW.trod_struct hs h
  obtain ⟨o0, k0⟩ := hone_of hone 0 f0 rfl
  obtain ⟨o1, k1⟩ := hone_of hone 1 f1 rfl
  obtain ⟨o2, k2⟩ := hone_of hone 2 f2 rfl
  obtain ⟨o3, k3⟩ := hone_of hone 3 f3 rfl
  match ys, hyl with
  | [y0, y1, y2, y3], _ =>
  match cs, hlen.trans hC with
  | [c0, c1, c2, c3], _ =>
  exact ⟨n, c0, c1, c2, c3, y0, y1, y2, y3, hfu, rfl, by rw [hx]; rfl, by simpa [o0, k0] using hf 0 f0 rfl, by simpa [o1, k1] using hf 1 f1 rfl, by simpa [o2, k2] using hf 2 f2 rfl, by simpa [o3, k3] using hf 3 f3 rfl⟩

section
variable {H : Type} {enc : TypeId × Value → H} {W : World} {held : Bool}

theorem item_of (fuel : Nat) : ∀ (cs : List Value) (x : DataW H × List MemPlace), DataW.trod enc Try.prog W 0 (fun _ => true) held fuel 37 cs = some x → (∀ n ∈ x.1.weights Try.prog 37, n ≤ reachBytes) →
    ∃ (y : It) (A : Option Addr) (c : Nat), cs = [.int .i64 y.kind, .int .u64 (y.num : Int), .string y.str, .slice A y.kids.length c] ∧ Lies W (fun b => b < W.heap.size) y A c := by
  induction fuel using Nat.strongRecOn with
  | ind fuel ih =>
  intro cs x h hw
  have e25 : Try.prog.cellsOf 37 = 4 := by kernel_rfl
  obtain ⟨n, c0, c1, c2, c3, y0, y1, y2, y3, hfu, hcs, hx1, g0, g1, g2, g3⟩ := open_four Try.underlying37 (by kernel_rfl) e25 h
  subst hcs
  obtain ⟨k, hk, hy0, hkw⟩ := DataW.trod_int Try.underlying3 g0
  obtain ⟨m, hm, hy1, hmw⟩ := DataW.trod_int Try.underlying34 g1
  obtain ⟨s, hs, hy2, _⟩ := DataW.trod_string Try.underlying9 g2
  simp only [List.cons.injEq, and_true] at hk hm hs
  subst hk; subst hm; subst hs
  have hkb := bounds_i64 hkw
  have hmb := bounds_u64 hmw
  have hws : ∀ (j : Nat) (t : TypeId) (d : DataW H), [3, 34, 9, 35][j]? = some t → [y0.1, y1.1, y2.1, y3.1][j]? = some d → ∀ n ∈ d.weights Try.prog t, n ≤ reachBytes := by
    intro j t d ht hd n hn
    refine hw n ?_
    rw [hx1]
    have := DataW.weights_mem_each (P := Try.prog) ht hd n hn
    simpa [DataW.weights, Try.underlying37] using this
  have hsz : s.size ≤ 140737488355328 := by
    have := hws 2 9 y2.1 rfl rfl s.data.toList.length (by rw [hy2]; simp [DataW.weights])
    unfold reachBytes at this
    rw [Array.length_toList] at this
    exact Nat.le_trans this (by decide)
  have hw3 := hws 3 35 y3.1 rfl rfl
  rcases DataW.trod_slice Try.underlying35 g3 with ⟨e, _⟩ | ⟨a, len, cap, elems, rest, n', hn', e, hy3, _, hlc, hcm, hel, hi, _⟩
  · simp only [List.cons.injEq, and_true] at e
    subst e
    refine ⟨.mk k m.toNat s [], none, 0, by simp [It.kind, It.num, It.str, It.kids]; omega, ?_⟩
    rw [lies_eq]
    exact ⟨⟨hkb.1, hkb.2, by show m.toNat ≤ _; omega, hsz⟩, ⟨Nat.le_refl _, by omega, fun _ => rfl⟩, fun i hi => by simp [It.kids] at hi⟩
  · simp only [List.cons.injEq, and_true] at e
    subst e
    have hch : ∀ i : Nat, ∃ h : Hung, i < len → (∀ k u, h.cells[k]? = some u → W.cell? (a.add (i * 4 + k)) = some u) ∧ Lies W (fun b => b < W.heap.size) h.x h.A h.c := by
      intro i
      by_cases hil : i < len
      · have hie := hi i hil
        rw [e25, List.getElem?_eq_getElem (by omega)] at hie
        cases hcs : W.cells? 0 (a.add (i * 4)) 4 with
        | none => rw [hcs] at hie; cases hie
        | some cs' =>
          rw [hcs] at hie
          obtain ⟨y, A, c, hcs', hL⟩ := ih n' (by omega) cs' _ hie (fun q hq => hw3 q (by
            rw [hy3]
            simp only [DataW.weights, Try.underlying35, List.mem_cons, List.mem_append]
            exact .inr (.inl (weights_all (List.mem_map.2 ⟨_, List.getElem_mem _, rfl⟩) hq))))
          refine ⟨⟨y, A, c⟩, fun _ => ⟨fun k u hu => ?_, hL⟩⟩
          obtain ⟨_, _, hc⟩ := World.cells?_some hcs
          have hk4 : k < 4 := by
            have := (List.getElem?_eq_some_iff.1 hu).1
            simpa [Hung.cells] using this
          rw [← Mem.add_add, hc k hk4, hcs']
          exact hu
      · exact ⟨⟨.mk 0 0 ByteArray.empty [], none, 0⟩, fun h => absurd h hil⟩
    obtain ⟨f, hf⟩ := Classical.axiomOfChoice hch
    have hlen' : ((List.range len).map f).length = len := by simp
    have hrow : Row W (fun b => b < W.heap.size) (some a) len cap (((List.range len).map f).map (·.x)) := by
      unfold maxLen at hcm
      refine Row.of_hung hlen' ⟨hlc, hcm, (fun e => by cases e)⟩ (fun h hh => ?_) fun h0 => ⟨a, rfl, ?_, ?_, fun j u hu => ?_⟩
      · obtain ⟨i, hir, rfl⟩ := List.mem_map.1 hh
        exact (hf i (List.mem_range.1 hir)).2
      · have := World.block_lt_of_cell? W _ ((hf 0 h0).1 0 _ rfl)
        rwa [add_block] at this
      · have := World.block_lt_of_cell? W _ ((hf 0 h0).1 0 _ rfl)
        rwa [add_block] at this
      · have hj : j = j / 4 * 4 + j % 4 := by omega
        rw [hj, cells4_at _ _ _ (Nat.mod_lt _ (by omega)), List.getElem?_map] at hu
        by_cases hjl : j / 4 < len
        · rw [List.getElem?_range hjl] at hu
          have := (hf (j / 4) hjl).1 (j % 4) u (by simpa using hu)
          rwa [← hj] at this
        · rw [List.getElem?_eq_none (by simpa using hjl)] at hu
          simp at hu
    refine ⟨.mk k m.toNat s (((List.range len).map f).map (·.x)), some a, cap, by simp [It.kind, It.num, It.str, It.kids]; omega, hrow.lies ⟨hkb.1, hkb.2⟩ (by omega) hsz⟩
end
end Go.Proofs.Ytccbkpdkmdnmfaa
