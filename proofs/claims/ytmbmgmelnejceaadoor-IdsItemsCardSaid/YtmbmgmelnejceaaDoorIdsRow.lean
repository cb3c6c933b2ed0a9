/-
  A row of ids that is the call's own and is written over: 'Hd' (block g holds these ids from its beginning on, whatever lies behind), stores, 'clear'; neighbours that are the same put together, step by step.
-/
import Derived.Test.YtmbmgmelnejceaaDoorIdsSmall
import Derived.Lib.SliceRun
namespace Go.Proofs.YtmbmgmelnejceaaDoor
open Go.RowKit Mem Ids Go.Sort

/-- Block g's cells begin with the ids d. -/
structure Hd (w : World) (g : Nat) (vs : Array Value) (d : List (Int × Int)) : Prop where
  blk : Blk w g 24 vs
  at_ : ∀ j x, d[j]? = some x → vs[j * 2]? = some (.int .i64 x.1) ∧ vs[j * 2 + 1]? = some (.int .i64 x.2)
section
variable {w : World} {g : Nat} {vs : Array Value} {d : List (Int × Int)}
theorem Hd.drewN (h : Hd w g vs d) (n : Nat) : Hd (w.drewN n) g vs d := ⟨h.blk, h.at_⟩
theorem Hd.bel {w' : World} (h : Hd w g vs d) (hb : Below w.heap.size w w') : Hd w' g vs d := ⟨h.blk.bel hb, h.at_⟩
theorem Hd.alloc (h : Hd w g vs d) (o : Obj) : Hd (w.alloc o) g vs d := ⟨h.blk.alloc o, h.at_⟩
theorem Hd.cell (h : Hd w g vs d) {j : Nat} {x : Int × Int} (hx : d[j]? = some x) : w.cell? ⟨g, j * 2, none⟩ = some (.int .i64 x.1) ∧ w.cell? ⟨g, j * 2 + 1, none⟩ = some (.int .i64 x.2) := by
  rw [h.blk.cell, h.blk.cell]
  exact h.at_ j x hx
theorem Hd.rs (h : Hd w g vs d) {n c : Nat} (hn : d.length = n) (hc : n ≤ c) (hm : c ≤ maxLen) : Rs w (some ⟨g, 0, none⟩) n c d :=
  ⟨hn, hc, hm, (fun e => by cases e), fun _ => ⟨g, 0, rfl, h.blk.lt, fun j x hx => by rw [Nat.zero_add]; exact h.cell hx⟩⟩
/-- s[k] = x -/
theorem Hd.put (h : Hd w g vs d) {k : Nat} (hk : k < d.length) (x : Int × Int) : ∃ vs', Hd ((w.setCell ⟨g, k * 2, none⟩ (.int .i64 x.1)).setCell ⟨g, k * 2 + 1, none⟩ (.int .i64 x.2)) g vs' (d.set k x) := by
  refine ⟨_, (h.blk.put (k * 2) (.int .i64 x.1)).put (k * 2 + 1) (.int .i64 x.2), fun j y hy => ?_⟩
  rw [List.getElem?_set] at hy
  have hold := h.at_ k d[k] (List.getElem?_eq_getElem hk)
  have l1 := (Array.getElem?_eq_some_iff.1 hold.1).1
  have l2 := (Array.getElem?_eq_some_iff.1 hold.2).1
  simp only [Array.getElem?_setIfInBounds, Array.size_setIfInBounds]
  by_cases e : k = j
  · subst e
    rw [if_pos rfl, if_pos hk] at hy
    injection hy with hy
    subst hy
    rw [if_neg (by omega), if_pos rfl, if_pos l1, if_pos rfl, if_pos l2]
    exact ⟨rfl, rfl⟩
  · rw [if_neg e] at hy
    rw [if_neg (by omega), if_neg (by omega), if_neg (by omega), if_neg (by omega)]
    exact h.at_ j y hy
/-- s[:k] -/
theorem Hd.take (h : Hd w g vs d) (k : Nat) : Hd w g vs (d.take k) := ⟨h.blk, fun j x hx => h.at_ j x (by
    rw [List.getElem?_take] at hx
    split at hx
    · exact hx
    · cases hx)⟩
end
theorem blk_sets {g : Nat} {t : TypeId} : ∀ (us : List Value) (o : Nat) (w : World) (vs : Array Value), Blk w g t vs → ∃ vs', Blk (w.setCells g o us) g t vs' ∧ ∀ i, i < o → vs'[i]? = vs[i]?
  | [], _, _, vs, h => ⟨vs, h, fun _ _ => rfl⟩
  | u :: us, o, _, vs, h => by
    obtain ⟨vs', h1, h2⟩ := blk_sets us (o + 1) _ _ (h.put o u)
    refine ⟨vs', h1, fun i hi => ?_⟩
    rw [h2 i (by omega), Array.getElem?_setIfInBounds, if_neg (by omega)]
theorem below_sets {B g : Nat} : ∀ (us : List Value) (o : Nat) (w0 w : World), Below B w0 w → B ≤ g → Below B w0 (w.setCells g o us)
  | [], _, _, _, h, _ => h
  | u :: us, o, w0, _, h, hB => below_sets us (o + 1) w0 _ (h.setCell hB u) hB
/-- 'clear(s)' of m ids. -/
theorem run_clear_ids (w : World) (ty : TypeId) (g o m c : Nat) (hm : 0 < m) (hc : ∀ j, j < m * 2 → (w.cell? ⟨g, o + j, none⟩).isSome = true) (hf : ∀ j, j < m * 2 → w.frozen? ⟨g, o + j, none⟩ = false) :
    (Builtin.clear_ #[22] ty #[.slice (some ⟨g, o, none⟩) m c]).run Tryd.prog w = .ok (.tuple #[]) (w.setCells g o (List.replicate (m * 2) (.int .i64 0))) := by
  have hv : ∀ w, (zeroValue 24).run Tryd.prog w = .ok (.agg #[.int .i64 0, .int .i64 0]) w := Tryd.zeroValue24
  have hzc : (Builtin.zeroCells (Value.agg #[.int .i64 0, .int .i64 0]).cells m).toList = List.replicate (m * 2) (.int .i64 0) := by
    apply List.ext_getElem
    · simp [Builtin.zeroCells, Value.cells]
    · intro i h1 h2
      simp [Builtin.zeroCells, Value.cells]
      have : i % 2 = 0 ∨ i % 2 = 1 := by omega
      rcases this with e | e <;> simp [e]
  have hst := run_storeCells_cells (P := Tryd.prog) g o (List.replicate (m * 2) (.int .i64 0)) 0 w (by simpa using hc) (by simpa using hf) (by intro v hv'; rw [List.eq_of_mem_replicate hv']; rfl)
  simp only [Nat.add_zero] at hst
  obtain ⟨k, rfl⟩ : ∃ k, m = k + 1 := ⟨m - 1, by omega⟩
  simp [Builtin.clear_, run_underlying Tryd.underlying22, hv, hzc, hst]

/-- Putting neighbours together, on the way: the first p ids of d have been looked at; the row holds dk. -/
structure Comp (d : List (Int × Int)) (p kk : Nat) (dk : List (Int × Int)) : Prop where
  len : dk.length = d.length
  num : (dd (d.take p)).length = kk
  low : dk.take kk = dd (d.take p)
  high : ∀ i, p ≤ i + 1 → dk[i]? = d[i]?
  lt : kk < p
theorem dd_take {d : List (Int × Int)} {p : Nat} {x y : Int × Int} (hp : 0 < p) (hx : d[p]? = some x) (hy : d[p - 1]? = some y) : dd (d.take (p + 1)) = dd (d.take p) ++ if y = x then [] else [x] := by
  obtain ⟨q, rfl⟩ : ∃ q, p = q + 1 := ⟨p - 1, by omega⟩
  rw [Nat.add_sub_cancel] at hy
  rw [List.take_add_one (i := q + 1), hx, List.take_add_one (i := q), hy]
  have := dd_snoc (d.take q) y x
  simpa using this
theorem Comp.start {d : List (Int × Int)} {k : Nat} {x : Int × Int} (hk : 0 < k) (hx : d[k]? = some x) (hy : d[k - 1]? = some x) (h : dd (d.take k) = d.take k) : Comp d (k + 1) k d := by
  have e := dd_take hk hx hy
  rw [if_pos rfl, List.append_nil, h] at e
  have hlt : k < d.length := (List.getElem?_eq_some_iff.1 hx).1
  exact ⟨rfl, by rw [e, List.length_take]; omega, e.symm, fun _ _ => rfl, by omega⟩
theorem Comp.skip {d dk : List (Int × Int)} {p kk : Nat} {x : Int × Int} (h : Comp d p kk dk) (hx : d[p]? = some x) (hy : d[p - 1]? = some x) : Comp d (p + 1) kk dk := by
  have h0 := h.lt
  have e := dd_take (by omega) hx hy
  rw [if_pos rfl, List.append_nil] at e
  exact ⟨h.len, by rw [e]; exact h.num, by rw [e]; exact h.low, fun i hi => h.high i (by omega), by omega⟩
theorem Comp.more {d dk : List (Int × Int)} {p kk : Nat} {x y : Int × Int} (h : Comp d p kk dk) (hx : d[p]? = some x) (hy : d[p - 1]? = some y) (hne : ¬ x = y) : Comp d (p + 1) (kk + 1) (dk.set kk x) := by
  have h0 := h.lt
  have hlt : p < d.length := (List.getElem?_eq_some_iff.1 hx).1
  have hl := h.len
  have e := dd_take (by omega) hx hy
  rw [if_neg (fun e => hne e.symm)] at e
  refine ⟨by rw [List.length_set, h.len], by rw [e, List.length_append, h.num]; rfl, ?_, fun i hi => ?_, by omega⟩
  · rw [e, ← h.low, List.take_add_one, List.getElem?_set_self (by omega)]
    congr 1
    rw [List.take_set_of_le (Nat.le_refl _)]
  · rw [List.getElem?_set_ne (by omega)]
    exact h.high i (by omega)
theorem Comp.stop {d dk : List (Int × Int)} {kk : Nat} (h : Comp d d.length kk dk) : dk.take kk = dd d ∧ kk = (dd d).length := by
  have h1 := h.low
  have h2 := h.num
  rw [List.take_length] at h1 h2
  exact ⟨h1, h2.symm⟩
theorem dd_keep {d : List (Int × Int)} {k : Nat} {x y : Int × Int} (hk : 0 < k) (hx : d[k]? = some x) (hy : d[k - 1]? = some y) (hne : ¬ x = y) (h : dd (d.take k) = d.take k) : dd (d.take (k + 1)) = d.take (k + 1) := by
  rw [dd_take hk hx hy, if_neg (fun e => hne e.symm), h, List.take_add_one, hx]
  rfl
end Go.Proofs.YtmbmgmelnejceaaDoor
