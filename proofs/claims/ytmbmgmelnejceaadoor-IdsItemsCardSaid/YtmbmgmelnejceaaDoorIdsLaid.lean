/-
  What the rows' lists give: the library's table of powers lies in the world as the program's text lays it; a world for the witnesses; slices of ids and ids that came in, as the rows' reading opens them.
-/
import Derived.Test.YtmbmgmelnejceaaDoorRows
import Derived.Test.YtmbmgmelnejceaaDoorIdsText
import Derived.Lib.LaidTab
import Derived.LaidSub
import Derived.LaidLaws
import Derived.Deep.DeepHandedRow
import Derived.Deep.SlicePairs
import Derived.ChangeSame
namespace Go.Proofs.YtmbmgmelnejceaaDoor
open Go.ChangeShapes Go.WideShapes Go.ChangeAt Go.RowKit Mem Ids

def tab32 : List Int := [0, 1, 28, 2, 29, 14, 24, 3, 30, 22, 20, 15, 25, 17, 4, 8, 31, 27, 13, 23, 21, 19, 16, 7, 26, 12, 18, 6, 11, 5, 10, 9]
def tab64 : List Int := [0, 1, 56, 2, 57, 49, 28, 3, 61, 58, 42, 50, 38, 29, 17, 4, 62, 47, 59, 36, 45, 43, 51, 22, 53, 39, 33, 30, 24, 18, 12, 5, 63, 55, 48, 27, 60, 41, 37, 16, 46, 35, 44, 21, 52, 32, 23, 11, 54, 26, 40, 15, 34, 20, 31, 10, 25, 14, 19, 9, 13, 8, 7, 6]
theorem gPowType : (Tryd.prog.globals[0]?).map (·.type) = some 95 := by kernel_rfl
theorem cellsPow : Tryd.prog.cellsOf 95 = 20 := by kernel_rfl
theorem cellsU64 : Tryd.prog.cellsOf 36 = 1 := by kernel_rfl
def isPow (x : String × DataW Unit) : Bool := x.1 == "internal/strconv.uint64pow10"
theorem tab_of_list {l : List (String × DataW Unit)} {W : World} (h : laidMetH Tryd.prog l W) (e : l.filter isPow = [("internal/strconv.uint64pow10", Lib.tabData .u64 Lib.pow10Tab)]) : Tab W := by
  have h1 := laidMetH.filter isPow h
  rw [e] at h1
  exact Lib.tabIs_of_head (rest := []) gPow gPowType Tryd.underlying95 Tryd.underlying36 cellsU64 cellsPow h1
theorem tabOf {W : World} (h : laidMetH Tryd.prog Rows.idsSetsRow.laid W) : Tab W := tab_of_list h (by kernel_rfl)

noncomputable def putTab (k : IntKind) (zs : List Int) : Obj → Obj
  | .cells _ t frozen => .cells (zs.map fun z => Value.int k z).toArray t frozen
  | o => o
/-- A world for the witnesses: the settled one, with what the initialisers lay. -/
noncomputable def laidWorld (os : Os) : World :=
  let w0 := World.holding Tryd.prog os ⟨#[], #[], []⟩
  { w0 with heap := ((w0.heap.modify 0 (putTab .u64 Lib.pow10Tab)).modify 1 (putTab .u8 tab32)).modify 2 (putTab .u8 tab64) }

section
variable {H : Type} {enc : TypeId × Value → H} {W : World} {held : Bool}
/-- A slice of ids that came in. -/
theorem ids_of {fuel : Nat} {a : Option Addr} {len cap : Nat} {x : DataW H × List MemPlace} (h : DataW.trod enc Tryd.prog W 0 (fun _ => true) held fuel 22 [.slice a len cap] = some x) : ∃ l, Rs W a len cap l := by
  rcases Go.Deep.open_slice_pairs Tryd.underlying22 Tryd.underlying24 (by kernel_rfl) rfl rfl (by kernel_rfl) (by kernel_rfl) h with ⟨hcs, _⟩ | ⟨ad, len', cap', m, n, V0, V1, D0, D1, P0, P1, hcs, _, hl, hm, hmm, _, hr⟩
  · simp at hcs
    obtain ⟨rfl, rfl, rfl⟩ := hcs
    exact ⟨[], Rs.nil_ W⟩
  · simp at hcs
    obtain ⟨rfl, rfl, rfl⟩ := hcs
    have hlm : len ≤ m := by rw [hmm]; split <;> omega
    have hv : ∀ i, ∃ p : Int × Int, i < len → W.cell? (ad.add (i * 2)) = some (.int .i64 p.1) ∧ W.cell? (ad.add (i * 2 + 1)) = some (.int .i64 p.2) := by
      intro i
      by_cases hi : i < len
      · obtain ⟨c0, c1, t0, t1⟩ := hr i (by omega)
        obtain ⟨k0, hk0, _, _⟩ := DataW.trod_int Tryd.underlying3 t0
        obtain ⟨k1, hk1, _, _⟩ := DataW.trod_int Tryd.underlying3 t1
        simp only [List.cons.injEq, and_true] at hk0 hk1
        exact ⟨(k0, k1), fun _ => ⟨by rw [c0, hk0], by rw [c1, hk1]⟩⟩
      · exact ⟨(0, 0), fun h => absurd h hi⟩
    obtain ⟨f, hf⟩ := Classical.axiomOfChoice hv
    refine ⟨(List.range len).map f, by simp, hl, hm, (fun e => by cases e), fun h0 => ?_⟩
    have hs : ad.spot = none := by
      have h1 := (hf 0 h0).1
      have h2 : W.cell? ad = some (.int .i64 (f 0).1) := by simpa [Addr.add] using h1
      unfold World.cell? at h2
      cases hsp : ad.spot with
      | none => rfl
      | some _ =>
        rw [hsp] at h2
        split at h2
        · simp at h2
        · cases h2
    obtain ⟨g, o, sp⟩ := ad
    have hs' : sp = none := hs
    subst hs'
    refine ⟨g, o, rfl, ?_, fun j y hy => ?_⟩
    · have := World.block_lt_of_cell? W _ (hf 0 h0).1
      rwa [add_block] at this
    · rw [List.getElem?_map, Option.map_eq_some_iff] at hy
      obtain ⟨i, hi, rfl⟩ := hy
      have hj := (List.getElem?_eq_some_iff.1 hi).1
      rw [List.length_range] at hj
      have : i = j := by simpa [List.getElem?_range hj] using hi.symm
      subst this
      have := hf i hj
      rw [Addr.add_lit, Addr.add_lit, ← Nat.add_assoc] at this
      exact this
/-- An id that came in. -/
theorem id_of {fuel : Nat} {cs : List Value} {x : DataW H × List MemPlace} (h : DataW.trod enc Tryd.prog W 0 (fun _ => true) held fuel 24 cs = some x) :
    ∃ y : Int × Int, cs = [.int .i64 y.1, .int .i64 y.2] ∧ (-9223372036854775808 ≤ y.1 ∧ y.1 ≤ 9223372036854775807) ∧ -9223372036854775808 ≤ y.2 ∧ y.2 ≤ 9223372036854775807 := by
  obtain ⟨ys, n, _, _, hlen, hyl, hf⟩ := DataW.trod_struct Tryd.underlying24 h
  have hC : Tryd.prog.cellsOf 24 = 2 := by kernel_rfl
  have hc1 : Tryd.prog.cellsOf 3 = 1 := by kernel_rfl
  match ys, hyl with
  | [y0, y1], _ =>
  match cs, hlen.trans hC with
  | [c0, c1], _ =>
  have g0 := hf 0 _ rfl
  have g1 := hf 1 _ rfl
  simp [hc1] at g0 g1
  obtain ⟨k0, hk0, _, w0⟩ := DataW.trod_int Tryd.underlying3 g0
  obtain ⟨k1, hk1, _, w1⟩ := DataW.trod_int Tryd.underlying3 g1
  simp only [List.cons.injEq, and_true] at hk0 hk1
  subst hk0; subst hk1
  exact ⟨(k0, k1), rfl, bounds_i64 w0, bounds_i64 w1⟩
end
end Go.Proofs.YtmbmgmelnejceaaDoor
