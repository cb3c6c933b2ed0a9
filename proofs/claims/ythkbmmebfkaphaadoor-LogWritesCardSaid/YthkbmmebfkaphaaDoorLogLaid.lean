/-
  Texts of earlier layers, as one.
-/
import Derived.Test.YthkbmmebfkaphaaDoorRows
import Derived.Test.YthkbmmebfkaphaaDoorRCrc
import Derived.Lib.LaidTab
import Derived.Deep.DeepHandedRow
import Derived.Deep.Matrix
import Derived.OpenShut
import Derived.ShutString
/- What the rows' list gives: the table lies in the world as the program's text lays it; a world for the witnesses; and a list of slices of bytes that came in, read as parts. -/
namespace Go.Proofs.YthkbmmebfkaphaaDoor
open Go.ChangeShapes Go.WideShapes Go.ChangeAt Go.RowKit Mem

theorem gTab : Tryd.prog.globalNamed "stonecrop/crc.halves" = some 0 := by kernel_rfl
theorem gTabType : (Tryd.prog.globals[0]?).map (·.type) = some 101 := by kernel_rfl
theorem cellsTab : Tryd.prog.cellsOf 101 = 16 := by kernel_rfl
theorem cellsWord : Tryd.prog.cellsOf 72 = 1 := by kernel_rfl

theorem table {W : World} (h : laidMetH Tryd.prog Rows.logKeepsRow.laid W) : Lib.TabIs Tryd.prog W "stonecrop/crc.halves" .u32 (Crc.tab.map fun (n : Nat) => (n : Int)) :=
  Lib.tabIs_of_head (rest := []) gTab gTabType Tryd.underlying101 Tryd.underlying72 cellsWord cellsTab h
theorem tabOf {W : World} (h : laidMetH Tryd.prog Rows.logKeepsRow.laid W) : Cr.Tab W := by
  intro i hi
  have hc := (table h).cell gTab i (by simpa [Crc.tab] using hi)
  rw [hc]
  have ht := Crc.tab_ok i hi
  simp [List.getD, List.getElem?_map, ht]

/-- A world for the witnesses: the settled one, the table (block 0) holding what its initialiser lays. -/
noncomputable def laidWorld (os : Os) : World :=
  { World.holding Tryd.prog os ⟨#[], #[], []⟩ with heap := (World.holding Tryd.prog os ⟨#[], #[], []⟩).heap.modify 0 fun
      | .cells _ t frozen => .cells (Crc.tab.map fun (n : Nat) => Value.int .u32 (n : Int)).toArray t frozen
      | o => o }
/-- A list of slices of bytes that came in, as parts. -/
theorem mat_of {H : Type} {enc : TypeId × Value → H} {W : World} {held : Bool} {fuel : Nat} {a0 : Option Addr} {len0 cap0 : Nat} {x : DataW H × List MemPlace}
    (h : DataW.trod enc Tryd.prog W 0 (fun _ => true) held fuel 22 [.slice a0 len0 cap0] = some x) : ∃ ps, Cr.Mat W a0 len0 cap0 ps := by
  rcases Go.Deep.open_int_rows Tryd.underlying22 Tryd.underlying32 Tryd.underlying5 (by kernel_rfl) (by kernel_rfl) h with ⟨hcs, _⟩ | ⟨a, len, cap, A, L, C, Z, hcs, _, hl, hm, _, hr⟩
  · simp at hcs
    obtain ⟨rfl, rfl, rfl⟩ := hcs
    exact ⟨[], Rd.nil_ W, by simp⟩
  · simp at hcs
    obtain ⟨rfl, rfl, rfl⟩ := hcs
    have hp : ∀ r, r < cap0 → ∃ bs : List Nat, Rd W (A r) (L r) (C r) (cs bs) ∧ ∀ b ∈ bs, b < 256 := by
      intro r hrc
      obtain ⟨_, h1, h2, h3, h4, h5, h6⟩ := hr r hrc
      refine Rd.of_bytes (zs := Z r) ?_
      cases hA : A r with
      | none =>
        have hc := h5 hA
        exact .inl ⟨rfl, by omega, hc, List.eq_nil_of_length_eq_zero (by omega)⟩
      | some y =>
        exact .inr ⟨y, rfl, h1, h2, h3, fun i hi => (h6 y hA).2 i (by omega), h4⟩
    have hp' : ∀ r, ∃ bs : List Nat, r < cap0 → Rd W (A r) (L r) (C r) (cs bs) ∧ ∀ b ∈ bs, b < 256 := by
      intro r
      by_cases hrc : r < cap0
      · obtain ⟨bs, h⟩ := hp r hrc
        exact ⟨bs, fun _ => h⟩
      · exact ⟨[], fun h => absurd h hrc⟩
    let B : Nat → List Nat := fun r => Classical.choose (hp' r)
    have hB : ∀ r, r < cap0 → Rd W (A r) (L r) (C r) (cs (B r)) ∧ ∀ b ∈ B r, b < 256 := fun r => Classical.choose_spec (hp' r)
    refine ⟨(List.range len0).map fun r => ⟨A r, L r, C r, B r⟩, ⟨by simp, hl, hm, (fun e => by cases e), fun hn => ⟨a, rfl, ?_, fun j u hu => ?_⟩⟩, fun p hpm => ?_⟩
    · have h0 := (hr 0 (by omega)).1
      have := World.block_lt_of_cell? W _ h0
      rwa [add_block] at this
    · rw [List.map_map, List.getElem?_map, Option.map_eq_some_iff] at hu
      obtain ⟨r, hr1, rfl⟩ := hu
      have hj := (List.getElem?_eq_some_iff.1 hr1).1
      rw [List.length_range] at hj
      have : r = j := by simpa [List.getElem?_range hj] using hr1.symm
      subst this
      exact (hr r (by omega)).1
    · simp only [List.mem_map, List.mem_range] at hpm
      obtain ⟨r, hr1, rfl⟩ := hpm
      exact hB r (by omega)

end Go.Proofs.YthkbmmebfkaphaaDoor
