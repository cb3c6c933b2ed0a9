/-
  Texts of earlier layers, as one.
-/
import Derived.Test.YtkejjdoaljoooaaGreatDoorRows
import Derived.Lib.LaidTab
import Derived.Test.YtkejjdoaljoooaaGreatDoorSchA
/- What the rows' list gives: the table lies in the world as the program's text lays it; a world for the witnesses. -/
namespace Go.Proofs.YtkejjdoaljoooaaGreatDoor
open Go.ChangeShapes Go.WideShapes Go.ChangeAt Go.RowKit Mem
theorem gTab : Tryz.prog.globalNamed "stonecrop/crc.halves" = some 0 := by kernel_rfl
theorem gTabType : (Tryz.prog.globals[0]?).map (·.type) = some 259 := by kernel_rfl
theorem cellsTab : Tryz.prog.cellsOf 259 = 16 := by kernel_rfl
theorem cellsWord : Tryz.prog.cellsOf 205 = 1 := by kernel_rfl
theorem table {W : World} (h : laidMetH Tryz.prog Rows.schemaKeepsRow.laid W) : Lib.TabIs Tryz.prog W "stonecrop/crc.halves" .u32 (Crc.tab.map fun (n : Nat) => (n : Int)) :=
 Lib.tabIs_of_head (rest := []) gTab gTabType Tryz.underlying259 Tryz.underlying205 cellsWord cellsTab h
theorem tabOf {W : World} (h : laidMetH Tryz.prog Rows.schemaKeepsRow.laid W) : Cr.Tab W := by
 intro i hi;have hc := (table h).cell gTab i (by simpa [Crc.tab] using hi);rw [hc];have ht := Crc.tab_ok i hi;simp [List.getD, List.getElem?_map, ht]
noncomputable def laidWorld (os : Os) : World :=
 { World.holding Tryz.prog os ⟨#[], #[], []⟩ with heap := (World.holding Tryz.prog os ⟨#[], #[], []⟩).heap.modify 0 fun
  | .cells _ t frozen => .cells (Crc.tab.map fun (n : Nat) => Value.int .u32 (n : Int)).toArray t frozen
  | o => o }
end Go.Proofs.YtkejjdoaljoooaaGreatDoor
/- Records that came in, as the rows' reading opens them. -/
namespace Go.Proofs.YtkejjdoaljoooaaGreatDoor.Sc
open Go.ChangeShapes Go.WideShapes Go.ChangeAt Go.RowKit Mem Ids Rk
section
variable {H : Type} {enc : TypeId × Value → H} {W : World} {held : Bool}
set_option maxRecDepth 100000 in
theorem recs_of {fuel : Nat} {a : Option Addr} {len cap : Nat} {x : DataW H × List MemPlace} (h : DataW.trod enc Tryz.prog W 0 (fun _ => true) held fuel 22 [.slice a len cap] = some x) : ∃ qs, Recs W a len cap qs := by
 have hC : Tryz.prog.cellsOf 43 = 16 := by kernel_rfl
 rcases Go.Deep.open_slice Tryz.underlying22 h with ⟨hcs, _⟩ | ⟨ad, len', cap', m, n, D, Pl, hcs, _, hl, hm, hmm, _, hx⟩
 · simp at hcs
   obtain ⟨rfl, rfl, rfl⟩ := hcs;exact ⟨[], Recs.nil_ W⟩
 · simp at hcs
   obtain ⟨rfl, rfl, rfl⟩ := hcs;have hlm : len ≤ m := by rw [hmm]; split <;> omega
   have hspot : 0 < len → ad.spot = none := fun h0 => by
    obtain ⟨cs', h1, h2⟩ := hx 0 (by omega);rw [hC] at h1;obtain ⟨_, _, hcell⟩ := World.cells?_some h1;obtain ⟨y, A, n, c, rfl, _⟩ := rec_of h2;have e0 := hcell 0 (by omega);have e1 : W.cell? ad = some (.int .i64 y.id.1) := (by simpa [Addr.add] using e0);unfold World.cell? at e1;cases hsp : ad.spot with
    | none => rfl
    | some _ =>
      rw [hsp] at e1;split at e1
      · simp at e1
      · cases e1
   have each : ∀ i, i < len → ∃ q : Pt, Dep W q ∧ ∃ b o, ad = ⟨b, o, none⟩ ∧ b < W.heap.size ∧ W.rangeAt b (o + i * 16) (cellsOf q) := by
    intro i hi;obtain ⟨cs', h1, h2⟩ := hx i (by omega);rw [hC] at h1;obtain ⟨_, hlen, hcell⟩ := World.cells?_some h1;obtain ⟨y, A, n, c, rfl, hr⟩ := rec_of h2;have hs : ad.spot = none := hspot (by omega);obtain ⟨g, o, sp⟩ := ad;have hs' : sp = none := hs;subst hs';refine ⟨⟨y, A, n, c⟩, hr, g, o, rfl, ?_, fun j v hv => ?_⟩
    · have e0 := hcell 0 (by omega)
      have := World.block_lt_of_cell? W _ e0;rwa [add_block, add_block] at this
    · have hj : j < 16 := by have h1 := (List.getElem?_eq_some_iff.1 hv).1; rwa [length_cellsOf] at h1
      have e := hcell j hj;rw [Go.Deep.add_add, Addr.add_lit] at e;have e2 : (cellsOf ⟨y, A, n, c⟩)[j]? = some v := hv;have e3 : W.cell? ⟨g, o + (i * 16 + j), none⟩ = (cellsOf ⟨y, A, n, c⟩)[j]? := (by unfold cellsOf; simpa using e);rw [← Nat.add_assoc] at e3;exact e3.trans e2
   have each2 : ∀ i, ∃ q : Pt, i < len → Dep W q ∧ ∃ b o, ad = ⟨b, o, none⟩ ∧ b < W.heap.size ∧ W.rangeAt b (o + i * 16) (cellsOf q) := fun i => by
    by_cases hi : i < len
    · obtain ⟨y, hy⟩ := each i hi
      exact ⟨y, fun _ => hy⟩
    · exact ⟨⟨zeroRc, none, 0, 0⟩, fun h => absurd h hi⟩
   let f : Nat → Pt := fun i => Classical.choose (each2 i)
   have hf : ∀ i, i < len → Dep W (f i) ∧ ∃ b o, ad = ⟨b, o, none⟩ ∧ b < W.heap.size ∧ W.rangeAt b (o + i * 16) (cellsOf (f i)) := fun i => Classical.choose_spec (each2 i);refine ⟨(List.range len).map f, by simp, hl, hm, (fun e => by cases e), fun h0 => ?_, fun q hq => ?_⟩
   · obtain ⟨_, b, o, rfl, hb, _⟩ := hf 0 h0
     refine ⟨b, o, rfl, hb, fun j q hq => ?_⟩;rw [List.getElem?_map, Option.map_eq_some_iff] at hq;obtain ⟨r, hr, rfl⟩ := hq;have hj := (List.getElem?_eq_some_iff.1 hr).1;rw [List.length_range] at hj;have : r = j := (by simpa [List.getElem?_range hj] using hr.symm);subst this;obtain ⟨_, b', o', e, _, hra⟩ := hf r hj;injection e with e1 e2;subst e1;subst e2;exact hra
   · obtain ⟨r, hr, rfl⟩ := List.mem_map.1 hq
     exact (hf r (List.mem_range.1 hr)).1
end
end Go.Proofs.YtkejjdoaljoooaaGreatDoor.Sc
