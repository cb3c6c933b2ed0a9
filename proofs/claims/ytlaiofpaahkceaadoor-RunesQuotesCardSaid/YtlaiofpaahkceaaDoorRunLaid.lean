/-
  What the rows' lists give: the library's tables and errors lie in the world as the program's text lays them; and a world for the witnesses.
-/
import Derived.Test.YtlaiofpaahkceaaDoorRows
import Derived.Test.YtlaiofpaahkceaaDoorRunCalls
import Derived.Lib.LaidTab
import Derived.LaidSub
import Derived.LaidLaws
import Derived.Deep.DeepHandedRow
namespace Go.Proofs.YtlaiofpaahkceaaDoor
open Go.ChangeShapes Go.WideShapes Go.ChangeAt Go.RowKit

def tab32 : List Int := [0, 1, 28, 2, 29, 14, 24, 3, 30, 22, 20, 15, 25, 17, 4, 8, 31, 27, 13, 23, 21, 19, 16, 7, 26, 12, 18, 6, 11, 5, 10, 9]
def tab64 : List Int := [0, 1, 56, 2, 57, 49, 28, 3, 61, 58, 42, 50, 38, 29, 17, 4, 62, 47, 59, 36, 45, 43, 51, 22, 53, 39, 33, 30, 24, 18, 12, 5, 63, 55, 48, 27, 60, 41, 37, 16, 46, 35, 44, 21, 52, 32, 23, 11, 54, 26, 40, 15, 34, 20, 31, 10, 25, 14, 19, 9, 13, 8, 7, 6]
def tabPow : List Int := [1, 10, 100, 1000, 10000, 100000, 1000000, 10000000, 100000000, 1000000000, 10000000000, 100000000000, 1000000000000, 10000000000000, 100000000000000, 1000000000000000, 10000000000000000, 100000000000000000, 1000000000000000000, 10000000000000000000]

theorem gTab : Tryd.prog.globalNamed "math/bits.deBruijn64tab" = some 5 := by kernel_rfl
theorem gTabType : (Tryd.prog.globals[5]?).map (·.type) = some 84 := by kernel_rfl
theorem cellsTab : Tryd.prog.cellsOf 84 = 64 := by kernel_rfl
theorem cellsByte : Tryd.prog.cellsOf 5 = 1 := by kernel_rfl

def isTab (x : String × DataW Unit) : Bool := x.1 == "math/bits.deBruijn64tab"
theorem tab_of_list {l : List (String × DataW Unit)} {W : World} (h : laidMetH Tryd.prog l W) (e : l.filter isTab = [("math/bits.deBruijn64tab", Lib.tabData .u8 tab64)]) : Tab W := by
  have h1 := laidMetH.filter isTab h
  rw [e] at h1
  have h2 : Lib.TabIs Tryd.prog W "math/bits.deBruijn64tab" .u8 tab64 := Lib.tabIs_of_head (rest := []) gTab gTabType Tryd.underlying84 Tryd.underlying5 cellsByte cellsTab h1
  exact (h2.cell gTab 15 (by decide)).trans rfl
theorem tabOf {W : World} (h : laidMetH Tryd.prog Rows.runesKeysRow.laid W) : Tab W := tab_of_list h (by kernel_rfl)

theorem gSyn : Tryd.prog.globalNamed "strconv.ErrSyntax" = some 1 := by kernel_rfl
theorem gRan : Tryd.prog.globalNamed "strconv.ErrRange" = some 2 := by kernel_rfl
theorem gSynType : (Tryd.prog.globals[1]?).map (·.type) = some 46 := by kernel_rfl
theorem gRanType : (Tryd.prog.globals[2]?).map (·.type) = some 46 := by kernel_rfl
theorem err_of_list {l : List (String × DataW Unit)} {W : World} (name : String) (g : Nat) (nm : String) (d : DataW Unit) (h : laidMetH Tryd.prog l W) (e : (l.filter fun x => x.1 == name) = [(name, .iface nm d)]) (hn : (DataW.iface nm d).handleName?.isNone = true)
    (hg : Tryd.prog.globalNamed name = some g) (hty : (Tryd.prog.globals[g]?).map (·.type) = some 46) : Err g W := by
  have h1 := laidMetH.filter (fun x => x.1 == name) h
  have hf : ([(name, DataW.iface nm d)] : List (String × DataW Unit)).filter (fun x => x.2.handleName?.isSome) = [] := by
    have : (DataW.iface nm d).handleName?.isSome = false := by
      cases hh : (DataW.iface nm d).handleName? with
      | none => rfl
      | some _ => rw [hh] at hn; cases hn
    simp [this]
  unfold laidMetH at h1
  rw [e, hf] at h1
  obtain ⟨ps, ⟨g', t', cs, fuel, p, q, hg', ht', hvar, hd, _, _⟩, _⟩ := h1
  obtain rfl := Option.some.inj (hg.symm.trans hg')
  obtain rfl := Option.some.inj (hty.symm.trans ht')
  obtain ⟨l⟩ := cs
  obtain ⟨f1, u, v, hl, _⟩ := iface_of_trod Tryd.underlying46 hd
  have hl' : l = [.iface u v] := hl
  subst hl'
  exact ⟨.iface u v, by simpa using World.var?_cell hg hvar 0, .inr ⟨u, v, rfl⟩⟩

/-- Both. -/
def Glob (w : World) : Prop := Tab w ∧ Errs w
theorem globOf {W : World} (h : laidMetH Tryd.prog Rows.runesQuotesRow.laid W) : Glob W :=
  ⟨tab_of_list h (by kernel_rfl),
   err_of_list "strconv.ErrSyntax" _ "*errors.errorString" (.ptr (.agg [.lit (.string [105, 110, 118, 97, 108, 105, 100, 32, 115, 121, 110, 116, 97, 120])])) h (by kernel_rfl) (by kernel_rfl) gSyn gSynType,
   err_of_list "strconv.ErrRange" _ "*errors.errorString" (.ptr (.agg [.lit (.string [118, 97, 108, 117, 101, 32, 111, 117, 116, 32, 111, 102, 32, 114, 97, 110, 103, 101])])) h (by kernel_rfl) (by kernel_rfl) gRan gRanType⟩

abbrev synS : ByteArray := { data := #[105, 110, 118, 97, 108, 105, 100, 32, 115, 121, 110, 116, 97, 120] }
abbrev ranS : ByteArray := { data := #[118, 97, 108, 117, 101, 32, 111, 117, 116, 32, 111, 102, 32, 114, 97, 110, 103, 101] }
noncomputable def lowest : Nat := (World.holding Tryd.prog default ⟨#[], #[], []⟩).heap.size
noncomputable def putTab (k : IntKind) (zs : List Int) : Obj → Obj
  | .cells _ t frozen => .cells (zs.map fun z => Value.int k z).toArray t frozen
  | o => o
noncomputable def putErr (b : Nat) : Obj → Obj
  | .cells _ t frozen => .cells #[.iface 78 (.pointer (some ⟨b, 0, none⟩))] t frozen
  | o => o
/-- A world for the witnesses: the settled one, with what the initialisers lay. -/
noncomputable def laidWorld (os : Os) : World :=
  let w0 := World.holding Tryd.prog os ⟨#[.cells #[.string synS] 80, .cells #[.string ranS] 80], #[], []⟩
  { w0 with heap := ((((w0.heap.modify 0 (putTab .u64 tabPow)).modify 4 (putTab .u8 tab32)).modify 5 (putTab .u8 tab64)).modify 1 (putErr lowest)).modify 2 (putErr (lowest + 1)) }
end Go.Proofs.YtlaiofpaahkceaaDoor
