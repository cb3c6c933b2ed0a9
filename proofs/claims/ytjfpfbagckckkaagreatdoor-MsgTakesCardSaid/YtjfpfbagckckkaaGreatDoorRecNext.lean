/-
  Texts of earlier layers, as one.
-/
import Derived.Test.YtjfpfbagckckkaaGreatDoorRecItemPlain
import Derived.Test.YtjfpfbagckckkaaGreatDoorRecSmall
import Derived.Test.YtjfpfbagckckkaaGreatDoorRBalT
import Derived.Deep.RegionHeld3
import Derived.BigRegion
/- rec's parts: the next one of them, counted; a part that is a number. -/
namespace Go.Proofs.YtjfpfbagckckkaaGreatDoor.Rk
open Go.RowKit Mem Ids Att Cod
theorem row_at {w : World} {S : Nat → Prop} {A : Option Addr} {n c k : Nat} {l : List It} (h : Cod.Row w S A n c l) (hk : k < n) :
 ∃ g o A' c', A = some ⟨g, o, none⟩ ∧ S g ∧ g < w.heap.size ∧ w.cell? ⟨g, o + k * 4, none⟩ = some (.int .i64 (l.getD k Cmd.zeroIt).kind) ∧ w.cell? ⟨g, o + k * 4 + 1, none⟩ = some (.int .u64 ((l.getD k Cmd.zeroIt).num : Int)) ∧ w.cell? ⟨g, o + k * 4 + 2, none⟩ = some (.string (l.getD k Cmd.zeroIt).str) ∧ w.cell? ⟨g, o + k * 4 + 3, none⟩ = some (.slice A' (l.getD k Cmd.zeroIt).kids.length c') ∧ Lies w S (l.getD k Cmd.zeroIt) A' c' := by
 have hl : Lies w S (.mk 0 0 ByteArray.empty l) A c := by
  have := h.lies (k := 0) (n := 0) (s := ByteArray.empty) (by decide) (by decide) (by decide)
  exact this
 have hn : l.length = n := h.1
 obtain ⟨g, o, A', c', e, hS, hg, r0, r1, r2, r3, hly⟩ := lies_kid hl (i := k) (by show k < l.length; omega)
 have hy : (It.mk 0 0 ByteArray.empty l).kids[k]'(by show k < l.length; omega) = l.getD k Cmd.zeroIt := by
  show l[k]'(by omega) = _
  rw [List.getD_eq_getElem?_getD, List.getElem?_eq_getElem (by omega)]
  rfl
 rw [hy] at r0 r1 r2 r3 hly
 exact ⟨g, o, A', c', e, hS, hg, r0, r1, r2, r3, hly⟩
end Go.Proofs.YtjfpfbagckckkaaGreatDoor.Rk
