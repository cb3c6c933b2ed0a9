/-
  Texts of earlier layers, as one.
-/
import Derived.Test.YtjfpfbagckckkaaGreatDoorRecItemPlain
import Derived.Test.YtjfpfbagckckkaaGreatDoorRecSmall
import Derived.Deep.RegionHeld3
import Derived.Deep.AppendLies
/- rec.form, and the document's laid: the item of a right record, with what it hangs on as told; in memory of the call's own, but for that. -/
namespace Go.Proofs.YtjfpfbagckckkaaGreatDoor.Rk
open Go.RowKit Mem Ids Att Cod
def GivesList (w : World) (n : Nat) (l : List It) (e : Ending) (w' : World) : Prop :=
 ∃ V c, e = .returned (.agg #[.int .i64 2, .int .u64 0, .string ByteArray.empty, .slice V n c]) ∧ Lies w' (fun b => w.heap.size ≤ b ∧ b < w'.heap.size) (.mk 2 0 ByteArray.empty l) V c ∧ Below w.heap.size w w'
theorem GivesNew.list {w : World} {l : List It} {n : Nat} {e : Ending} {w' : World} (hn : l.length = n) (h : GivesNew w (.mk 2 0 ByteArray.empty l) e w') : GivesList w n l e w' := by
 obtain ⟨V, c, he, hl, hb⟩ := h
 subst hn
 exact ⟨V, c, he, hl, hb⟩
theorem row_own4 {w : World} {S : Nat → Prop} {base n c : Nat} {V : Option Addr} {hs : List Hung} (h : w.ownsRow base 48 4 (.slice V n c) n (cells4 hs)) (hL : ∀ h ∈ hs, Lies w S h.x h.A h.c) (hS : ∀ b, base ≤ b → b < w.heap.size → S b) :
 Cod.Row w S V n c (hs.map (·.x)) := by
 have hl := h.1
 rw [length_cells4] at hl
 have hn : hs.length = n := by omega
 rcases h.2 with ⟨hv, h0⟩ | ⟨g, cap, cur, hv, hb, hh, hnc, hm, _, _⟩
 · injection hv with e1 e2 e3
   subst e1; subst e3
   exact Row.of_hung hn ⟨by omega, by omega, fun _ => rfl⟩ hL fun h => by omega
 · injection hv with e1 e2 e3
   subst e1; subst e3
   unfold maxLen at hm
   have hlt := (Array.getElem?_eq_some_iff.1 hh).1
   exact Row.of_hung hn ⟨hnc, by omega, (fun e => by cases e)⟩ hL fun _ => ⟨_, rfl, hS g hb hlt, hlt, h.cells (g := g) rfl⟩
end Go.Proofs.YtjfpfbagckckkaaGreatDoor.Rk
