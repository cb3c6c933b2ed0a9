/-
  Texts of earlier layers, as one.
-/
import Derived.Test.YthlhchaoedcdbaaGreatDoorMsgBase
import Derived.Test.YthlhchaoedcdbaaGreatDoorMsgPl
import Derived.Test.YthlhchaoedcdbaaGreatDoorMsgQ
import Derived.Test.YthlhchaoedcdbaaGreatDoorRAttT
import Derived.Test.YthlhchaoedcdbaaGreatDoorRCmdT
import Derived.Test.YthlhchaoedcdbaaGreatDoorRBalRT
import Derived.Deep.Cut
import Derived.Deep.RegionHeld
/- The document's Read of an item, step by step. -/
namespace Go.Proofs.YthlhchaoedcdbaaGreatDoor.Mg
open Go.RowKit Mem Ids Att Cod Rk
def InvR (W : World) (M : Nat) (C : Array Value) (V : Option Addr) (nv cv : Nat) (dp : List (Int × Int)) (wx : World) : Prop :=
 Blk wx M 32 C ∧ Rs wx V nv cv dp ∧ (∀ g o, V = some ⟨g, o, none⟩ → M + 1 ≤ g) ∧ Below W.heap.size W wx
section
variable {W wx w' : World} {M : Nat} {C : Array Value} {V : Option Addr} {nv cv : Nat} {dp : List (Int × Int)}
theorem InvR.set (h : InvR W M C V nv cv dp wx) (hM : W.heap.size ≤ M) (i : Nat) (u : Value) : InvR W M (C.setIfInBounds i u) V nv cv dp (wx.setCell ⟨M, i, none⟩ u) := by
 have hg : wx.grownBy (wx.setCell ⟨M, i, none⟩ u) (some M) := gr_set (gr_refl wx (some M)) (.inl rfl) _
 exact ⟨h.1.put i u, h.2.1.grown hg (fun g o e k => by injection k with k; have := h.2.2.1 g o e; omega), h.2.2.1, h.2.2.2.setCell (p := ⟨M, i, none⟩) hM u⟩
end
end Go.Proofs.YthlhchaoedcdbaaGreatDoor.Mg
/- The document's Read of an item, in either form. -/
namespace Go.Proofs.YthlhchaoedcdbaaGreatDoor.Mg
open Go.RowKit Mem Ids Att Cod Rk
end Go.Proofs.YthlhchaoedcdbaaGreatDoor.Mg
