/-
  Texts of earlier layers, as one.
-/
import Derived.Test.YthlhchaoedcdbaaDoorRBalI
import Derived.Test.YthlhchaoedcdbaaDoorRBal
import Derived.Test.YthlhchaoedcdbaaDoorRCmdT
import Derived.Test.YthlhchaoedcdbaaDoorRBase
import Derived.Deep.Cut
import Derived.Deep.RegionHeld3
/- The document's Take of a ballot. -/
namespace Go.Proofs.YthlhchaoedcdbaaDoor.Bal
open Go.RowKit Mem Cod Cmd

theorem bel_set2 {W v : World} {p : Nat} {t : TypeId} {a b : Value} (h : Blk v p t #[a, b]) (hp : W.heap.size ≤ p) (hb : Below W.heap.size W v) (a' b' : Value) :
    Below W.heap.size W ((v.setCell ⟨p, 0, none⟩ a').setCell ⟨p, 1, none⟩ b') :=
  hb.trans (gr_below (blk2_set h a' b').2 hb.size fun b hb => by injection hb with hb; omega)
def RtkCut (W : World) (vs : Array Value) (v4 : Value) (wx : World) : Prop :=
  ∃ p, v4 = .pointer (some ⟨p, 0, none⟩) ∧ W.heap.size ≤ p ∧ Blk wx p 25 vs ∧ Below W.heap.size W wx
theorem rtk_new {W v : World} {vs : Array Value} (hb : Below W.heap.size W v) : RtkCut W vs (.pointer (some ⟨v.heap.size, 0, none⟩)) (v.alloc (.cells vs 25)) :=
  ⟨_, rfl, hb.size, Blk.new _ _ _, hb.alloc hb.size _⟩
theorem rtk_set {W v : World} {p : Nat} {a b : Value} (h : Blk v p 25 #[a, b]) (hp : W.heap.size ≤ p) (hb : Below W.heap.size W v) (a' b' : Value) :
    RtkCut W #[a', b'] (.pointer (some ⟨p, 0, none⟩)) ((v.setCell ⟨p, 0, none⟩ a').setCell ⟨p, 1, none⟩ b') :=
  ⟨_, rfl, hp, (blk2_set h a' b').1, bel_set2 h hp hb a' b'⟩

end Go.Proofs.YthlhchaoedcdbaaDoor.Bal
