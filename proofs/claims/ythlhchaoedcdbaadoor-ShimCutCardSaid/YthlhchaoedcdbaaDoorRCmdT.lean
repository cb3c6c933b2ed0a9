/-
  Texts of earlier layers, as one.
-/
import Derived.Test.YthlhchaoedcdbaaDoorRCmdI
import Derived.Test.YthlhchaoedcdbaaDoorRCmdR
import Derived.Test.YthlhchaoedcdbaaDoorRCodS
import Derived.Test.YthlhchaoedcdbaaDoorRBase
/- The document's Take of any item: the command whose item that is, or none. -/
namespace Go.Proofs.YthlhchaoedcdbaaDoor.Cw
open Go.RowKit Mem Cmd Cod


theorem with_reducible_new {w v : World} {vs : Array Value} {t : TypeId} (h : Below (w.alloc (.cells vs t)).heap.size (w.alloc (.cells vs t)) v) : Blk v w.heap.size t vs := (Blk.new w t vs).bel h
theorem World.size_drew' (w : World) : w.drew.heap.size = w.heap.size := rfl
theorem with_reducible_new2 {w v : World} {vs : Array Value} {t : TypeId} (h : Below (w.alloc (.cells vs t)).drew.heap.size (w.alloc (.cells vs t)).drew v) : Blk v w.heap.size t vs := (Blk.new w t vs).drew.bel h
theorem bel_set6 {W v : World} {p : Nat} {t : TypeId} {a b c d e f : Value} (h : Blk v p t #[a, b, c, d, e, f]) (hp : W.heap.size ≤ p) (hb : Below W.heap.size W v) (a' b' c' d' e' f' : Value) :
    Below W.heap.size W ((((((v.setCell ⟨p, 0, none⟩ a').setCell ⟨p, 1, none⟩ b').setCell ⟨p, 2, none⟩ c').setCell ⟨p, 3, none⟩ d').setCell ⟨p, 4, none⟩ e').setCell ⟨p, 5, none⟩ f') :=
  hb.trans (gr_below (blk6_set h a' b' c' d' e' f').2 hb.size fun b hb => by injection hb with hb; omega)

def RtkCut (W : World) (vs : Array Value) (v4 : Value) (wx : World) : Prop :=
  ∃ p, v4 = .pointer (some ⟨p, 0, none⟩) ∧ W.heap.size ≤ p ∧ Blk wx p 27 vs ∧ Below W.heap.size W wx

theorem rtk_new {W v : World} {vs : Array Value} (hb : Below W.heap.size W v) : RtkCut W vs (.pointer (some ⟨v.heap.size, 0, none⟩)) (v.alloc (.cells vs 27)) :=
  ⟨_, rfl, hb.size, Blk.new _ _ _, hb.alloc hb.size _⟩
theorem rtk_set {W v : World} {p : Nat} {a b c d e f : Value} (h : Blk v p 27 #[a, b, c, d, e, f]) (hp : W.heap.size ≤ p) (hb : Below W.heap.size W v) (a' b' c' d' e' f' : Value) :
    RtkCut W #[a', b', c', d', e', f'] (.pointer (some ⟨p, 0, none⟩)) ((((((v.setCell ⟨p, 0, none⟩ a').setCell ⟨p, 1, none⟩ b').setCell ⟨p, 2, none⟩ c').setCell ⟨p, 3, none⟩ d').setCell ⟨p, 4, none⟩ e').setCell ⟨p, 5, none⟩ f') :=
  ⟨_, rfl, hp, (blk6_set h a' b' c' d' e' f').1, bel_set6 h hp hb a' b' c' d' e' f'⟩

end Go.Proofs.YthlhchaoedcdbaaDoor.Cw
