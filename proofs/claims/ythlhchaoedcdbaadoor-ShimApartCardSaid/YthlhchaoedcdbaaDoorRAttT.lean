/-
  Texts of earlier layers, as one.
-/
import Derived.Test.YthlhchaoedcdbaaDoorRAtt
import Derived.Test.YthlhchaoedcdbaaDoorRIdsT
import Derived.Test.YthlhchaoedcdbaaDoorRCodS
import Derived.Test.YthlhchaoedcdbaaDoorRBase
/- The document's Take of any item. -/
namespace Go.Proofs.YthlhchaoedcdbaaDoor
open Go.RowKit Mem Ids Att Cod

theorem with_reducible_new {w v : World} {vs : Array Value} {t : TypeId} (h : Below (w.alloc (.cells vs t)).heap.size (w.alloc (.cells vs t)) v) : Blk v w.heap.size t vs := (Blk.new w t vs).bel h
theorem World.size_drew' (w : World) : w.drew.heap.size = w.heap.size := rfl
theorem with_reducible_new2 {w v : World} {vs : Array Value} {t : TypeId} (h : Below (w.alloc (.cells vs t)).drew.heap.size (w.alloc (.cells vs t)).drew v) : Blk v w.heap.size t vs := (Blk.new w t vs).drew.bel h
theorem bel_set3 {W v : World} {p : Nat} {t : TypeId} {a b c : Value} (h : Blk v p t #[a, b, c]) (hp : W.heap.size ≤ p) (hb : Below W.heap.size W v) (a' b' c' : Value) :
    Below W.heap.size W (((v.setCell ⟨p, 0, none⟩ a').setCell ⟨p, 1, none⟩ b').setCell ⟨p, 2, none⟩ c') := (blk3_set h hb hp a' b' c').2
def RtkCut (W : World) (vs : Array Value) (v4 : Value) (wx : World) : Prop :=
  ∃ p, v4 = .pointer (some ⟨p, 0, none⟩) ∧ W.heap.size ≤ p ∧ Blk wx p 30 vs ∧ Below W.heap.size W wx
theorem rtk_new {W v : World} {vs : Array Value} (hb : Below W.heap.size W v) : RtkCut W vs (.pointer (some ⟨v.heap.size, 0, none⟩)) (v.alloc (.cells vs 30)) :=
  ⟨_, rfl, hb.size, Blk.new _ _ _, hb.alloc hb.size _⟩
theorem rtk_set {W v : World} {p : Nat} {a b c : Value} (h : Blk v p 30 #[a, b, c]) (hp : W.heap.size ≤ p) (hb : Below W.heap.size W v) (a' b' c' : Value) :
    RtkCut W #[a', b', c'] (.pointer (some ⟨p, 0, none⟩)) (((v.setCell ⟨p, 0, none⟩ a').setCell ⟨p, 1, none⟩ b').setCell ⟨p, 2, none⟩ c') :=
  ⟨_, rfl, hp, (blk3_set h hb hp a' b' c').1, bel_set3 h hp hb a' b' c'⟩
theorem held7 {W w' : World} {p g : Nat} {t u : TypeId} {a b c a' b' c' d' : Value} (h1 : Blk W p t #[a, b, c]) (h2 : Blk W g u #[a', b', c', d']) (hb : Below W.heap.size W w') :
    w'.cell? ⟨p, 0, none⟩ = some a ∧ w'.cell? ⟨p, 1, none⟩ = some b ∧ w'.cell? ⟨p, 2, none⟩ = some c ∧ w'.cell? ⟨g, 0, none⟩ = some a' ∧ w'.cell? ⟨g, 1, none⟩ = some b' ∧ w'.cell? ⟨g, 2, none⟩ = some c' ∧ w'.cell? ⟨g, 3, none⟩ = some d' := by
  obtain ⟨x0, x1, x2⟩ := blk3 (h1.bel hb)
  obtain ⟨y0, y1, y2, y3⟩ := blk4 (h2.bel hb)
  exact ⟨x0, x1, x2, y0, y1, y2, y3⟩

end Go.Proofs.YthlhchaoedcdbaaDoor
/- The document's TakeOld of any item. -/
namespace Go.Proofs.YthlhchaoedcdbaaDoor
open Go.RowKit Mem Ids Att Cod


end Go.Proofs.YthlhchaoedcdbaaDoor
