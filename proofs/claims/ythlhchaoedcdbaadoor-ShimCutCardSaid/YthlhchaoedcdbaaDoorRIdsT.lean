/-
  Texts of earlier layers, as one.
-/
import Derived.Test.YthlhchaoedcdbaaDoorRIdsI
import Derived.Test.YthlhchaoedcdbaaDoorRBase
import Derived.BigRegion
import Derived.Deep.Cut
/- The document's Take of any item: the set whose item that is, or none. -/
namespace Go.Proofs.YthlhchaoedcdbaaDoor
open Go.RowKit Mem Ids Cod Go.Sort

theorem toList_nil {s : ByteArray} (h : s.toList = []) : s = ByteArray.empty := by
  have h1 := eq_tell s ByteArray.empty
  rw [h, show ByteArray.empty.toList = [] by simp [ByteArray.toList, ByteArray.toList.loop]] at h1
  have h2 := of_decide_eq_true (h1.symm.trans rfl)
  exact bts_inj h2

def RtCut (B : Nat) (w : World) (a b : Array Value) (v6 v7 y2 y3 y4 y5 : Value) (wx : World) : Prop :=
  ∃ p q, v6 = .pointer (some ⟨p, 0, none⟩) ∧ v7 = .pointer (some ⟨q, 0, none⟩) ∧ B ≤ p ∧ B ≤ q ∧ Blk wx p 51 a ∧ Blk wx q 51 b ∧ Below B w wx ∧ y2 = undef ∧ y3 = undef ∧ y4 = undef ∧ y5 = undef

theorem rt_two (w : World) (t : TypeId) (a b : Array Value) : Blk ((w.alloc (.cells a t)).alloc (.cells b t)).drew w.heap.size t a ∧ Blk ((w.alloc (.cells a t)).alloc (.cells b t)).drew (w.heap.size + 1) t b ∧ Below w.heap.size w ((w.alloc (.cells a t)).alloc (.cells b t)).drew := by
  refine ⟨((Blk.new w t a).alloc _).drew, ?_, Below.drew (((Below.refl w.heap.size w).alloc (Nat.le_refl _) _).alloc (by rw [size_alloc]; omega) _)⟩
  have h := (Blk.new (w.alloc (.cells a t)) t b).drew
  rwa [size_alloc] at h
theorem okp_mk {k1 k2 : Int} {n1 n2 : Nat} {s1 s2 : ByteArray} {l1 l2 : List It} : okp (.mk k1 n1 s1 l1) (.mk k2 n2 s2 l2) ↔ (k1 = 0 ∧ k2 = 0 ∧ s1 = ByteArray.empty ∧ s2 = ByteArray.empty ∧ l1.length = 0 ∧ l2.length = 0 ∧ n1 ≤ 6 ∧ n2 ≤ 1099511627776) := by
  unfold okp
  constructor
  · rintro ⟨h1, h2, h3, h4⟩
    injection h1 with e1 e2 e3 e4
    injection h2 with e5 e6 e7 e8
    exact ⟨e1, e5, e3, e7, by rw [e4]; rfl, by rw [e8]; rfl, h3, h4⟩
  · rintro ⟨e1, e5, e3, e7, e4, e8, h3, h4⟩
    rw [e1, e5, e3, e7, List.eq_nil_of_length_eq_zero e4, List.eq_nil_of_length_eq_zero e8]
    exact ⟨rfl, rfl, h3, h4⟩

def RtRel (ks : List It) (B : Nat) (w : World) (v4 vk : Value) (wr : World) : Prop :=
  ∃ (k K : Nat) (V : Option Addr) (c : Nat), v4 = .slice V k c ∧ vk = .int .i64 K ∧ 2 * k = K ∧ K ≤ ks.length ∧ its (pairs (ks.take K)) = ks.take K ∧ wr.ownsRow B 23 2 (.slice V k c) k (cells (pairs (ks.take K))) ∧ Below B w wr

end Go.Proofs.YthlhchaoedcdbaaDoor
