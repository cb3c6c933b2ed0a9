/-
  Items and trees of nodes in memory, of no program's walk: 'Lies' (an item's list, with all that it leads to, lies at a slice), 'Row' (a slice holds these items), 'Node' (a value is the tree of a right item); what keeps them.
-/
import Derived.Test.YtccbkpdkmdnmfaaCodPlain
import Derived.Test.YtccbkpdkmdnmfaaMem
namespace Go.Proofs.Ytccbkpdkmdnmfaa.Cod
open Go.RowKit Mem

theorem toList_nil (s : ByteArray) : s.toList = [] ↔ s.size = 0 := by
  rw [ByteArray.toList_eq, ← List.length_eq_zero_iff, Array.length_toList]
  exact Iff.rfl

/-- The four cells of an item at an address. -/
def Spot (w : World) (ad : Addr) (y : It) (A : Option Addr) (c : Nat) : Prop :=
  w.cell? ad = some (.int .i64 y.kind) ∧ w.cell? ⟨ad.block, ad.off + 1, none⟩ = some (.int .u64 (y.num : Int)) ∧ w.cell? ⟨ad.block, ad.off + 2, none⟩ = some (.string y.str) ∧ w.cell? ⟨ad.block, ad.off + 3, none⟩ = some (.slice A y.kids.length c)

theorem wt_kid {x : It} {i : Nat} (h : i < x.kids.length) : wt x.kids[i] < wt x := by
  have := wt_mem (List.getElem_mem h)
  rw [wt_eq x]
  omega

/-- The item x, whose list is the slice at A of capacity c, lies in w with all that it leads to, in blocks of S. -/
def Lies (w : World) (S : Nat → Prop) (x : It) (A : Option Addr) (c : Nat) : Prop :=
  (-9223372036854775808 ≤ x.kind ∧ x.kind ≤ 9223372036854775807 ∧ x.num ≤ 18446744073709551615 ∧ x.str.size ≤ 140737488355328) ∧ (x.kids.length ≤ c ∧ c ≤ 9223372036854775807 ∧ (A = none → c = 0)) ∧
  ∀ i, (h : i < x.kids.length) → ∃ ad A' c', A = some ad ∧ S ad.block ∧ ad.block < w.heap.size ∧ Spot w (ad.add (i * 4)) x.kids[i] A' c' ∧ Lies w S x.kids[i] A' c'
termination_by wt x
decreasing_by exact wt_kid h

theorem lies_eq (w : World) (S : Nat → Prop) (x : It) (A : Option Addr) (c : Nat) : Lies w S x A c ↔
    (-9223372036854775808 ≤ x.kind ∧ x.kind ≤ 9223372036854775807 ∧ x.num ≤ 18446744073709551615 ∧ x.str.size ≤ 140737488355328) ∧ (x.kids.length ≤ c ∧ c ≤ 9223372036854775807 ∧ (A = none → c = 0)) ∧
    ∀ i, (h : i < x.kids.length) → ∃ ad A' c', A = some ad ∧ S ad.block ∧ ad.block < w.heap.size ∧ Spot w (ad.add (i * 4)) x.kids[i] A' c' ∧ Lies w S x.kids[i] A' c' := by
  conv => lhs; unfold Lies

/-- The slice at A, of n items and capacity c, holds the items l. -/
def Row (w : World) (S : Nat → Prop) (A : Option Addr) (n c : Nat) (l : List It) : Prop :=
  l.length = n ∧ (n ≤ c ∧ c ≤ 9223372036854775807 ∧ (A = none → c = 0)) ∧
  ∀ i y, l[i]? = some y → ∃ ad A' c', A = some ad ∧ S ad.block ∧ ad.block < w.heap.size ∧ Spot w (ad.add (i * 4)) y A' c' ∧ Lies w S y A' c'

theorem Lies.row {w : World} {S : Nat → Prop} {x : It} {A : Option Addr} {c : Nat} (h : Lies w S x A c) : Row w S A x.kids.length c x.kids := by
  rw [lies_eq] at h
  refine ⟨rfl, h.2.1, fun i y hy => ?_⟩
  obtain ⟨hi, rfl⟩ := List.getElem?_eq_some_iff.1 hy
  exact h.2.2 i hi
theorem Row.lies {w : World} {S : Nat → Prop} {k : Int} {n : Nat} {s : ByteArray} {l : List It} {A : Option Addr} {m c : Nat} (h : Row w S A m c l)
    (hk : -9223372036854775808 ≤ k ∧ k ≤ 9223372036854775807) (hn : n ≤ 18446744073709551615) (hs : s.size ≤ 140737488355328) : Lies w S (.mk k n s l) A c := by
  obtain ⟨rfl, h2, h3⟩ := h
  rw [lies_eq]
  exact ⟨⟨hk.1, hk.2, hn, hs⟩, h2, fun i hi => h3 i _ (List.getElem?_eq_getElem hi)⟩

theorem Spot.keep {w w' : World} {ad : Addr} {y : It} {A : Option Addr} {c : Nat} (h : Spot w ad y A c) (hk : ∀ p : Addr, p.block = ad.block → w'.cell? p = w.cell? p) : Spot w' ad y A c :=
  ⟨(hk ad rfl).trans h.1, (hk ⟨ad.block, ad.off + 1, none⟩ rfl).trans h.2.1, (hk ⟨ad.block, ad.off + 2, none⟩ rfl).trans h.2.2.1, (hk ⟨ad.block, ad.off + 3, none⟩ rfl).trans h.2.2.2⟩

theorem Lies.keep {w w' : World} {S S' : Nat → Prop} (x : It) : ∀ {A : Option Addr} {c : Nat}, Lies w S x A c → (∀ b, S b → b < w.heap.size → S' b) → w.heap.size ≤ w'.heap.size →
    (∀ p : Addr, S p.block → p.block < w.heap.size → w'.cell? p = w.cell? p) → Lies w' S' x A c := by
  induction x using It.ind with
  | h x ih =>
  intro A c h hS hs hk
  rw [lies_eq] at h ⊢
  refine ⟨h.1, h.2.1, fun i hi => ?_⟩
  obtain ⟨ad, A', c', e, hb, hlt, hsp, hl⟩ := h.2.2 i hi
  exact ⟨ad, A', c', e, hS _ hb hlt, by omega, hsp.keep fun p hp => hk p (by rw [hp, add_block]; exact hb) (by rw [hp, add_block]; exact hlt), ih _ (List.getElem_mem hi) hl hS hs hk⟩

theorem Row.keep {w w' : World} {S S' : Nat → Prop} {A : Option Addr} {n c : Nat} {l : List It} (h : Row w S A n c l) (hS : ∀ b, S b → b < w.heap.size → S' b) (hs : w.heap.size ≤ w'.heap.size)
    (hk : ∀ p : Addr, S p.block → p.block < w.heap.size → w'.cell? p = w.cell? p) : Row w' S' A n c l := by
  refine ⟨h.1, h.2.1, fun i y hy => ?_⟩
  obtain ⟨ad, A', c', e, hb, hlt, hsp, hl⟩ := h.2.2 i y hy
  exact ⟨ad, A', c', e, hS _ hb hlt, by omega, hsp.keep fun p hp => hk p (by rw [hp, add_block]; exact hb) (by rw [hp, add_block]; exact hlt), hl.keep y hS hs hk⟩

/-- .. behind a world that has kept all blocks below B, where S lies below B. -/
theorem Lies.below {w w' : World} {S : Nat → Prop} {x : It} {A : Option Addr} {c B : Nat} (h : Lies w S x A c) (hb : Below B w w') (hS : ∀ b, S b → b < B) : Lies w' S x A c :=
  h.keep x (fun _ h _ => h) hb.size fun _ hp _ => hb.cell (hS _ hp)
theorem Row.below {w w' : World} {S : Nat → Prop} {l : List It} {A : Option Addr} {n c B : Nat} (h : Row w S A n c l) (hb : Below B w w') (hS : ∀ b, S b → b < B) : Row w' S A n c l :=
  h.keep (fun _ h _ => h) hb.size fun _ hp _ => hb.cell (hS _ hp)
/-- .. behind a world that has kept all but one block, which S hasn't. -/
theorem Lies.grown {w w' : World} {S : Nat → Prop} {x : It} {A : Option Addr} {c : Nat} {g : Option Nat} (h : Lies w S x A c) (hg : w.grownBy w' g) (hS : ∀ b, S b → some b ≠ g) : Lies w' S x A c :=
  h.keep x (fun _ h _ => h) hg.size fun _ hp hlt => World.cell?_of_block (hg.block _ hlt (hS _ hp))
theorem Row.grown {w w' : World} {S : Nat → Prop} {l : List It} {A : Option Addr} {n c : Nat} {g : Option Nat} (h : Row w S A n c l) (hg : w.grownBy w' g) (hS : ∀ b, S b → some b ≠ g) : Row w' S A n c l :=
  h.keep (fun _ h _ => h) hg.size fun _ hp hlt => World.cell?_of_block (hg.block _ hlt (hS _ hp))
theorem Lies.alloc {w : World} {S : Nat → Prop} {x : It} {A : Option Addr} {c : Nat} (h : Lies w S x A c) (o : Obj) : Lies (w.alloc o) S x A c :=
  h.keep x (fun _ h _ => h) (by simp) fun p _ hp => World.cell?_alloc_lt w o p hp
theorem Lies.more {w : World} {S S' : Nat → Prop} {x : It} {A : Option Addr} {c : Nat} (h : Lies w S x A c) (hS : ∀ b, S b → b < w.heap.size → S' b) : Lies w S' x A c :=
  h.keep x hS (Nat.le_refl _) fun _ _ _ => rfl
theorem Row.more {w : World} {S S' : Nat → Prop} {l : List It} {A : Option Addr} {n c : Nat} (h : Row w S A n c l) (hS : ∀ b, S b → b < w.heap.size → S' b) : Row w S' A n c l :=
  h.keep hS (Nat.le_refl _) fun _ _ _ => rfl

theorem Lies.fit {w : World} {S : Nat → Prop} (x : It) : ∀ {A : Option Addr} {c : Nat}, Lies w S x A c → Fit x := by
  induction x using It.ind with
  | h x ih =>
  intro A c h
  rw [lies_eq] at h
  rw [fit_eq]
  obtain ⟨⟨_, _, h1, h2⟩, ⟨h3, h4, _⟩, h5⟩ := h
  refine ⟨by omega, by omega, by omega, fun y hy => ?_⟩
  obtain ⟨i, hi, rfl⟩ := List.getElem_of_mem hy
  obtain ⟨ad, A', c', _, _, _, _, hl⟩ := h5 i hi
  exact ih _ (List.getElem_mem hi) hl

/-- What is known of an item that lies: the bounds of its fields. -/
theorem Lies.bounds {w : World} {S : Nat → Prop} {x : It} {A : Option Addr} {c : Nat} (h : Lies w S x A c) :
    -9223372036854775808 ≤ x.kind ∧ x.kind ≤ 9223372036854775807 ∧ x.num ≤ 18446744073709551615 ∧ x.str.size ≤ 140737488355328 ∧ x.kids.length ≤ c ∧ c ≤ 9223372036854775807 := by
  rw [lies_eq] at h
  obtain ⟨⟨a, b, h1, h2⟩, ⟨h3, h4, _⟩, _⟩ := h
  exact ⟨a, b, h1, h2, h3, h4⟩

end Go.Proofs.Ytccbkpdkmdnmfaa.Cod
