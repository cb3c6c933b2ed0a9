/-
  Items that lie in memory, of no function: a leaf, an item of an item's list, an ending that hands an item over, a list's row just made.
-/
import Derived.Test.YtccbkpdkmdnmfaaCodListMem
namespace Go.Proofs.Ytccbkpdkmdnmfaa
open Go.RowKit Mem Cod

theorem lies_leaf (w : World) (S : Nat → Prop) {k : Int} {n : Nat} {s : ByteArray} (hk : -9223372036854775808 ≤ k ∧ k ≤ 9223372036854775807) (hn : n ≤ 18446744073709551615) (hs : s.size ≤ 140737488355328) : Lies w S (.mk k n s []) none 0 := by
  rw [lies_eq]
  exact ⟨⟨hk.1, hk.2, hn, hs⟩, ⟨Nat.le_refl _, by omega, fun _ => rfl⟩, fun i hi => by simp [It.kids] at hi⟩

/-- The ending: the item x, in memory that can be read; what was there stays. -/
def GivesIt (w : World) (x : It) (e : Ending) (w' : World) : Prop :=
  ∃ V c, e = .returned (.agg #[.int .i64 x.kind, .int .u64 (x.num : Int), .string x.str, .slice V x.kids.length c]) ∧ Lies w' (fun b => b < w'.heap.size) x V c ∧ Below w.heap.size w w'

/-- .. in memory of the call's own. -/
def GivesNew (w : World) (x : It) (e : Ending) (w' : World) : Prop :=
  ∃ V c, e = .returned (.agg #[.int .i64 x.kind, .int .u64 (x.num : Int), .string x.str, .slice V x.kids.length c]) ∧ Lies w' (fun b => w.heap.size ≤ b ∧ b < w'.heap.size) x V c ∧ Below w.heap.size w w'
theorem GivesNew.it {w : World} {x : It} {e : Ending} {w' : World} (h : GivesNew w x e w') : GivesIt w x e w' := by
  obtain ⟨V, c, he, hl, hb⟩ := h
  exact ⟨V, c, he, hl.more fun _ h _ => h.2, hb⟩

theorem u64_in {v : Int} (h0 : 0 ≤ v) (h1 : v ≤ 18446744073709551615) : IntKind.u64.wrap v = v := by
  simp [IntKind.wrap, IntKind.bits, IntKind.signed]
  omega

/-- An item of an item's list, where it lies. -/
theorem lies_kid {w : World} {S : Nat → Prop} {x : It} {A : Option Addr} {c i : Nat} (h : Lies w S x A c) (hi : i < x.kids.length) :
    ∃ g o A' c', A = some ⟨g, o, none⟩ ∧ S g ∧ g < w.heap.size ∧ w.cell? ⟨g, o + i * 4, none⟩ = some (.int .i64 x.kids[i].kind) ∧ w.cell? ⟨g, o + i * 4 + 1, none⟩ = some (.int .u64 (x.kids[i].num : Int)) ∧ w.cell? ⟨g, o + i * 4 + 2, none⟩ = some (.string x.kids[i].str) ∧ w.cell? ⟨g, o + i * 4 + 3, none⟩ = some (.slice A' x.kids[i].kids.length c') ∧ Lies w S x.kids[i] A' c' := by
  rw [lies_eq] at h
  obtain ⟨ad0, A0, c0, e0, _, _, hs0, _⟩ := h.2.2 0 (by omega)
  obtain ⟨ad, A', c', e, hS, hlt, hs, hl⟩ := h.2.2 i hi
  have had : ad0 = ad := by rw [e0] at e; injection e
  subst had
  have hsp : ad0.spot = none := by
    have h2 : w.cell? ad0 = some (.int .i64 x.kids[0].kind) := by simpa [Addr.add] using hs0.1
    unfold World.cell? at h2
    cases hsp : ad0.spot with
    | none => rfl
    | some _ =>
      rw [hsp] at h2
      split at h2
      · simp at h2
      · cases h2
  obtain ⟨g, o, sp⟩ := ad0
  have hs' : sp = none := hsp
  subst hs'
  rw [Addr.add_lit] at hs
  exact ⟨g, o, A', c', e, hS, hlt, hs.1, hs.2.1, hs.2.2.1, hs.2.2.2, hl⟩

/-- A row of items just made. -/
theorem row_new (w : World) (S : Nat → Prop) (hS : S w.heap.size) (hs : List Hung) (n : Nat) (hn : hs.length = n) (hm : n ≤ 1000) (vs : Array Value) (t : TypeId) (hv : vs.toList = cells4 hs) (hL : ∀ h ∈ hs, Lies (w.alloc (.cells vs t)) S h.x h.A h.c) :
    Row (w.alloc (.cells vs t)) S (some ⟨w.heap.size, 0, none⟩) n n (hs.map (·.x)) := by
  refine Row.of_hung hn ⟨Nat.le_refl _, by omega, fun e => by cases e⟩ hL fun _ => ⟨_, rfl, hS, by rw [size_alloc]; exact Nat.lt_succ_self _, fun j u hu => ?_⟩
  rw [Addr.add_lit, Nat.zero_add, (Blk.new w t vs).cell j, ← hu, ← hv]
  simp
end Go.Proofs.Ytccbkpdkmdnmfaa
