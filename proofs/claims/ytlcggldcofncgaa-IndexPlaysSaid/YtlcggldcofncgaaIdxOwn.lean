/-
  Texts of earlier layers, as one.
-/
import Derived.Test.YtlcggldcofncgaaIdxMp
import Derived.Test.YtlcggldcofncgaaIdxPlain
import Derived.Test.YtlcggldcofncgaaRBase
/- The program's index in memory: its box, its maps, its groups; what keeps it. -/
namespace Go.Proofs.Ytlcggldcofncgaa.Ix
open Go.RowKit Mem Dsk Go.Maps Ky Cmd

def ptr (p : Nat) : Value := .pointer (some ⟨p, 0, none⟩)
def unE : Unit → Value := fun _ => .agg #[]
def mapE : Option Nat → Value := fun o => .map o
def entE (x : Cm × Int) : Value := .agg #[.int .i64 x.1.kd, .int .i64 x.1.cl, .int .i64 x.1.sq, .string x.1.ky, .string x.1.vl, .int .i64 x.1.rv, .int .i64 x.2]
def cmV (c : Cm) : Value := .agg #[.int .i64 c.kd, .int .i64 c.cl, .int .i64 c.sq, .string c.ky, .string c.vl, .int .i64 c.rv]
theorem unE_inj : ∀ c d : Unit, unE c = unE d → c = d := fun _ _ _ => rfl
theorem mapE_inj : ∀ c d, mapE c = mapE d → c = d := fun _ _ h => by injection h
theorem zero_un (w : World) : (zeroValue 64).run Try.prog w = .ok (unE ()) w := by kernel_rfl
theorem zero_map (w : World) : (zeroValue 58).run Try.prog w = .ok (mapE none) w := by kernel_rfl
theorem zero_ent (w : World) : (zeroValue 63).run Try.prog w = .ok (entE (zeroCm, 0)) w := by kernel_rfl
/-- The groups: each a set of ids. -/
def Grps (w : World) (G : Nat → Prop) (m : Nat → Int × Int → Option Unit) (M : Nat) : Prop := ∀ g, G g → ∃ N, N ≤ M ∧ Mp idK unE w g N (m g)
/-- What a map of groups holds are groups. -/
def Leads {κ : Type} (fk : κ → Option (Option Nat)) (G : Nat → Prop) : Prop := ∀ k o, fk k = some o → ∃ g, o = some g ∧ G g
/-- An entry stands where it is looked for. -/
structure Near (m : Nat → Int × Int → Option Unit) (fk : ByteArray → Option (Option Nat)) (fc : Int → Option (Option Nat)) (g4 : Nat) (e : En) : Prop where
  wide : e.c.kd = 5 ∨ e.c.kd = 6 → (m g4 e.i).isSome
  key : e.c.kd ≠ 0 → e.c.kd ≠ 5 → e.c.kd ≠ 6 → ∃ g, fk e.c.ky = some (some g) ∧ (m g e.i).isSome
  client : e.c.kd ≠ 0 → e.c.kd ≠ 5 → e.c.kd ≠ 6 → ∃ g, fc e.c.cl = some (some g) ∧ (m g e.i).isSome
structure Own (w : World) (S : Nat → Prop) (p M : Nat) (l : List En) (g1 g2 g3 g4 : Nat) (G : Nat → Prop) (m : Nat → Int × Int → Option Unit) (fk : ByteArray → Option (Option Nat)) (fc : Int → Option (Option Nat)) : Prop where
  box : Blk w p 60 #[.map (some g1), .map (some g2), .map (some g3), .map (some g4)]
  held : Mp idK entE w g1 l.length (heldF l)
  byK : ∃ N, N ≤ M ∧ Mp strK mapE w g2 N fk
  byC : ∃ N, N ≤ M ∧ Mp intK mapE w g3 N fc
  grp : Grps w G m M
  wide : G g4
  fkG : Leads fk G
  fcG : Leads fc G
  uq : Uq l
  len : l.length ≤ M
  ap : p ≠ g1 ∧ p ≠ g2 ∧ p ≠ g3 ∧ g1 ≠ g2 ∧ g1 ≠ g3 ∧ g2 ≠ g3
  aG : ¬ G p ∧ ¬ G g1 ∧ ¬ G g2 ∧ ¬ G g3
  inv : ∀ e ∈ l, Near m fk fc g4 e
  fine : ∀ e ∈ l, strK.ok e.c.ky ∧ intK.ok e.c.cl
  mine : S p ∧ S g1 ∧ S g2 ∧ S g3
  mineG : ∀ g, G g → S g
  lt : ∀ k, S k → k < w.heap.size
section
variable {w w' : World} {S S' T : Nat → Prop} {p M : Nat} {l : List En} {g1 g2 g3 g4 : Nat} {G : Nat → Prop} {m : Nat → Int × Int → Option Unit} {fk : ByteArray → Option (Option Nat)} {fc : Int → Option (Option Nat)}
theorem Grps.keep (h : Grps w G m M) (hb : ∀ g, G g → w'.heap[g]? = w.heap[g]?) : Grps w' G m M := fun g hg => by
  obtain ⟨N, h1, h2⟩ := h g hg
  exact ⟨N, h1, h2.keep (hb g hg)⟩
theorem Grps.mono (h : Grps w G m M) {M' : Nat} (hM : M ≤ M') : Grps w G m M' := fun g hg => by
  obtain ⟨N, h1, h2⟩ := h g hg
  exact ⟨N, Nat.le_trans h1 hM, h2⟩
theorem Grps.lt (h : Grps w G m M) {g : Nat} (hg : G g) : g < w.heap.size := by
  obtain ⟨N, h1, h2⟩ := h g hg
  exact h2.lt
theorem Own.keep (h : Own w S p M l g1 g2 g3 g4 G m fk fc) (hk : Keeps T w w') (hd : ∀ k, S k → ¬ T k) : Own w' S p M l g1 g2 g3 g4 G m fk fc := by
  have hb : ∀ k, S k → w'.heap[k]? = w.heap[k]? := fun k hs => hk.block k (h.lt k hs) (hd k hs)
  obtain ⟨s0, s1, s2, s3⟩ := h.mine
  obtain ⟨N2, h2, h2'⟩ := h.byK
  obtain ⟨N3, h3, h3'⟩ := h.byC
  exact ⟨(hb p s0).trans h.box, h.held.keep (hb g1 s1), ⟨N2, h2, h2'.keep (hb g2 s2)⟩, ⟨N3, h3, h3'.keep (hb g3 s3)⟩, h.grp.keep fun g hg => hb g (h.mineG g hg), h.wide, h.fkG, h.fcG, h.uq, h.len, h.ap, h.aG, h.inv, h.fine, h.mine, h.mineG,
    fun k hs => Nat.lt_of_lt_of_le (h.lt k hs) hk.size⟩
theorem Own.below (h : Own w S p M l g1 g2 g3 g4 G m fk fc) (hb : Below w.heap.size w w') : Own w' S p M l g1 g2 g3 g4 G m fk fc := h.keep (T := fun _ => False) (Keeps.ofBelow hb) fun _ _ h => h
theorem Own.cells (h : Own w S p M l g1 g2 g3 g4 G m fk fc) : w.cell? ⟨p, 0, none⟩ = some (.map (some g1)) ∧ w.cell? ⟨p, 1, none⟩ = some (.map (some g2)) ∧ w.cell? ⟨p, 2, none⟩ = some (.map (some g3)) ∧ w.cell? ⟨p, 3, none⟩ = some (.map (some g4)) :=
  ⟨h.box.cell 0, h.box.cell 1, h.box.cell 2, h.box.cell 3⟩
theorem Own.wf (h : Own w S p M l g1 g2 g3 g4 G m fk fc) {e : En} (he : e ∈ l) : Wf e.i := h.held.dom (x := e.i) (by rw [heldF_in h.uq he]; rfl)
theorem Own.ky_ok (h : Own w S p M l g1 g2 g3 g4 G m fk fc) {e : En} (he : e ∈ l) : strK.ok (ask e.c).ky := by
  by_cases h0 : e.c.kd = 0 ∨ e.c.kd = 6
  · have : (ask e.c).ky = ⟨#[]⟩ := by unfold ask; rw [if_pos h0]
    rw [this]
    exact Nat.zero_le _
  · rw [(ask_ky h0).1]
    exact (h.fine e he).1
theorem Own.cl_ok (h : Own w S p M l g1 g2 g3 g4 G m fk fc) {e : En} (he : e ∈ l) : intK.ok (ask e.c).cl := by
  by_cases h0 : e.c.kd = 0 ∨ e.c.kd = 6
  · have : (ask e.c).cl = 0 := by unfold ask; rw [if_pos h0]
    rw [this]
    rfl
  · rw [(ask_ky h0).2]
    exact (h.fine e he).2
end
/-- An index in memory: the world, the blocks that are its own, its block, a bound of what its maps have, its entries. -/
def II (w : World) (S : Nat → Prop) (p M : Nat) (l : List En) : Prop := ∃ g1 g2 g3 g4 G m fk fc, Own w S p M l g1 g2 g3 g4 G m fk fc
section
variable {w w' : World} {S T : Nat → Prop} {p M : Nat} {l : List En}
theorem ii_low (h : II w S p M l) : ∀ k, S k → k < w.heap.size := by
  obtain ⟨g1, g2, g3, g4, G, m, fk, fc, h⟩ := h
  exact h.lt
theorem ii_keep (h : II w S p M l) (hk : Keeps T w w') (hd : ∀ b, S b → ¬ T b) : II w' S p M l := by
  obtain ⟨g1, g2, g3, g4, G, m, fk, fc, h⟩ := h
  exact ⟨g1, g2, g3, g4, G, m, fk, fc, h.keep hk hd⟩
theorem ii_below (h : II w S p M l) (hb : Below w.heap.size w w') : II w' S p M l := ii_keep h (T := fun _ => False) (Keeps.ofBelow hb) fun _ _ h => h
theorem ii_uq (h : II w S p M l) : Uq l ∧ l.length ≤ M ∧ ∀ e ∈ l, Wf e.i := by
  obtain ⟨g1, g2, g3, g4, G, m, fk, fc, h⟩ := h
  exact ⟨h.uq, h.len, fun e he => h.wf he⟩
end
/-- One group's ids are told anew. -/
def atG (g : Nat) (f : Int × Int → Option Unit) (m : Nat → Int × Int → Option Unit) : Nat → Int × Int → Option Unit := fun j => if j = g then f else m j
theorem atG_same (g : Nat) (f : Int × Int → Option Unit) (m : Nat → Int × Int → Option Unit) : atG g f m g = f := if_pos rfl
theorem atG_other {g j : Nat} {f : Int × Int → Option Unit} {m : Nat → Int × Int → Option Unit} (h : j ≠ g) : atG g f m j = m j := if_neg h
theorem nil_nil (w : World) : (binOp .eql 58 (.map none) (.map none)).run Try.prog w = .ok (.bool true) w := by kernel_rfl
theorem map_nil (g : Nat) (w : World) : (binOp .eql 58 (.map (some g)) (.map none)).run Try.prog w = .ok (.bool false) w := by kernel_rfl
/-- A block of the map's alone is turned. -/
theorem keeps_turned {w w' : World} {b : Nat} (h : w.mapTurned w' b) : Keeps (fun k => k = b) w w' := Keeps.ofGrown h.grown rfl
theorem drew_turned {w w' : World} {b : Nat} (h : w.drew.mapTurned w' b) : Keeps (fun k => k = b) w w' := (Keeps.ofBelow (Below.drew (Below.refl _ _))).trans (keeps_turned h) (Grew.refl _ _)
theorem drew_keeps {w w' : World} {T : Nat → Prop} (h : Keeps T w.drew w') : Keeps T w w' := (Keeps.ofBelow (Below.drew (Below.refl _ _))).trans h (Grew.refl _ _)
theorem blk_kept {w w' : World} {T : Nat → Prop} {b : Nat} {t : TypeId} {vs : Array Value} (h : Blk w b t vs) (hk : Keeps T w w') (hn : ¬ T b) : Blk w' b t vs := (hk.block b h.lt hn).trans h
theorem Keeps.weak {S T : Nat → Prop} {w w' : World} (h : Keeps S w w') (hS : ∀ k, S k → T k) : Keeps T w w' := ⟨h.os, h.tape, h.output, h.size, fun k hk hn => h.block k hk fun hs => hn (hS k hs)⟩
end Go.Proofs.Ytlcggldcofncgaa.Ix
