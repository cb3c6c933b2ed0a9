/-
  Texts of earlier layers, as one.
-/
import Derived.Test.YthlhchaoedcdbaaGreatDoorRecSmall
import Derived.Test.YthlhchaoedcdbaaGreatDoorRBalI
/- A record's item, and its old form, plainly; which record an item says. -/
namespace Go.Proofs.YthlhchaoedcdbaaGreatDoor.Rk
open Cod Cmd Att
theorem rgt_parts {r : Rc} (h : rgt r = true) : (0 ≤ r.id.1 ∧ r.id.1 ≤ 6) ∧ (0 ≤ r.id.2 ∧ r.id.2 ≤ 1099511627776) ∧ (0 ≤ r.st ∧ r.st ≤ 3) ∧ Bal.right r.bl = true ∧ Bal.right r.tk = true ∧
 (¬ r.st = 0 → Cmd.chk r.cm = 0 ∧ achk r.at_ = 0) ∧ (r.st = 0 → r.tk = (0, 0) ∧ r.cm = zeroCm ∧ r.at_ = zeroAt) := by
 simp only [rgt, promised, Bool.and_eq_true] at h;obtain ⟨⟨h1, ⟨h2, h3⟩, _⟩, h4⟩ := h;have h5 := of_decide_eq_true h1;refine ⟨by omega, by omega, ?_, h2, h3, ?_, ?_⟩
 · unfold filled at h4
   split at h4
   · omega
   · split at h4
     · omega
     · cases h4
 · intro hs
   unfold filled at h4;rw [if_neg hs] at h4;split at h4
   · simp only [Bool.and_eq_true, decide_eq_true_eq] at h4
     exact h4.1
   · cases h4
 · intro hs
   unfold filled at h4;rw [if_pos hs] at h4;simp only [Bool.and_eq_true, decide_eq_true_eq] at h4;obtain ⟨k1, k2⟩ := offer_iff.1 h4.2;exact ⟨h4.1, k1, k2⟩
theorem wt_bal (b : Int × Int) : wt (Bal.balIt b) = 3 := by
 simp [Bal.balIt, wt, wts, numIt]
theorem wt_att {a : At} (h : achk a = 0) : wt (attIt a) ≤ 50000 ∧ wt (oldIt a) ≤ 50000 := by
 have h1 := wts_three h;have hl := achk_len h
 have e2 : wt (Ids.setIt a.dp) = 1 + a.dp.length * 2 := by
  show 1 + ByteArray.empty.size + wts (Ids.its a.dp) = _;rw [Ids.wts_its];rfl
 constructor
 · show 1 + ByteArray.empty.size + wts [Ids.numIt a.tg, Ids.numIt a.sq, Ids.setIt a.dp] ≤ _
   simp only [wts, e2];simp [Ids.numIt, wt, wts];omega
 · show 1 + ByteArray.empty.size + wts [Ids.numIt a.sq, Ids.setIt a.dp] ≤ _
   simp only [wts, e2];simp [Ids.numIt, wt, wts];omega
end Go.Proofs.YthlhchaoedcdbaaGreatDoor.Rk
/- rec.form, and the document's laid: the item of a right record, with what it hangs on as told; in memory of the call's own, but for that. -/
namespace Go.Proofs.YthlhchaoedcdbaaGreatDoor.Rk
open Go.RowKit Mem Ids Att Cod
def GivesList (w : World) (n : Nat) (l : List It) (e : Ending) (w' : World) : Prop :=
 ∃ V c, e = .returned (.agg #[.int .i64 2, .int .u64 0, .string ByteArray.empty, .slice V n c]) ∧ Lies w' (fun b => w.heap.size ≤ b ∧ b < w'.heap.size) (.mk 2 0 ByteArray.empty l) V c ∧ Below w.heap.size w w'
theorem GivesNew.list {w : World} {l : List It} {n : Nat} {e : Ending} {w' : World} (hn : l.length = n) (h : GivesNew w (.mk 2 0 ByteArray.empty l) e w') : GivesList w n l e w' := by
 obtain ⟨V, c, he, hl, hb⟩ := h;subst hn;exact ⟨V, c, he, hl, hb⟩
theorem row_own4 {w : World} {S : Nat → Prop} {base n c : Nat} {V : Option Addr} {hs : List Hung} (h : w.ownsRow base 57 4 (.slice V n c) n (cells4 hs)) (hL : ∀ h ∈ hs, Lies w S h.x h.A h.c) (hS : ∀ b, base ≤ b → b < w.heap.size → S b) :
 Cod.Row w S V n c (hs.map (·.x)) := by
 have hl := h.1;rw [length_cells4] at hl;have hn : hs.length = n := by omega
 rcases h.2 with ⟨hv, h0⟩ | ⟨g, cap, cur, hv, hb, hh, hnc, hm, _, _⟩
 · injection hv with e1 e2 e3
   subst e1; subst e3;exact Row.of_hung hn ⟨by omega, by omega, fun _ => rfl⟩ hL fun h => by omega
 · injection hv with e1 e2 e3
   subst e1; subst e3;unfold maxLen at hm;have hlt := (Array.getElem?_eq_some_iff.1 hh).1;exact Row.of_hung hn ⟨hnc, by omega, (fun e => by cases e)⟩ hL fun _ => ⟨_, rfl, hS g hb hlt, hlt, h.cells (g := g) rfl⟩
end Go.Proofs.YthlhchaoedcdbaaGreatDoor.Rk
/- rec's parts: the next one of them, counted; a part that is a number. -/
namespace Go.Proofs.YthlhchaoedcdbaaGreatDoor.Rk
open Go.RowKit Mem Ids Att Cod
theorem row_at {w : World} {S : Nat → Prop} {A : Option Addr} {n c k : Nat} {l : List It} (h : Cod.Row w S A n c l) (hk : k < n) :
 ∃ g o A' c', A = some ⟨g, o, none⟩ ∧ S g ∧ g < w.heap.size ∧ w.cell? ⟨g, o + k * 4, none⟩ = some (.int .i64 (l.getD k Cmd.zeroIt).kind) ∧ w.cell? ⟨g, o + k * 4 + 1, none⟩ = some (.int .u64 ((l.getD k Cmd.zeroIt).num : Int)) ∧ w.cell? ⟨g, o + k * 4 + 2, none⟩ = some (.string (l.getD k Cmd.zeroIt).str) ∧ w.cell? ⟨g, o + k * 4 + 3, none⟩ = some (.slice A' (l.getD k Cmd.zeroIt).kids.length c') ∧ Lies w S (l.getD k Cmd.zeroIt) A' c' := by
 have hl : Lies w S (.mk 0 0 ByteArray.empty l) A c := by
  have := h.lies (k := 0) (n := 0) (s := ByteArray.empty) (by decide) (by decide) (by decide);exact this
 have hn : l.length = n := h.1;obtain ⟨g, o, A', c', e, hS, hg, r0, r1, r2, r3, hly⟩ := lies_kid hl (i := k) (by show k < l.length; omega)
 have hy : (It.mk 0 0 ByteArray.empty l).kids[k]'(by show k < l.length; omega) = l.getD k Cmd.zeroIt := by
  show l[k]'(by omega) = _;rw [List.getD_eq_getElem?_getD, List.getElem?_eq_getElem (by omega)];rfl
 rw [hy] at r0 r1 r2 r3 hly;exact ⟨g, o, A', c', e, hS, hg, r0, r1, r2, r3, hly⟩
end Go.Proofs.YthlhchaoedcdbaaGreatDoor.Rk
