/-
  Texts of earlier layers, as one.
-/
import Derived.Test.YthlhchaoedcdbaaDoorRecSmall
import Derived.Test.YthlhchaoedcdbaaDoorRBalI
import Derived.Test.YthlhchaoedcdbaaDoorRCmdI
import Derived.Test.YthlhchaoedcdbaaDoorRAtt
import Derived.Deep.RegionHeld3
import Derived.Deep.AppendLies
import Derived.BigRegion
/- A record's item, and its old form, plainly; which record an item says. -/
namespace Go.Proofs.YthlhchaoedcdbaaDoor.Rk
open Cod Cmd Att

theorem rgt_parts {r : Rc} (h : rgt r = true) : (0 ≤ r.id.1 ∧ r.id.1 ≤ 6) ∧ (0 ≤ r.id.2 ∧ r.id.2 ≤ 1099511627776) ∧ (0 ≤ r.st ∧ r.st ≤ 3) ∧ Bal.right r.bl = true ∧ Bal.right r.tk = true ∧
    (¬ r.st = 0 → Cmd.chk r.cm = 0 ∧ achk r.at_ = 0) ∧ (r.st = 0 → r.tk = (0, 0) ∧ r.cm = zeroCm ∧ r.at_ = zeroAt) := by
  simp only [rgt, promised, Bool.and_eq_true] at h
  obtain ⟨⟨h1, ⟨h2, h3⟩, _⟩, h4⟩ := h
  have h5 := of_decide_eq_true h1
  refine ⟨by omega, by omega, ?_, h2, h3, ?_, ?_⟩
  · unfold filled at h4
    split at h4
    · omega
    · split at h4
      · omega
      · cases h4
  · intro hs
    unfold filled at h4
    rw [if_neg hs] at h4
    split at h4
    · simp only [Bool.and_eq_true, decide_eq_true_eq] at h4
      exact h4.1
    · cases h4
  · intro hs
    unfold filled at h4
    rw [if_pos hs] at h4
    simp only [Bool.and_eq_true, decide_eq_true_eq] at h4
    obtain ⟨k1, k2⟩ := offer_iff.1 h4.2
    exact ⟨h4.1, k1, k2⟩
def fronts (r : Rc) : List It := [numIt r.id.1, numIt r.id.2, numIt r.st, Bal.balIt r.bl, Bal.balIt r.tk]
def laidIt (r : Rc) (y : It) : It := .mk 2 0 ByteArray.empty (if r.st = 0 then fronts r else fronts r ++ [cmIt r.cm, y])
def recIt (r : Rc) : It := laidIt r (attIt r.at_)
def recItem (r : Rc) : It := if rgt r = true then recIt r else zeroIt
def oldRc (r : Rc) : It := laidIt r (oldIt r.at_)
def recOld (r : Rc) : It × Int := if rgt r = true then if r.at_.tg = 2 ∨ r.cm.kd = 6 then (zeroIt, 17) else (oldRc r, 0) else (zeroIt, 4)
theorem laid_none {r : Rc} (h : r.st = 0) (y z : It) : laidIt r y = laidIt r z := by
  unfold laidIt
  rw [if_pos h, if_pos h]
theorem rec_laid {r : Rc} (h : rgt r = true) : laidIt r (attItem r.at_) = recIt r := by
  by_cases hs : r.st = 0
  · exact laid_none hs _ _
  · unfold recIt attItem
    rw [if_pos ((rgt_parts h).2.2.2.2.2.1 hs).2]
theorem old_laid {r : Rc} (h : rgt r = true) (ht : ¬ (r.at_.tg = 2 ∨ r.cm.kd = 6)) : laidIt r (attOld r.at_).1 = oldRc r := by
  by_cases hs : r.st = 0
  · exact laid_none hs _ _
  · obtain ⟨_, h2⟩ := (rgt_parts h).2.2.2.2.2.1 hs
    have h3 := achk_zero.1 h2
    unfold oldRc attOld
    rw [if_pos h2, if_pos (by rcases h3.1 with e | e; exact e; exact absurd (.inl e) ht)]
theorem wt_bal (b : Int × Int) : wt (Bal.balIt b) = 3 := by
  simp [Bal.balIt, wt, wts, numIt]
theorem wt_att {a : At} (h : achk a = 0) : wt (attIt a) ≤ 50000 ∧ wt (oldIt a) ≤ 50000 := by
  have h1 := wts_three h
  have hl := achk_len h
  have e2 : wt (Ids.setIt a.dp) = 1 + a.dp.length * 2 := by
    show 1 + ByteArray.empty.size + wts (Ids.its a.dp) = _
    rw [Ids.wts_its]
    rfl
  constructor
  · show 1 + ByteArray.empty.size + wts [Ids.numIt a.tg, Ids.numIt a.sq, Ids.setIt a.dp] ≤ _
    simp only [wts, e2]
    simp [Ids.numIt, wt, wts]
    omega
  · show 1 + ByteArray.empty.size + wts [Ids.numIt a.sq, Ids.setIt a.dp] ≤ _
    simp only [wts, e2]
    simp [Ids.numIt, wt, wts]
    omega
theorem wts_fronts (r : Rc) : wts (fronts r) = 9 := by
  unfold fronts
  simp only [wts, wt_bal]
  simp [numIt, wt, wts]
theorem wts_seven {r : Rc} {y : It} (h : rgt r = true) (hs : ¬ r.st = 0) (hy : wt y ≤ 60000) : wts (fronts r ++ [cmIt r.cm, y]) ≤ 100000 := by
  have h1 := wt_item r.cm
  rw [itemOf, if_pos ((rgt_parts h).2.2.2.2.2.1 hs).1] at h1
  rw [wts_append, wts_fronts]
  simp only [wts]
  omega
end Go.Proofs.YthlhchaoedcdbaaDoor.Rk
/- rec.form, and the document's laid: the item of a right record, with what it hangs on as told; in memory of the call's own, but for that. -/
namespace Go.Proofs.YthlhchaoedcdbaaDoor.Rk
open Go.RowKit Mem Ids Att Cod

/-- The ending: the item x, where S lies and in memory of the call's own. -/
def GivesUp (S : Nat → Prop) (w : World) (x : It) (e : Ending) (w' : World) : Prop :=
  ∃ V c, e = .returned (.agg #[.int .i64 x.kind, .int .u64 (x.num : Int), .string x.str, .slice V x.kids.length c]) ∧ Lies w' (fun b => (S b ∨ w.heap.size ≤ b) ∧ b < w'.heap.size) x V c ∧ Below w.heap.size w w'
/-- The ending: a list of n items in memory of the call's own. -/
def GivesList (w : World) (n : Nat) (l : List It) (e : Ending) (w' : World) : Prop :=
  ∃ V c, e = .returned (.agg #[.int .i64 2, .int .u64 0, .string ByteArray.empty, .slice V n c]) ∧ Lies w' (fun b => w.heap.size ≤ b ∧ b < w'.heap.size) (.mk 2 0 ByteArray.empty l) V c ∧ Below w.heap.size w w'
theorem GivesNew.list {w : World} {l : List It} {n : Nat} {e : Ending} {w' : World} (hn : l.length = n) (h : GivesNew w (.mk 2 0 ByteArray.empty l) e w') : GivesList w n l e w' := by
  obtain ⟨V, c, he, hl, hb⟩ := h
  subst hn
  exact ⟨V, c, he, hl, hb⟩
/-- A row of the call's own, as a row of items. -/
theorem row_own4 {w : World} {S : Nat → Prop} {base n c : Nat} {V : Option Addr} {hs : List Hung} (h : w.ownsRow base 51 4 (.slice V n c) n (cells4 hs)) (hL : ∀ h ∈ hs, Lies w S h.x h.A h.c) (hS : ∀ b, base ≤ b → b < w.heap.size → S b) :
    Cod.Row w S V n c (hs.map (·.x)) := by
  have hl := h.1
  rw [length_cells4] at hl
  have hn : hs.length = n := by omega
  rcases h.2 with ⟨hv, h0⟩ | ⟨g, cap, cur, hv, hb, hh, hnc, hm, _, _⟩
  · injection hv with e1 e2 e3
    subst e1; subst e3
    exact Row.of_hung hn ⟨by omega, by omega, fun _ => rfl⟩ hL fun h => by omega
  · injection hv with e1 e2 e3
    subst e1; subst e3
    unfold maxLen at hm
    have hlt := (Array.getElem?_eq_some_iff.1 hh).1
    exact Row.of_hung hn ⟨hnc, by omega, (fun e => by cases e)⟩ hL fun _ => ⟨_, rfl, hS g hb hlt, hlt, h.cells (g := g) rfl⟩
theorem held7 {w w' : World} {g : Nat} {t : TypeId} {v0 v1 v2 v3 v4 v5 v6 v7 v8 v9 v10 v11 v12 v13 v14 v15 : Value} (h1 : Blk w g t #[v0, v1, v2, v3, v4, v5, v6, v7, v8, v9, v10, v11, v12, v13, v14, v15]) (hb : Below w.heap.size w w') : w'.cell? ⟨g, 0, none⟩ = some v0 ∧ w'.cell? ⟨g, 1, none⟩ = some v1 ∧ w'.cell? ⟨g, 2, none⟩ = some v2 ∧ w'.cell? ⟨g, 3, none⟩ = some v3 ∧ w'.cell? ⟨g, 4, none⟩ = some v4 ∧ w'.cell? ⟨g, 5, none⟩ = some v5 ∧ w'.cell? ⟨g, 6, none⟩ = some v6 := by
  obtain ⟨x0, x1, x2, x3, x4, x5, x6, x7, x8, x9, x10, x11, x12, x13, x14, x15⟩ := blk16 (h1.bel hb)
  exact ⟨x0, x1, x2, x3, x4, x5, x6⟩
theorem held7a {w w' : World} {g : Nat} {t : TypeId} {v0 v1 v2 v3 v4 v5 v6 v7 v8 v9 v10 v11 v12 v13 v14 v15 : Value} (h1 : Blk w g t #[v0, v1, v2, v3, v4, v5, v6, v7, v8, v9, v10, v11, v12, v13, v14, v15]) (hb : Below w.heap.size w w') (o : Obj) : (w'.alloc o).cell? ⟨g, 0, none⟩ = some v0 ∧ (w'.alloc o).cell? ⟨g, 1, none⟩ = some v1 ∧ (w'.alloc o).cell? ⟨g, 2, none⟩ = some v2 ∧ (w'.alloc o).cell? ⟨g, 3, none⟩ = some v3 ∧ (w'.alloc o).cell? ⟨g, 4, none⟩ = some v4 ∧ (w'.alloc o).cell? ⟨g, 5, none⟩ = some v5 ∧ (w'.alloc o).cell? ⟨g, 6, none⟩ = some v6 := by
  obtain ⟨x0, x1, x2, x3, x4, x5, x6, x7, x8, x9, x10, x11, x12, x13, x14, x15⟩ := blk16 ((h1.bel hb).alloc o)
  exact ⟨x0, x1, x2, x3, x4, x5, x6⟩
theorem held10 {w w' : World} {g : Nat} {t : TypeId} {v0 v1 v2 v3 v4 v5 v6 v7 v8 v9 v10 v11 v12 v13 v14 v15 : Value} {k : Nat} {u : TypeId} {y0 y1 y2 y3 : Value} (h1 : Blk w g t #[v0, v1, v2, v3, v4, v5, v6, v7, v8, v9, v10, v11, v12, v13, v14, v15]) (h2 : Blk w k u #[y0, y1, y2, y3]) (hb : Below w.heap.size w w') : w'.cell? ⟨g, 7, none⟩ = some v7 ∧ w'.cell? ⟨g, 8, none⟩ = some v8 ∧ w'.cell? ⟨g, 9, none⟩ = some v9 ∧ w'.cell? ⟨g, 10, none⟩ = some v10 ∧ w'.cell? ⟨g, 11, none⟩ = some v11 ∧ w'.cell? ⟨g, 12, none⟩ = some v12 ∧ w'.cell? ⟨k, 0, none⟩ = some y0 ∧ w'.cell? ⟨k, 1, none⟩ = some y1 ∧ w'.cell? ⟨k, 2, none⟩ = some y2 ∧ w'.cell? ⟨k, 3, none⟩ = some y3 := by
  obtain ⟨x0, x1, x2, x3, x4, x5, x6, x7, x8, x9, x10, x11, x12, x13, x14, x15⟩ := blk16 (h1.bel hb)
  obtain ⟨z0, z1, z2, z3⟩ := blk4 (h2.bel hb)
  exact ⟨x7, x8, x9, x10, x11, x12, z0, z1, z2, z3⟩
theorem held10a {w w' : World} {g : Nat} {t : TypeId} {v0 v1 v2 v3 v4 v5 v6 v7 v8 v9 v10 v11 v12 v13 v14 v15 : Value} {k : Nat} {u : TypeId} {y0 y1 y2 y3 : Value} (h1 : Blk w g t #[v0, v1, v2, v3, v4, v5, v6, v7, v8, v9, v10, v11, v12, v13, v14, v15]) (h2 : Blk w k u #[y0, y1, y2, y3]) (hb : Below w.heap.size w w') (o : Obj) : (w'.alloc o).cell? ⟨g, 7, none⟩ = some v7 ∧ (w'.alloc o).cell? ⟨g, 8, none⟩ = some v8 ∧ (w'.alloc o).cell? ⟨g, 9, none⟩ = some v9 ∧ (w'.alloc o).cell? ⟨g, 10, none⟩ = some v10 ∧ (w'.alloc o).cell? ⟨g, 11, none⟩ = some v11 ∧ (w'.alloc o).cell? ⟨g, 12, none⟩ = some v12 ∧ (w'.alloc o).cell? ⟨k, 0, none⟩ = some y0 ∧ (w'.alloc o).cell? ⟨k, 1, none⟩ = some y1 ∧ (w'.alloc o).cell? ⟨k, 2, none⟩ = some y2 ∧ (w'.alloc o).cell? ⟨k, 3, none⟩ = some y3 := by
  obtain ⟨x0, x1, x2, x3, x4, x5, x6, x7, x8, x9, x10, x11, x12, x13, x14, x15⟩ := blk16 ((h1.bel hb).alloc o)
  obtain ⟨z0, z1, z2, z3⟩ := blk4 ((h2.bel hb).alloc o)
  exact ⟨x7, x8, x9, x10, x11, x12, z0, z1, z2, z3⟩
theorem held10g {w w' w3 : World} {g : Nat} {t : TypeId} {v0 v1 v2 v3 v4 v5 v6 v7 v8 v9 v10 v11 v12 v13 v14 v15 : Value} {k : Nat} {u : TypeId} {y0 y1 y2 y3 : Value} {row : Option Nat} (h1 : Blk w g t #[v0, v1, v2, v3, v4, v5, v6, v7, v8, v9, v10, v11, v12, v13, v14, v15]) (h2 : Blk w k u #[y0, y1, y2, y3]) (hb : Below w.heap.size w w') (o : Obj) (hg : (w'.alloc o).grownBy w3 row) (n1 : some g ≠ row) (n2 : some k ≠ row) : w3.cell? ⟨g, 7, none⟩ = some v7 ∧ w3.cell? ⟨g, 8, none⟩ = some v8 ∧ w3.cell? ⟨g, 9, none⟩ = some v9 ∧ w3.cell? ⟨g, 10, none⟩ = some v10 ∧ w3.cell? ⟨g, 11, none⟩ = some v11 ∧ w3.cell? ⟨g, 12, none⟩ = some v12 ∧ w3.cell? ⟨k, 0, none⟩ = some y0 ∧ w3.cell? ⟨k, 1, none⟩ = some y1 ∧ w3.cell? ⟨k, 2, none⟩ = some y2 ∧ w3.cell? ⟨k, 3, none⟩ = some y3 := by
  obtain ⟨x0, x1, x2, x3, x4, x5, x6, x7, x8, x9, x10, x11, x12, x13, x14, x15⟩ := blk16 (((h1.bel hb).alloc o).grown hg n1)
  obtain ⟨z0, z1, z2, z3⟩ := blk4 (((h2.bel hb).alloc o).grown hg n2)
  exact ⟨x7, x8, x9, x10, x11, x12, z0, z1, z2, z3⟩
/-- The five parts that each record has, as they lie. -/
def hung5 (r : Rc) (V3 : Option Addr) (c3 : Nat) (V4 : Option Addr) (c4 : Nat) : List Hung := [⟨Cmd.numIt r.id.1, none, 0⟩, ⟨Cmd.numIt r.id.2, none, 0⟩, ⟨Cmd.numIt r.st, none, 0⟩, ⟨Bal.balIt r.bl, V3, c3⟩, ⟨Bal.balIt r.tk, V4, c4⟩]
theorem hung5_cells (aR aN aS aB aC aT aU aK aL aQ : Int) (aY aV : ByteArray) (aZ : Int) (aE aG : Int) (al : List (Int × Int)) (h0 : 0 ≤ aR) (h1 : 0 ≤ aN) (h2 : 0 ≤ aS) (V3 : Option Addr) (c3 : Nat) (V4 : Option Addr) (c4 : Nat) : (#[.int .i64 0, .int .u64 aR, .string ByteArray.empty, .slice none 0 0, .int .i64 0, .int .u64 aN, .string ByteArray.empty, .slice none 0 0, .int .i64 0, .int .u64 aS, .string ByteArray.empty, .slice none 0 0, .int .i64 2, .int .u64 0, .string ByteArray.empty, .slice V3 2 c3, .int .i64 2, .int .u64 0, .string ByteArray.empty, .slice V4 2 c4] : Array Value).toList = cells4 (hung5 ⟨(aR, aN), aS, (aB, aC), (aT, aU), ⟨aK, aL, aQ, aY, aV, aZ⟩, ⟨al, aE, aG⟩⟩ V3 c3 V4 c4) := by
  have e0 : ((aR.toNat : Nat) : Int) = aR := Int.toNat_of_nonneg h0
  have e1 : ((aN.toNat : Nat) : Int) = aN := Int.toNat_of_nonneg h1
  have e2 : ((aS.toNat : Nat) : Int) = aS := Int.toNat_of_nonneg h2
  show _ = [Value.int .i64 0, .int .u64 ((aR.toNat : Nat) : Int), .string ByteArray.empty, .slice none 0 0, .int .i64 0, .int .u64 ((aN.toNat : Nat) : Int), .string ByteArray.empty, .slice none 0 0, .int .i64 0, .int .u64 ((aS.toNat : Nat) : Int), .string ByteArray.empty, .slice none 0 0, .int .i64 2, .int .u64 0, .string ByteArray.empty, .slice V3 2 c3, .int .i64 2, .int .u64 0, .string ByteArray.empty, .slice V4 2 c4]
  rw [e0, e1, e2]
theorem hung5_lies {r : Rc} (h : rgt r = true) {w : World} {S : Nat → Prop} {V3 V4 : Option Addr} {c3 c4 : Nat} (h3 : Lies w S (Bal.balIt r.bl) V3 c3) (h4 : Lies w S (Bal.balIt r.tk) V4 c4) : ∀ h ∈ hung5 r V3 c3 V4 c4, Lies w S h.x h.A h.c := by
  obtain ⟨p1, p2, p3, _⟩ := rgt_parts h
  intro x hx
  simp only [hung5, List.mem_cons, List.not_mem_nil, or_false] at hx
  rcases hx with rfl | rfl | rfl | rfl | rfl
  · exact lies_leaf _ _ (by decide) (by show r.id.1.toNat ≤ _; omega) (by decide)
  · exact lies_leaf _ _ (by decide) (by show r.id.2.toNat ≤ _; omega) (by decide)
  · exact lies_leaf _ _ (by decide) (by show r.st.toNat ≤ _; omega) (by decide)
  · exact h3
  · exact h4

end Go.Proofs.YthlhchaoedcdbaaDoor.Rk
/- rec's parts: the next one of them, counted; a part that is a number. -/
namespace Go.Proofs.YthlhchaoedcdbaaDoor.Rk
open Go.RowKit Mem Ids Att Cod

/-- How many of n parts are taken behind one more. -/
def up1 (k n : Nat) : Nat := if k = n then k else k + 1
theorem row_at {w : World} {S : Nat → Prop} {A : Option Addr} {n c k : Nat} {l : List It} (h : Cod.Row w S A n c l) (hk : k < n) :
    ∃ g o A' c', A = some ⟨g, o, none⟩ ∧ S g ∧ g < w.heap.size ∧ w.cell? ⟨g, o + k * 4, none⟩ = some (.int .i64 (l.getD k Cmd.zeroIt).kind) ∧ w.cell? ⟨g, o + k * 4 + 1, none⟩ = some (.int .u64 ((l.getD k Cmd.zeroIt).num : Int)) ∧ w.cell? ⟨g, o + k * 4 + 2, none⟩ = some (.string (l.getD k Cmd.zeroIt).str) ∧ w.cell? ⟨g, o + k * 4 + 3, none⟩ = some (.slice A' (l.getD k Cmd.zeroIt).kids.length c') ∧ Lies w S (l.getD k Cmd.zeroIt) A' c' := by
  have hl : Lies w S (.mk 0 0 ByteArray.empty l) A c := by
    have := h.lies (k := 0) (n := 0) (s := ByteArray.empty) (by decide) (by decide) (by decide)
    exact this
  have hn : l.length = n := h.1
  obtain ⟨g, o, A', c', e, hS, hg, r0, r1, r2, r3, hly⟩ := lies_kid hl (i := k) (by show k < l.length; omega)
  have hy : (It.mk 0 0 ByteArray.empty l).kids[k]'(by show k < l.length; omega) = l.getD k Cmd.zeroIt := by
    show l[k]'(by omega) = _
    rw [List.getD_eq_getElem?_getD, List.getElem?_eq_getElem (by omega)]
    rfl
  rw [hy] at r0 r1 r2 r3 hly
  exact ⟨g, o, A', c', e, hS, hg, r0, r1, r2, r3, hly⟩

end Go.Proofs.YthlhchaoedcdbaaDoor.Rk
