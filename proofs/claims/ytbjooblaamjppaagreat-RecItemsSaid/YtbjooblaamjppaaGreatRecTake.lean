/-
  Texts of earlier layers, as one.
-/
import Derived.Test.YtbjooblaamjppaaGreatRecCount
import Derived.Test.YtbjooblaamjppaaGreatRBase
import Derived.Deep.RegionHeld
/- rec.Take: the record that an item says. -/
namespace Go.Proofs.YtbjooblaamjppaaGreat.Rk
open Go.RowKit Mem Ids Att Cod

/-- The record that an item, an old form, says. -/
noncomputable def takeRc (x : It) : Option Rc := if (x.kind == 2 && same (recItem (readOf attTake x.kids)) x) = true then some (readOf attTake x.kids) else none
noncomputable def oldTakeRc (x : It) : Option Rc := if (x.kind == 2 && same (recOld (readOf oldTake x.kids)).1 x) = true then some (readOf oldTake x.kids) else none
/-- The ending: a record, what it hangs on in memory of the call's own, and whether it is one. -/
def TakesRc (w : World) (r : Option Rc) (e : Ending) (w' : World) : Prop :=
  ∃ (q : Rc) (V : Option Addr) (nv cv : Nat), e = .returned (.tuple #[.agg #[.int .i64 q.id.1, .int .i64 q.id.2, .int .i64 q.st, .int .i64 q.bl.1, .int .i64 q.bl.2, .int .i64 q.tk.1, .int .i64 q.tk.2, .int .i64 q.cm.kd, .int .i64 q.cm.cl, .int .i64 q.cm.sq, .string q.cm.ky, .string q.cm.vl, .int .i64 q.cm.rv, .slice V nv cv, .int .i64 q.at_.sq, .int .i64 q.at_.tg], .bool r.isSome]) ∧
    q = r.getD zeroRc ∧ Rs w' V nv cv q.at_.dp ∧ (∀ g o, V = some ⟨g, o, none⟩ → w.heap.size ≤ g) ∧ Below w.heap.size w w'
theorem held20 {w w' : World} {g k : Nat} {t u : TypeId} {v0 v1 v2 v3 v4 v5 v6 v7 v8 v9 v10 v11 v12 v13 v14 v15 : Value} {y0 y1 y2 y3 : Value} (h1 : Blk w g t #[v0, v1, v2, v3, v4, v5, v6, v7, v8, v9, v10, v11, v12, v13, v14, v15]) (h2 : Blk w k u #[y0, y1, y2, y3]) (hb : Below w.heap.size w w') : w'.cell? ⟨g, 0, none⟩ = some v0 ∧ w'.cell? ⟨g, 1, none⟩ = some v1 ∧ w'.cell? ⟨g, 2, none⟩ = some v2 ∧ w'.cell? ⟨g, 3, none⟩ = some v3 ∧ w'.cell? ⟨g, 4, none⟩ = some v4 ∧ w'.cell? ⟨g, 5, none⟩ = some v5 ∧ w'.cell? ⟨g, 6, none⟩ = some v6 ∧ w'.cell? ⟨g, 7, none⟩ = some v7 ∧ w'.cell? ⟨g, 8, none⟩ = some v8 ∧ w'.cell? ⟨g, 9, none⟩ = some v9 ∧ w'.cell? ⟨g, 10, none⟩ = some v10 ∧ w'.cell? ⟨g, 11, none⟩ = some v11 ∧ w'.cell? ⟨g, 12, none⟩ = some v12 ∧ w'.cell? ⟨g, 13, none⟩ = some v13 ∧ w'.cell? ⟨g, 14, none⟩ = some v14 ∧ w'.cell? ⟨g, 15, none⟩ = some v15 ∧ w'.cell? ⟨k, 0, none⟩ = some y0 ∧ w'.cell? ⟨k, 1, none⟩ = some y1 ∧ w'.cell? ⟨k, 2, none⟩ = some y2 ∧ w'.cell? ⟨k, 3, none⟩ = some y3 := by
  obtain ⟨p0, p1, p2, p3, p4, p5, p6, p7, p8, p9, p10, p11, p12, p13, p14, p15⟩ := blk16 (h1.bel hb)
  obtain ⟨q0, q1, q2, q3⟩ := blk4 (h2.bel hb)
  exact ⟨p0, p1, p2, p3, p4, p5, p6, p7, p8, p9, p10, p11, p12, p13, p14, p15, q0, q1, q2, q3⟩
theorem held20g {w w' w3 : World} {g k : Nat} {t u : TypeId} {v0 v1 v2 v3 v4 v5 v6 v7 v8 v9 v10 v11 v12 v13 v14 v15 : Value} {y0 y1 y2 y3 : Value} {r : Nat} (h1 : Blk w g t #[v0, v1, v2, v3, v4, v5, v6, v7, v8, v9, v10, v11, v12, v13, v14, v15]) (h2 : Blk w k u #[y0, y1, y2, y3]) (hb : Below w.heap.size w w') (hg : w'.grownBy w3 (some r)) (n1 : g ≠ r) (n2 : k ≠ r) : w3.cell? ⟨g, 0, none⟩ = some v0 ∧ w3.cell? ⟨g, 1, none⟩ = some v1 ∧ w3.cell? ⟨g, 2, none⟩ = some v2 ∧ w3.cell? ⟨g, 3, none⟩ = some v3 ∧ w3.cell? ⟨g, 4, none⟩ = some v4 ∧ w3.cell? ⟨g, 5, none⟩ = some v5 ∧ w3.cell? ⟨g, 6, none⟩ = some v6 ∧ w3.cell? ⟨g, 7, none⟩ = some v7 ∧ w3.cell? ⟨g, 8, none⟩ = some v8 ∧ w3.cell? ⟨g, 9, none⟩ = some v9 ∧ w3.cell? ⟨g, 10, none⟩ = some v10 ∧ w3.cell? ⟨g, 11, none⟩ = some v11 ∧ w3.cell? ⟨g, 12, none⟩ = some v12 ∧ w3.cell? ⟨g, 13, none⟩ = some v13 ∧ w3.cell? ⟨g, 14, none⟩ = some v14 ∧ w3.cell? ⟨g, 15, none⟩ = some v15 ∧ w3.cell? ⟨k, 0, none⟩ = some y0 ∧ w3.cell? ⟨k, 1, none⟩ = some y1 ∧ w3.cell? ⟨k, 2, none⟩ = some y2 ∧ w3.cell? ⟨k, 3, none⟩ = some y3 := by
  obtain ⟨p0, p1, p2, p3, p4, p5, p6, p7, p8, p9, p10, p11, p12, p13, p14, p15⟩ := blk16 ((h1.bel hb).grown hg (fun e => n1 (by injection e)))
  obtain ⟨q0, q1, q2, q3⟩ := blk4 ((h2.bel hb).grown hg (fun e => n2 (by injection e)))
  exact ⟨p0, p1, p2, p3, p4, p5, p6, p7, p8, p9, p10, p11, p12, p13, p14, p15, q0, q1, q2, q3⟩
theorem held20s {w w' : World} {g k : Nat} {t u : TypeId} {v0 v1 v2 v3 v4 v5 v6 v7 v8 v9 v10 v11 v12 v13 v14 v15 : Value} {y0 y1 y2 y3 : Value} {r : Nat} (h1 : Blk w g t #[v0, v1, v2, v3, v4, v5, v6, v7, v8, v9, v10, v11, v12, v13, v14, v15]) (h2 : Blk w k u #[y0, y1, y2, y3]) (hb : Below w.heap.size w w') (n1 : g ≠ r) (n2 : k ≠ r) (u0 u1 u2 u3 u4 u5 u6 u7 u8 u9 u10 u11 u12 u13 u14 u15 : Value) : ((((((((((((((((w'.setCell ⟨r, 0, none⟩ (u0)).setCell ⟨r, 1, none⟩ (u1)).setCell ⟨r, 2, none⟩ (u2)).setCell ⟨r, 3, none⟩ (u3)).setCell ⟨r, 4, none⟩ (u4)).setCell ⟨r, 5, none⟩ (u5)).setCell ⟨r, 6, none⟩ (u6)).setCell ⟨r, 7, none⟩ (u7)).setCell ⟨r, 8, none⟩ (u8)).setCell ⟨r, 9, none⟩ (u9)).setCell ⟨r, 10, none⟩ (u10)).setCell ⟨r, 11, none⟩ (u11)).setCell ⟨r, 12, none⟩ (u12)).setCell ⟨r, 13, none⟩ (u13)).setCell ⟨r, 14, none⟩ (u14)).setCell ⟨r, 15, none⟩ (u15)).cell? ⟨g, 0, none⟩ = some v0 ∧ ((((((((((((((((w'.setCell ⟨r, 0, none⟩ (u0)).setCell ⟨r, 1, none⟩ (u1)).setCell ⟨r, 2, none⟩ (u2)).setCell ⟨r, 3, none⟩ (u3)).setCell ⟨r, 4, none⟩ (u4)).setCell ⟨r, 5, none⟩ (u5)).setCell ⟨r, 6, none⟩ (u6)).setCell ⟨r, 7, none⟩ (u7)).setCell ⟨r, 8, none⟩ (u8)).setCell ⟨r, 9, none⟩ (u9)).setCell ⟨r, 10, none⟩ (u10)).setCell ⟨r, 11, none⟩ (u11)).setCell ⟨r, 12, none⟩ (u12)).setCell ⟨r, 13, none⟩ (u13)).setCell ⟨r, 14, none⟩ (u14)).setCell ⟨r, 15, none⟩ (u15)).cell? ⟨g, 1, none⟩ = some v1 ∧ ((((((((((((((((w'.setCell ⟨r, 0, none⟩ (u0)).setCell ⟨r, 1, none⟩ (u1)).setCell ⟨r, 2, none⟩ (u2)).setCell ⟨r, 3, none⟩ (u3)).setCell ⟨r, 4, none⟩ (u4)).setCell ⟨r, 5, none⟩ (u5)).setCell ⟨r, 6, none⟩ (u6)).setCell ⟨r, 7, none⟩ (u7)).setCell ⟨r, 8, none⟩ (u8)).setCell ⟨r, 9, none⟩ (u9)).setCell ⟨r, 10, none⟩ (u10)).setCell ⟨r, 11, none⟩ (u11)).setCell ⟨r, 12, none⟩ (u12)).setCell ⟨r, 13, none⟩ (u13)).setCell ⟨r, 14, none⟩ (u14)).setCell ⟨r, 15, none⟩ (u15)).cell? ⟨g, 2, none⟩ = some v2 ∧ ((((((((((((((((w'.setCell ⟨r, 0, none⟩ (u0)).setCell ⟨r, 1, none⟩ (u1)).setCell ⟨r, 2, none⟩ (u2)).setCell ⟨r, 3, none⟩ (u3)).setCell ⟨r, 4, none⟩ (u4)).setCell ⟨r, 5, none⟩ (u5)).setCell ⟨r, 6, none⟩ (u6)).setCell ⟨r, 7, none⟩ (u7)).setCell ⟨r, 8, none⟩ (u8)).setCell ⟨r, 9, none⟩ (u9)).setCell ⟨r, 10, none⟩ (u10)).setCell ⟨r, 11, none⟩ (u11)).setCell ⟨r, 12, none⟩ (u12)).setCell ⟨r, 13, none⟩ (u13)).setCell ⟨r, 14, none⟩ (u14)).setCell ⟨r, 15, none⟩ (u15)).cell? ⟨g, 3, none⟩ = some v3 ∧ ((((((((((((((((w'.setCell ⟨r, 0, none⟩ (u0)).setCell ⟨r, 1, none⟩ (u1)).setCell ⟨r, 2, none⟩ (u2)).setCell ⟨r, 3, none⟩ (u3)).setCell ⟨r, 4, none⟩ (u4)).setCell ⟨r, 5, none⟩ (u5)).setCell ⟨r, 6, none⟩ (u6)).setCell ⟨r, 7, none⟩ (u7)).setCell ⟨r, 8, none⟩ (u8)).setCell ⟨r, 9, none⟩ (u9)).setCell ⟨r, 10, none⟩ (u10)).setCell ⟨r, 11, none⟩ (u11)).setCell ⟨r, 12, none⟩ (u12)).setCell ⟨r, 13, none⟩ (u13)).setCell ⟨r, 14, none⟩ (u14)).setCell ⟨r, 15, none⟩ (u15)).cell? ⟨g, 4, none⟩ = some v4 ∧ ((((((((((((((((w'.setCell ⟨r, 0, none⟩ (u0)).setCell ⟨r, 1, none⟩ (u1)).setCell ⟨r, 2, none⟩ (u2)).setCell ⟨r, 3, none⟩ (u3)).setCell ⟨r, 4, none⟩ (u4)).setCell ⟨r, 5, none⟩ (u5)).setCell ⟨r, 6, none⟩ (u6)).setCell ⟨r, 7, none⟩ (u7)).setCell ⟨r, 8, none⟩ (u8)).setCell ⟨r, 9, none⟩ (u9)).setCell ⟨r, 10, none⟩ (u10)).setCell ⟨r, 11, none⟩ (u11)).setCell ⟨r, 12, none⟩ (u12)).setCell ⟨r, 13, none⟩ (u13)).setCell ⟨r, 14, none⟩ (u14)).setCell ⟨r, 15, none⟩ (u15)).cell? ⟨g, 5, none⟩ = some v5 ∧ ((((((((((((((((w'.setCell ⟨r, 0, none⟩ (u0)).setCell ⟨r, 1, none⟩ (u1)).setCell ⟨r, 2, none⟩ (u2)).setCell ⟨r, 3, none⟩ (u3)).setCell ⟨r, 4, none⟩ (u4)).setCell ⟨r, 5, none⟩ (u5)).setCell ⟨r, 6, none⟩ (u6)).setCell ⟨r, 7, none⟩ (u7)).setCell ⟨r, 8, none⟩ (u8)).setCell ⟨r, 9, none⟩ (u9)).setCell ⟨r, 10, none⟩ (u10)).setCell ⟨r, 11, none⟩ (u11)).setCell ⟨r, 12, none⟩ (u12)).setCell ⟨r, 13, none⟩ (u13)).setCell ⟨r, 14, none⟩ (u14)).setCell ⟨r, 15, none⟩ (u15)).cell? ⟨g, 6, none⟩ = some v6 ∧ ((((((((((((((((w'.setCell ⟨r, 0, none⟩ (u0)).setCell ⟨r, 1, none⟩ (u1)).setCell ⟨r, 2, none⟩ (u2)).setCell ⟨r, 3, none⟩ (u3)).setCell ⟨r, 4, none⟩ (u4)).setCell ⟨r, 5, none⟩ (u5)).setCell ⟨r, 6, none⟩ (u6)).setCell ⟨r, 7, none⟩ (u7)).setCell ⟨r, 8, none⟩ (u8)).setCell ⟨r, 9, none⟩ (u9)).setCell ⟨r, 10, none⟩ (u10)).setCell ⟨r, 11, none⟩ (u11)).setCell ⟨r, 12, none⟩ (u12)).setCell ⟨r, 13, none⟩ (u13)).setCell ⟨r, 14, none⟩ (u14)).setCell ⟨r, 15, none⟩ (u15)).cell? ⟨g, 7, none⟩ = some v7 ∧ ((((((((((((((((w'.setCell ⟨r, 0, none⟩ (u0)).setCell ⟨r, 1, none⟩ (u1)).setCell ⟨r, 2, none⟩ (u2)).setCell ⟨r, 3, none⟩ (u3)).setCell ⟨r, 4, none⟩ (u4)).setCell ⟨r, 5, none⟩ (u5)).setCell ⟨r, 6, none⟩ (u6)).setCell ⟨r, 7, none⟩ (u7)).setCell ⟨r, 8, none⟩ (u8)).setCell ⟨r, 9, none⟩ (u9)).setCell ⟨r, 10, none⟩ (u10)).setCell ⟨r, 11, none⟩ (u11)).setCell ⟨r, 12, none⟩ (u12)).setCell ⟨r, 13, none⟩ (u13)).setCell ⟨r, 14, none⟩ (u14)).setCell ⟨r, 15, none⟩ (u15)).cell? ⟨g, 8, none⟩ = some v8 ∧ ((((((((((((((((w'.setCell ⟨r, 0, none⟩ (u0)).setCell ⟨r, 1, none⟩ (u1)).setCell ⟨r, 2, none⟩ (u2)).setCell ⟨r, 3, none⟩ (u3)).setCell ⟨r, 4, none⟩ (u4)).setCell ⟨r, 5, none⟩ (u5)).setCell ⟨r, 6, none⟩ (u6)).setCell ⟨r, 7, none⟩ (u7)).setCell ⟨r, 8, none⟩ (u8)).setCell ⟨r, 9, none⟩ (u9)).setCell ⟨r, 10, none⟩ (u10)).setCell ⟨r, 11, none⟩ (u11)).setCell ⟨r, 12, none⟩ (u12)).setCell ⟨r, 13, none⟩ (u13)).setCell ⟨r, 14, none⟩ (u14)).setCell ⟨r, 15, none⟩ (u15)).cell? ⟨g, 9, none⟩ = some v9 ∧ ((((((((((((((((w'.setCell ⟨r, 0, none⟩ (u0)).setCell ⟨r, 1, none⟩ (u1)).setCell ⟨r, 2, none⟩ (u2)).setCell ⟨r, 3, none⟩ (u3)).setCell ⟨r, 4, none⟩ (u4)).setCell ⟨r, 5, none⟩ (u5)).setCell ⟨r, 6, none⟩ (u6)).setCell ⟨r, 7, none⟩ (u7)).setCell ⟨r, 8, none⟩ (u8)).setCell ⟨r, 9, none⟩ (u9)).setCell ⟨r, 10, none⟩ (u10)).setCell ⟨r, 11, none⟩ (u11)).setCell ⟨r, 12, none⟩ (u12)).setCell ⟨r, 13, none⟩ (u13)).setCell ⟨r, 14, none⟩ (u14)).setCell ⟨r, 15, none⟩ (u15)).cell? ⟨g, 10, none⟩ = some v10 ∧ ((((((((((((((((w'.setCell ⟨r, 0, none⟩ (u0)).setCell ⟨r, 1, none⟩ (u1)).setCell ⟨r, 2, none⟩ (u2)).setCell ⟨r, 3, none⟩ (u3)).setCell ⟨r, 4, none⟩ (u4)).setCell ⟨r, 5, none⟩ (u5)).setCell ⟨r, 6, none⟩ (u6)).setCell ⟨r, 7, none⟩ (u7)).setCell ⟨r, 8, none⟩ (u8)).setCell ⟨r, 9, none⟩ (u9)).setCell ⟨r, 10, none⟩ (u10)).setCell ⟨r, 11, none⟩ (u11)).setCell ⟨r, 12, none⟩ (u12)).setCell ⟨r, 13, none⟩ (u13)).setCell ⟨r, 14, none⟩ (u14)).setCell ⟨r, 15, none⟩ (u15)).cell? ⟨g, 11, none⟩ = some v11 ∧ ((((((((((((((((w'.setCell ⟨r, 0, none⟩ (u0)).setCell ⟨r, 1, none⟩ (u1)).setCell ⟨r, 2, none⟩ (u2)).setCell ⟨r, 3, none⟩ (u3)).setCell ⟨r, 4, none⟩ (u4)).setCell ⟨r, 5, none⟩ (u5)).setCell ⟨r, 6, none⟩ (u6)).setCell ⟨r, 7, none⟩ (u7)).setCell ⟨r, 8, none⟩ (u8)).setCell ⟨r, 9, none⟩ (u9)).setCell ⟨r, 10, none⟩ (u10)).setCell ⟨r, 11, none⟩ (u11)).setCell ⟨r, 12, none⟩ (u12)).setCell ⟨r, 13, none⟩ (u13)).setCell ⟨r, 14, none⟩ (u14)).setCell ⟨r, 15, none⟩ (u15)).cell? ⟨g, 12, none⟩ = some v12 ∧ ((((((((((((((((w'.setCell ⟨r, 0, none⟩ (u0)).setCell ⟨r, 1, none⟩ (u1)).setCell ⟨r, 2, none⟩ (u2)).setCell ⟨r, 3, none⟩ (u3)).setCell ⟨r, 4, none⟩ (u4)).setCell ⟨r, 5, none⟩ (u5)).setCell ⟨r, 6, none⟩ (u6)).setCell ⟨r, 7, none⟩ (u7)).setCell ⟨r, 8, none⟩ (u8)).setCell ⟨r, 9, none⟩ (u9)).setCell ⟨r, 10, none⟩ (u10)).setCell ⟨r, 11, none⟩ (u11)).setCell ⟨r, 12, none⟩ (u12)).setCell ⟨r, 13, none⟩ (u13)).setCell ⟨r, 14, none⟩ (u14)).setCell ⟨r, 15, none⟩ (u15)).cell? ⟨g, 13, none⟩ = some v13 ∧ ((((((((((((((((w'.setCell ⟨r, 0, none⟩ (u0)).setCell ⟨r, 1, none⟩ (u1)).setCell ⟨r, 2, none⟩ (u2)).setCell ⟨r, 3, none⟩ (u3)).setCell ⟨r, 4, none⟩ (u4)).setCell ⟨r, 5, none⟩ (u5)).setCell ⟨r, 6, none⟩ (u6)).setCell ⟨r, 7, none⟩ (u7)).setCell ⟨r, 8, none⟩ (u8)).setCell ⟨r, 9, none⟩ (u9)).setCell ⟨r, 10, none⟩ (u10)).setCell ⟨r, 11, none⟩ (u11)).setCell ⟨r, 12, none⟩ (u12)).setCell ⟨r, 13, none⟩ (u13)).setCell ⟨r, 14, none⟩ (u14)).setCell ⟨r, 15, none⟩ (u15)).cell? ⟨g, 14, none⟩ = some v14 ∧ ((((((((((((((((w'.setCell ⟨r, 0, none⟩ (u0)).setCell ⟨r, 1, none⟩ (u1)).setCell ⟨r, 2, none⟩ (u2)).setCell ⟨r, 3, none⟩ (u3)).setCell ⟨r, 4, none⟩ (u4)).setCell ⟨r, 5, none⟩ (u5)).setCell ⟨r, 6, none⟩ (u6)).setCell ⟨r, 7, none⟩ (u7)).setCell ⟨r, 8, none⟩ (u8)).setCell ⟨r, 9, none⟩ (u9)).setCell ⟨r, 10, none⟩ (u10)).setCell ⟨r, 11, none⟩ (u11)).setCell ⟨r, 12, none⟩ (u12)).setCell ⟨r, 13, none⟩ (u13)).setCell ⟨r, 14, none⟩ (u14)).setCell ⟨r, 15, none⟩ (u15)).cell? ⟨g, 15, none⟩ = some v15 ∧ ((((((((((((((((w'.setCell ⟨r, 0, none⟩ (u0)).setCell ⟨r, 1, none⟩ (u1)).setCell ⟨r, 2, none⟩ (u2)).setCell ⟨r, 3, none⟩ (u3)).setCell ⟨r, 4, none⟩ (u4)).setCell ⟨r, 5, none⟩ (u5)).setCell ⟨r, 6, none⟩ (u6)).setCell ⟨r, 7, none⟩ (u7)).setCell ⟨r, 8, none⟩ (u8)).setCell ⟨r, 9, none⟩ (u9)).setCell ⟨r, 10, none⟩ (u10)).setCell ⟨r, 11, none⟩ (u11)).setCell ⟨r, 12, none⟩ (u12)).setCell ⟨r, 13, none⟩ (u13)).setCell ⟨r, 14, none⟩ (u14)).setCell ⟨r, 15, none⟩ (u15)).cell? ⟨k, 0, none⟩ = some y0 ∧ ((((((((((((((((w'.setCell ⟨r, 0, none⟩ (u0)).setCell ⟨r, 1, none⟩ (u1)).setCell ⟨r, 2, none⟩ (u2)).setCell ⟨r, 3, none⟩ (u3)).setCell ⟨r, 4, none⟩ (u4)).setCell ⟨r, 5, none⟩ (u5)).setCell ⟨r, 6, none⟩ (u6)).setCell ⟨r, 7, none⟩ (u7)).setCell ⟨r, 8, none⟩ (u8)).setCell ⟨r, 9, none⟩ (u9)).setCell ⟨r, 10, none⟩ (u10)).setCell ⟨r, 11, none⟩ (u11)).setCell ⟨r, 12, none⟩ (u12)).setCell ⟨r, 13, none⟩ (u13)).setCell ⟨r, 14, none⟩ (u14)).setCell ⟨r, 15, none⟩ (u15)).cell? ⟨k, 1, none⟩ = some y1 ∧ ((((((((((((((((w'.setCell ⟨r, 0, none⟩ (u0)).setCell ⟨r, 1, none⟩ (u1)).setCell ⟨r, 2, none⟩ (u2)).setCell ⟨r, 3, none⟩ (u3)).setCell ⟨r, 4, none⟩ (u4)).setCell ⟨r, 5, none⟩ (u5)).setCell ⟨r, 6, none⟩ (u6)).setCell ⟨r, 7, none⟩ (u7)).setCell ⟨r, 8, none⟩ (u8)).setCell ⟨r, 9, none⟩ (u9)).setCell ⟨r, 10, none⟩ (u10)).setCell ⟨r, 11, none⟩ (u11)).setCell ⟨r, 12, none⟩ (u12)).setCell ⟨r, 13, none⟩ (u13)).setCell ⟨r, 14, none⟩ (u14)).setCell ⟨r, 15, none⟩ (u15)).cell? ⟨k, 2, none⟩ = some y2 ∧ ((((((((((((((((w'.setCell ⟨r, 0, none⟩ (u0)).setCell ⟨r, 1, none⟩ (u1)).setCell ⟨r, 2, none⟩ (u2)).setCell ⟨r, 3, none⟩ (u3)).setCell ⟨r, 4, none⟩ (u4)).setCell ⟨r, 5, none⟩ (u5)).setCell ⟨r, 6, none⟩ (u6)).setCell ⟨r, 7, none⟩ (u7)).setCell ⟨r, 8, none⟩ (u8)).setCell ⟨r, 9, none⟩ (u9)).setCell ⟨r, 10, none⟩ (u10)).setCell ⟨r, 11, none⟩ (u11)).setCell ⟨r, 12, none⟩ (u12)).setCell ⟨r, 13, none⟩ (u13)).setCell ⟨r, 14, none⟩ (u14)).setCell ⟨r, 15, none⟩ (u15)).cell? ⟨k, 3, none⟩ = some y3 := by
  have hg : w'.grownBy ((((((((((((((((w'.setCell ⟨r, 0, none⟩ (u0)).setCell ⟨r, 1, none⟩ (u1)).setCell ⟨r, 2, none⟩ (u2)).setCell ⟨r, 3, none⟩ (u3)).setCell ⟨r, 4, none⟩ (u4)).setCell ⟨r, 5, none⟩ (u5)).setCell ⟨r, 6, none⟩ (u6)).setCell ⟨r, 7, none⟩ (u7)).setCell ⟨r, 8, none⟩ (u8)).setCell ⟨r, 9, none⟩ (u9)).setCell ⟨r, 10, none⟩ (u10)).setCell ⟨r, 11, none⟩ (u11)).setCell ⟨r, 12, none⟩ (u12)).setCell ⟨r, 13, none⟩ (u13)).setCell ⟨r, 14, none⟩ (u14)).setCell ⟨r, 15, none⟩ (u15)) (some r) := (gr_set (p := ⟨r, 15, none⟩) (gr_set (p := ⟨r, 14, none⟩) (gr_set (p := ⟨r, 13, none⟩) (gr_set (p := ⟨r, 12, none⟩) (gr_set (p := ⟨r, 11, none⟩) (gr_set (p := ⟨r, 10, none⟩) (gr_set (p := ⟨r, 9, none⟩) (gr_set (p := ⟨r, 8, none⟩) (gr_set (p := ⟨r, 7, none⟩) (gr_set (p := ⟨r, 6, none⟩) (gr_set (p := ⟨r, 5, none⟩) (gr_set (p := ⟨r, 4, none⟩) (gr_set (p := ⟨r, 3, none⟩) (gr_set (p := ⟨r, 2, none⟩) (gr_set (p := ⟨r, 1, none⟩) (gr_set (p := ⟨r, 0, none⟩) (gr_refl w' (some r)) (.inl rfl) _) (.inl rfl) _) (.inl rfl) _) (.inl rfl) _) (.inl rfl) _) (.inl rfl) _) (.inl rfl) _) (.inl rfl) _) (.inl rfl) _) (.inl rfl) _) (.inl rfl) _) (.inl rfl) _) (.inl rfl) _) (.inl rfl) _) (.inl rfl) _) (.inl rfl) _)
  exact held20g h1 h2 hb hg n1 n2
theorem wt_recItem (r : Rc) : wt (recItem r) ≤ 100000 := by
  unfold recItem
  split
  · rename_i h
    show 1 + ByteArray.empty.size + wts (if r.st = 0 then fronts r else fronts r ++ [Cmd.cmIt r.cm, attIt r.at_]) ≤ _
    have e : ByteArray.empty.size = 0 := rfl
    rw [e]
    split
    · rw [wts_fronts]; decide
    · rename_i hs
      have h1 := Cmd.wt_item r.cm
      rw [Cmd.itemOf, if_pos ((rgt_parts h).2.2.2.2.2.1 hs).1] at h1
      have h2 := (wt_att ((rgt_parts h).2.2.2.2.2.1 hs).2).1
      rw [wts_append, wts_fronts]
      simp only [wts]
      omega
  · decide

set_option maxRecDepth 100000 in
set_option maxHeartbeats 8000000 in
theorem take_any (x : It) (A : Option Addr) (c : Nat) (S : Nat → Prop) (w : World) (hl : Lies w S x A c) (hS : ∀ b, S b → b < w.heap.size) (hn : x.kids.length ≤ 1000000000) :
    Calls Tryz.prog 8 #[.agg #[.int .i64 x.kind, .int .u64 (x.num : Int), .string x.str, .slice A x.kids.length c]] w (TakesRc w (takeRc x)) := by
  obtain ⟨W, hW⟩ : ∃ W, (w.alloc (.cells #[.int .i64 x.kind, .int .u64 (x.num : Int), .string x.str, .slice A x.kids.length c] 36)).alloc (.cells #[.int .i64 0, .int .i64 0, .int .i64 0, .int .i64 0, .int .i64 0, .int .i64 0, .int .i64 0, .int .i64 0, .int .i64 0, .int .i64 0, .string ⟨#[]⟩, .string ⟨#[]⟩, .int .i64 0, .slice none 0 0, .int .i64 0, .int .i64 0] 32) = W := ⟨_, rfl⟩
  obtain ⟨k1, k2, kb, hsW⟩ := two_kinds w _ _ _ _ W hW
  have hlw := hl.below kb hS
  have hrd := read_any A x.kids.length c x.kids S W hlw.row hn (fun b hb => by have := hS b hb; omega)
  have htk : takeRc x = if (x.kind == 2 && same (recItem (readOf attTake x.kids)) x) = true then some (readOf attTake x.kids) else none := rfl
  generalize readOf attTake x.kids = q at hrd htk
  obtain ⟨n, hnn⟩ : ∃ n, x.kids.length = n := ⟨_, rfl⟩
  rw [hnn] at hrd k1 hW hn ⊢
  have HNN := Lib.hid hnn
  have HRD := Lib.hid hrd
  have HX := Lib.hid k1
  have HR0 := Lib.hid k2
  have HB0 := Lib.hid kb
  have HW := Lib.hid hW
  have HSW := Lib.hid hsW
  have HSS := Lib.hid hS
  have HLW := Lib.hid hlw
  have HTK0 := Lib.hid htk
  clear hl hS k1 k2 kb hW hsW hlw hrd htk hnn
  go_enter Tryz.func8, Tryz.ntmps8
  go_wp2_with fail
  rw [HW.out]
  refine HRD.out.mono ?_
  obtain ⟨⟨aR, aN⟩, aS, ⟨aB, aC⟩, ⟨aT, aU⟩, ⟨aK, aL, aQ, aY, aV, aZ⟩, ⟨al, aE, aG⟩⟩ := q
  rintro e w1 ⟨aA, an, ac, rfl, hrs, hnew, hb1⟩
  simp only at hrs ⊢
  have hsz2 := size_alloc w1 (.cells #[.int .i64 aR, .int .i64 aN, .int .i64 aS, .int .i64 aB, .int .i64 aC, .int .i64 aT, .int .i64 aU, .int .i64 aK, .int .i64 aL, .int .i64 aQ, .string aY, .string aV, .int .i64 aZ, .slice aA an ac, .int .i64 aE, .int .i64 aG] 32)
  have hk2 := Blk.new w1 32 #[.int .i64 aR, .int .i64 aN, .int .i64 aS, .int .i64 aB, .int .i64 aC, .int .i64 aT, .int .i64 aU, .int .i64 aK, .int .i64 aL, .int .i64 aQ, .string aY, .string aV, .int .i64 aZ, .slice aA an ac, .int .i64 aE, .int .i64 aG]
  have hx2 := (HX.out.bel hb1).alloc (.cells #[.int .i64 aR, .int .i64 aN, .int .i64 aS, .int .i64 aB, .int .i64 aC, .int .i64 aT, .int .i64 aU, .int .i64 aK, .int .i64 aL, .int .i64 aQ, .string aY, .string aV, .int .i64 aZ, .slice aA an ac, .int .i64 aE, .int .i64 aG] 32)
  have hr2 := (HR0.out.bel hb1).alloc (.cells #[.int .i64 aR, .int .i64 aN, .int .i64 aS, .int .i64 aB, .int .i64 aC, .int .i64 aT, .int .i64 aU, .int .i64 aK, .int .i64 aL, .int .i64 aQ, .string aY, .string aV, .int .i64 aZ, .slice aA an ac, .int .i64 aE, .int .i64 aG] 32)
  have hrs2 := hrs.alloc (.cells #[.int .i64 aR, .int .i64 aN, .int .i64 aS, .int .i64 aB, .int .i64 aC, .int .i64 aT, .int .i64 aU, .int .i64 aK, .int .i64 aL, .int .i64 aQ, .string aY, .string aV, .int .i64 aZ, .slice aA an ac, .int .i64 aE, .int .i64 aG] 32)
  have hbW : Below W.heap.size W (w1.alloc (.cells #[.int .i64 aR, .int .i64 aN, .int .i64 aS, .int .i64 aB, .int .i64 aC, .int .i64 aT, .int .i64 aU, .int .i64 aK, .int .i64 aL, .int .i64 aQ, .string aY, .string aV, .int .i64 aZ, .slice aA an ac, .int .i64 aE, .int .i64 aG] 32)) := hb1.alloc hb1.size _
  have hb2 : Below w.heap.size w (w1.alloc (.cells #[.int .i64 aR, .int .i64 aN, .int .i64 aS, .int .i64 aB, .int .i64 aC, .int .i64 aT, .int .i64 aU, .int .i64 aK, .int .i64 aL, .int .i64 aQ, .string aY, .string aV, .int .i64 aZ, .slice aA an ac, .int .i64 aE, .int .i64 aG] 32)) := HB0.out.trans (hbW.mono HB0.out.size)
  have hl2 := HLW.out.below hbW (fun b hb => by have := HSS.out b hb; have := HSW.out; omega)
  obtain ⟨W2, hW2⟩ : ∃ v, w1.alloc (.cells #[.int .i64 aR, .int .i64 aN, .int .i64 aS, .int .i64 aB, .int .i64 aC, .int .i64 aT, .int .i64 aU, .int .i64 aK, .int .i64 aL, .int .i64 aQ, .string aY, .string aV, .int .i64 aZ, .slice aA an ac, .int .i64 aE, .int .i64 aG] 32) = v := ⟨_, rfl⟩
  rw [hW2] at hsz2 hk2 hx2 hr2 hrs2 hb2 hl2 hbW
  have HZ1 := Lib.hid hb1.size
  have HZ2 := Lib.hid hsz2
  have HK2 := Lib.hid hk2
  have HX2 := Lib.hid hx2
  have HR2 := Lib.hid hr2
  have HRS := Lib.hid hrs2
  have HB2 := Lib.hid hb2
  have HNEW := Lib.hid hnew
  have HW2 := Lib.hid hW2
  have HL2 : Hid (∀ v : World, Below W2.heap.size W2 v → Lies v (fun b => b < v.heap.size) x A c) := Lib.hid (fun v hv => (hl2.below hv (fun b hb => by have := HSS.out b hb; have := hb2.size; omega)).more fun b hb _ => by have := HSS.out b hb; have := hb2.size; have := hv.size; omega)
  have HN1 := Lib.hid (show w1.heap.size ≠ w.heap.size + 1 by have := HZ1.out; have := HSW.out; omega)
  have HN2 := Lib.hid (show w.heap.size ≠ w.heap.size + 1 by omega)
  obtain ⟨p0, p1, p2, p3, p4, p5, p6, p7, p8, p9, p10, p11, p12, p13, p14, p15⟩ := blk16 hk2
  obtain ⟨x0, x1, x2, x3⟩ := blk4 hx2
  have hit := fun v (h : Rs v aA an ac al) => item_any aR aN aS aB aC aT aU aK aL aQ aY aV aZ aA an ac aE aG al v h
  have htk := HTK0.out
  have hwt := wt_recItem ⟨(aR, aN), aS, (aB, aC), (aT, aU), ⟨aK, aL, aQ, aY, aV, aZ⟩, ⟨al, aE, aG⟩⟩
  have hcn := fun (v : World) (y : It) (V1 : Option Addr) (c1 : Nat) (hwt : wt y ≤ 100000) (h1 : Lies v (fun b => b < v.heap.size) y V1 c1) (h2 : Lies v (fun b => b < v.heap.size) x A c) => counted_any aR aN aS aB aC aT aU aK aL aQ aY aV aZ aE aG aA an ac y V1 c1 x A c _ v h1 h2 (fun b hb => hb) hwt
  rw [HNN.out] at hcn
  generalize recItem ⟨(aR, aN), aS, (aB, aC), (aT, aU), ⟨aK, aL, aQ, aY, aV, aZ⟩, ⟨al, aE, aG⟩⟩ = y at hit htk hwt
  have hcn := fun v V1 c1 => hcn v y V1 c1 hwt
  generalize same y x = r at htk hcn
  generalize (x.kind == 2 && r) = ok at htk hcn
  have HIT := Lib.hid hit
  have HCUR := Lib.hid (Below.drew (Below.refl W2.heap.size W2))
  clear hsz2 hk2 hx2 hr2 hrs2 hb2 hl2 hbW hrs hnew hb1 hW2 hit hwt HTK0 HRD
  go_upto_region 2 with fail
  rw [HW2.out]
  cases ok with
  | false =>
    have HTK := Lib.hid (show takeRc x = none from htk)
    have HCN : Hid (∀ v V1 c1, Lies v (fun b => b < v.heap.size) y V1 c1 → Lies v (fun b => b < v.heap.size) x A c → Calls Tryz.prog 29 _ v fun e w' => e = .returned (.tuple #[.agg #[.int .i64 0, .int .i64 0, .int .i64 0, .int .i64 0, .int .i64 0, .int .i64 0, .int .i64 0, .int .i64 0, .int .i64 0, .int .i64 0, .string ⟨#[]⟩, .string ⟨#[]⟩, .int .i64 0, .slice none 0 0, .int .i64 0, .int .i64 0], .bool false]) ∧ Below v.heap.size v w') := Lib.hid hcn
    clear htk hcn
    refine wp_region_held_drew (S := (fun w' => Blk w' w1.heap.size 32 #[.int .i64 aR, .int .i64 aN, .int .i64 aS, .int .i64 aB, .int .i64 aC, .int .i64 aT, .int .i64 aU, .int .i64 aK, .int .i64 aL, .int .i64 aQ, .string aY, .string aV, .int .i64 aZ, .slice aA an ac, .int .i64 aE, .int .i64 aG] ∧ Blk w' w.heap.size 36 #[.int .i64 x.kind, .int .u64 (x.num : Int), .string x.str, .slice A n c])) (by kernel_rfl) (by first | (with_reducible exact HS3.out) | (with_reducible exact ⟨HK2.out.bel HCUR.out, HX2.out.bel HCUR.out⟩)) (fun hHeld => ?_)
    refine held_take (i := 0) (d := 8) (v := (.agg #[.int .i64 aR, .int .i64 aN, .int .i64 aS, .int .i64 aB, .int .i64 aC, .int .i64 aT, .int .i64 aU, .int .i64 aK, .int .i64 aL, .int .i64 aQ, .string aY, .string aV, .int .i64 aZ, .slice aA an ac, .int .i64 aE, .int .i64 aG])) rfl rfl (by kernel_rfl) (by kernel_rfl) (by kernel_rfl) (fun _ _ _ h => h) (by kernel_rfl) (run_load_blk 32 (.tmp 4) rfl w1.heap.size 32 #[.int .i64 aR, .int .i64 aN, .int .i64 aS, .int .i64 aB, .int .i64 aC, .int .i64 aT, .int .i64 aU, .int .i64 aK, .int .i64 aL, .int .i64 aQ, .string aY, .string aV, .int .i64 aZ, .slice aA an ac, .int .i64 aE, .int .i64 aG] _ rfl (fun _ h => h.1) Tryz.underlying32 rfl (by kernel_rfl)) hHeld ?_
    try simp only [List.setIfInBounds_toArray, List.set_cons_zero, List.set_cons_succ]
    refine held_take (i := 1) (d := 9) (v := (.agg #[.int .i64 aR, .int .i64 aN, .int .i64 aS, .int .i64 aB, .int .i64 aC, .int .i64 aT, .int .i64 aU, .int .i64 aK, .int .i64 aL, .int .i64 aQ, .string aY, .string aV, .int .i64 aZ, .slice aA an ac, .int .i64 aE, .int .i64 aG])) rfl rfl (by kernel_rfl) (by kernel_rfl) (by kernel_rfl) (fun _ _ _ h => h) (by kernel_rfl) (run_load_blk 32 (.tmp 4) rfl w1.heap.size 32 #[.int .i64 aR, .int .i64 aN, .int .i64 aS, .int .i64 aB, .int .i64 aC, .int .i64 aT, .int .i64 aU, .int .i64 aK, .int .i64 aL, .int .i64 aQ, .string aY, .string aV, .int .i64 aZ, .slice aA an ac, .int .i64 aE, .int .i64 aG] _ rfl (fun _ h => h.1) Tryz.underlying32 rfl (by kernel_rfl)) hHeld ?_
    try simp only [List.setIfInBounds_toArray, List.set_cons_zero, List.set_cons_succ]
    refine held_take (i := 3) (d := 11) (v := (.agg #[.int .i64 x.kind, .int .u64 (x.num : Int), .string x.str, .slice A n c])) rfl rfl (by kernel_rfl) (by kernel_rfl) (by kernel_rfl) (fun _ _ _ h => h) (by kernel_rfl) (run_load_blk 36 (.tmp 1) rfl w.heap.size 36 #[.int .i64 x.kind, .int .u64 (x.num : Int), .string x.str, .slice A n c] _ rfl (fun _ h => h.2) Tryz.underlying36 rfl (by kernel_rfl)) hHeld ?_
    try simp only [List.setIfInBounds_toArray, List.set_cons_zero, List.set_cons_succ]
    refine wpAnyH_ready (rs := [2]) (by kernel_rfl) (by simp) ?_
    refine AllReadyH.cons rfl (fun K hK => ?_) AllReadyH.nil
    go_simp
    go_at_call 9
    refine (HIT.out _ (HRS.out.below HCUR.out)).mono ?_
    rintro e v1 ⟨V1, c1, rfl, hl1, hb1⟩
    have hnow := HCUR.out.trans (hb1.mono HCUR.out.size)
    have hcn := HCN.out v1 V1 c1 (hl1.more fun b hb _ => hb.2) (HL2.out _ hnow)
    have HC := Lib.hid hcn
    replace HCUR := Lib.hid hnow
    clear HIT hb1 hnow hl1 hcn HCN
    refine hK.out _ _ (by first | (with_reducible exact HS3.out) | (with_reducible exact ⟨HK2.out.bel HCUR.out, HX2.out.bel HCUR.out⟩)) (fun hHeld => ?_)
    clear hK K
    refine wpAnyH_ready (rs := [4]) (by kernel_rfl) (by simp) ?_
    refine AllReadyH.cons rfl (fun K hK => ?_) AllReadyH.nil
    go_simp
    go_at_call 29
    refine (HC.out).mono ?_
    rintro e v2 ⟨rfl, hb1⟩
    have hnow := HCUR.out.trans (hb1.mono HCUR.out.size)
    have HXX := Lib.hid (HR2.out.bel hnow)
    replace HCUR := Lib.hid hnow
    clear HC hb1 hnow
    refine hK.out _ _ (by first | (with_reducible exact HS3.out) | (with_reducible exact ⟨HK2.out.bel HCUR.out, HX2.out.bel HCUR.out⟩)) (fun hHeld => ?_)
    clear hK K
    refine held_take (i := 5) (d := 13) (v := (.agg #[.int .i64 0, .int .i64 0, .int .i64 0, .int .i64 0, .int .i64 0, .int .i64 0, .int .i64 0, .int .i64 0, .int .i64 0, .int .i64 0, .string ⟨#[]⟩, .string ⟨#[]⟩, .int .i64 0, .slice none 0 0, .int .i64 0, .int .i64 0])) rfl rfl (by kernel_rfl) (by kernel_rfl) (by kernel_rfl) (fun _ _ _ h => h) (by kernel_rfl) (fun w hSw => by (obtain hS := hSw); go_simp) hHeld ?_
    try simp only [List.setIfInBounds_toArray, List.set_cons_zero, List.set_cons_succ]
    refine held_take (i := 6) (d := 14) (v := (.bool false)) rfl rfl (by kernel_rfl) (by kernel_rfl) (by kernel_rfl) (fun _ _ _ h => h) (by kernel_rfl) (fun w hSw => by (obtain hS := hSw); go_simp) hHeld ?_
    try simp only [List.setIfInBounds_toArray, List.set_cons_zero, List.set_cons_succ]
    refine wpAnyH_ready (rs := [7]) (by kernel_rfl) (by simp) ?_
    refine AllReadyH.cons rfl (fun K hK => ?_) AllReadyH.nil
    refine step_store_blk rfl 32 (.tmp 2) (.tmp 13) rfl (w.heap.size + 1) 32 #[.int .i64 0, .int .i64 0, .int .i64 0, .int .i64 0, .int .i64 0, .int .i64 0, .int .i64 0, .int .i64 0, .int .i64 0, .int .i64 0, .string ⟨#[]⟩, .string ⟨#[]⟩, .int .i64 0, .slice none 0 0, .int .i64 0, .int .i64 0] #[.int .i64 0, .int .i64 0, .int .i64 0, .int .i64 0, .int .i64 0, .int .i64 0, .int .i64 0, .int .i64 0, .int .i64 0, .int .i64 0, .string ⟨#[]⟩, .string ⟨#[]⟩, .int .i64 0, .slice none 0 0, .int .i64 0, .int .i64 0] (by rfl) (by rfl) HXX.out (by kernel_rfl) rfl (by kernel_rfl) ?_
    intro w9 hblk2 hgr
    have HS3 := Lib.hid (And.intro ((HK2.out.bel HCUR.out).grown hgr (fun e => HN1.out (by injection e))) ((HX2.out.bel HCUR.out).grown hgr (fun e => HN2.out (by injection e))))
    have HBL := Lib.hid hblk2
    have HGR := Lib.hid hgr
    clear hblk2 hgr
    try simp only [Act.put]
    refine hK.out _ _ (by first | (with_reducible exact HS3.out) | (with_reducible exact ⟨HK2.out.bel HCUR.out, HX2.out.bel HCUR.out⟩)) (fun hHeld => ?_)
    clear hK K
    refine held_take (i := 8) (d := 3) (v := (.bool false)) rfl rfl (by kernel_rfl) (by kernel_rfl) (by kernel_rfl) (fun _ _ _ h => h) (by kernel_rfl) (fun w hSw => by (obtain hS := hSw); go_simp) hHeld ?_
    try simp only [List.setIfInBounds_toArray]
    refine wpAnyH_done (by kernel_rfl) ?_ _
    go_wp2_with fail
    refine bodyPost_ret (v := .tuple #[.agg #[.int .i64 0, .int .i64 0, .int .i64 0, .int .i64 0, .int .i64 0, .int .i64 0, .int .i64 0, .int .i64 0, .int .i64 0, .int .i64 0, .string ⟨#[]⟩, .string ⟨#[]⟩, .int .i64 0, .slice none 0 0, .int .i64 0, .int .i64 0], .bool false]) (results_blk_tmp Tryz.results8 _ _ (w.heap.size + 1) 32 _ _ _ rfl rfl HBL.out Tryz.underlying32 rfl (by kernel_rfl)) rfl ?_
    have hsz := HB0.out.size
    have hsw := HSW.out
    have hb9 : Below w.heap.size w w9 := (HB2.out.trans (HCUR.out.mono HB2.out.size)).trans (gr_below HGR.out (by have := HB2.out.size; have := HCUR.out.size; omega) fun b hb => by injection hb with hb; omega)
    rw [HTK.out]
    exact ⟨zeroRc, none, 0, 0, rfl, rfl, Rs.nil_ _, (fun g o e => by cases e), hb9⟩
  | true =>
    have HTK := Lib.hid (show takeRc x = some ⟨(aR, aN), aS, (aB, aC), (aT, aU), ⟨aK, aL, aQ, aY, aV, aZ⟩, ⟨al, aE, aG⟩⟩ from htk)
    have HCN : Hid (∀ v V1 c1, Lies v (fun b => b < v.heap.size) y V1 c1 → Lies v (fun b => b < v.heap.size) x A c → Calls Tryz.prog 29 _ v fun e w' => e = .returned (.tuple #[.agg #[.int .i64 aR, .int .i64 aN, .int .i64 aS, .int .i64 aB, .int .i64 aC, .int .i64 aT, .int .i64 aU, .int .i64 aK, .int .i64 aL, .int .i64 aQ, .string aY, .string aV, .int .i64 aZ, .slice aA an ac, .int .i64 aE, .int .i64 aG], .bool true]) ∧ Below v.heap.size v w') := Lib.hid hcn
    clear htk hcn
    refine wp_region_held_drew (S := (fun w' => Blk w' w1.heap.size 32 #[.int .i64 aR, .int .i64 aN, .int .i64 aS, .int .i64 aB, .int .i64 aC, .int .i64 aT, .int .i64 aU, .int .i64 aK, .int .i64 aL, .int .i64 aQ, .string aY, .string aV, .int .i64 aZ, .slice aA an ac, .int .i64 aE, .int .i64 aG] ∧ Blk w' w.heap.size 36 #[.int .i64 x.kind, .int .u64 (x.num : Int), .string x.str, .slice A n c])) (by kernel_rfl) (by first | (with_reducible exact HS3.out) | (with_reducible exact ⟨HK2.out.bel HCUR.out, HX2.out.bel HCUR.out⟩)) (fun hHeld => ?_)
    refine held_take (i := 0) (d := 8) (v := (.agg #[.int .i64 aR, .int .i64 aN, .int .i64 aS, .int .i64 aB, .int .i64 aC, .int .i64 aT, .int .i64 aU, .int .i64 aK, .int .i64 aL, .int .i64 aQ, .string aY, .string aV, .int .i64 aZ, .slice aA an ac, .int .i64 aE, .int .i64 aG])) rfl rfl (by kernel_rfl) (by kernel_rfl) (by kernel_rfl) (fun _ _ _ h => h) (by kernel_rfl) (run_load_blk 32 (.tmp 4) rfl w1.heap.size 32 #[.int .i64 aR, .int .i64 aN, .int .i64 aS, .int .i64 aB, .int .i64 aC, .int .i64 aT, .int .i64 aU, .int .i64 aK, .int .i64 aL, .int .i64 aQ, .string aY, .string aV, .int .i64 aZ, .slice aA an ac, .int .i64 aE, .int .i64 aG] _ rfl (fun _ h => h.1) Tryz.underlying32 rfl (by kernel_rfl)) hHeld ?_
    try simp only [List.setIfInBounds_toArray, List.set_cons_zero, List.set_cons_succ]
    refine held_take (i := 1) (d := 9) (v := (.agg #[.int .i64 aR, .int .i64 aN, .int .i64 aS, .int .i64 aB, .int .i64 aC, .int .i64 aT, .int .i64 aU, .int .i64 aK, .int .i64 aL, .int .i64 aQ, .string aY, .string aV, .int .i64 aZ, .slice aA an ac, .int .i64 aE, .int .i64 aG])) rfl rfl (by kernel_rfl) (by kernel_rfl) (by kernel_rfl) (fun _ _ _ h => h) (by kernel_rfl) (run_load_blk 32 (.tmp 4) rfl w1.heap.size 32 #[.int .i64 aR, .int .i64 aN, .int .i64 aS, .int .i64 aB, .int .i64 aC, .int .i64 aT, .int .i64 aU, .int .i64 aK, .int .i64 aL, .int .i64 aQ, .string aY, .string aV, .int .i64 aZ, .slice aA an ac, .int .i64 aE, .int .i64 aG] _ rfl (fun _ h => h.1) Tryz.underlying32 rfl (by kernel_rfl)) hHeld ?_
    try simp only [List.setIfInBounds_toArray, List.set_cons_zero, List.set_cons_succ]
    refine held_take (i := 3) (d := 11) (v := (.agg #[.int .i64 x.kind, .int .u64 (x.num : Int), .string x.str, .slice A n c])) rfl rfl (by kernel_rfl) (by kernel_rfl) (by kernel_rfl) (fun _ _ _ h => h) (by kernel_rfl) (run_load_blk 36 (.tmp 1) rfl w.heap.size 36 #[.int .i64 x.kind, .int .u64 (x.num : Int), .string x.str, .slice A n c] _ rfl (fun _ h => h.2) Tryz.underlying36 rfl (by kernel_rfl)) hHeld ?_
    try simp only [List.setIfInBounds_toArray, List.set_cons_zero, List.set_cons_succ]
    refine wpAnyH_ready (rs := [2]) (by kernel_rfl) (by simp) ?_
    refine AllReadyH.cons rfl (fun K hK => ?_) AllReadyH.nil
    go_simp
    go_at_call 9
    refine (HIT.out _ (HRS.out.below HCUR.out)).mono ?_
    rintro e v1 ⟨V1, c1, rfl, hl1, hb1⟩
    have hnow := HCUR.out.trans (hb1.mono HCUR.out.size)
    have hcn := HCN.out v1 V1 c1 (hl1.more fun b hb _ => hb.2) (HL2.out _ hnow)
    have HC := Lib.hid hcn
    replace HCUR := Lib.hid hnow
    clear HIT hb1 hnow hl1 hcn HCN
    refine hK.out _ _ (by first | (with_reducible exact HS3.out) | (with_reducible exact ⟨HK2.out.bel HCUR.out, HX2.out.bel HCUR.out⟩)) (fun hHeld => ?_)
    clear hK K
    refine wpAnyH_ready (rs := [4]) (by kernel_rfl) (by simp) ?_
    refine AllReadyH.cons rfl (fun K hK => ?_) AllReadyH.nil
    go_simp
    go_at_call 29
    refine (HC.out).mono ?_
    rintro e v2 ⟨rfl, hb1⟩
    have hnow := HCUR.out.trans (hb1.mono HCUR.out.size)
    have HXX := Lib.hid (HR2.out.bel hnow)
    replace HCUR := Lib.hid hnow
    clear HC hb1 hnow
    refine hK.out _ _ (by first | (with_reducible exact HS3.out) | (with_reducible exact ⟨HK2.out.bel HCUR.out, HX2.out.bel HCUR.out⟩)) (fun hHeld => ?_)
    clear hK K
    refine held_take (i := 5) (d := 13) (v := (.agg #[.int .i64 aR, .int .i64 aN, .int .i64 aS, .int .i64 aB, .int .i64 aC, .int .i64 aT, .int .i64 aU, .int .i64 aK, .int .i64 aL, .int .i64 aQ, .string aY, .string aV, .int .i64 aZ, .slice aA an ac, .int .i64 aE, .int .i64 aG])) rfl rfl (by kernel_rfl) (by kernel_rfl) (by kernel_rfl) (fun _ _ _ h => h) (by kernel_rfl) (fun w hSw => by (obtain hS := hSw); go_simp) hHeld ?_
    try simp only [List.setIfInBounds_toArray, List.set_cons_zero, List.set_cons_succ]
    refine held_take (i := 6) (d := 14) (v := (.bool true)) rfl rfl (by kernel_rfl) (by kernel_rfl) (by kernel_rfl) (fun _ _ _ h => h) (by kernel_rfl) (fun w hSw => by (obtain hS := hSw); go_simp) hHeld ?_
    try simp only [List.setIfInBounds_toArray, List.set_cons_zero, List.set_cons_succ]
    refine wpAnyH_ready (rs := [7]) (by kernel_rfl) (by simp) ?_
    refine AllReadyH.cons rfl (fun K hK => ?_) AllReadyH.nil
    refine step_store_blk rfl 32 (.tmp 2) (.tmp 13) rfl (w.heap.size + 1) 32 #[.int .i64 0, .int .i64 0, .int .i64 0, .int .i64 0, .int .i64 0, .int .i64 0, .int .i64 0, .int .i64 0, .int .i64 0, .int .i64 0, .string ⟨#[]⟩, .string ⟨#[]⟩, .int .i64 0, .slice none 0 0, .int .i64 0, .int .i64 0] #[.int .i64 aR, .int .i64 aN, .int .i64 aS, .int .i64 aB, .int .i64 aC, .int .i64 aT, .int .i64 aU, .int .i64 aK, .int .i64 aL, .int .i64 aQ, .string aY, .string aV, .int .i64 aZ, .slice aA an ac, .int .i64 aE, .int .i64 aG] (by rfl) (by rfl) HXX.out (by kernel_rfl) rfl (by kernel_rfl) ?_
    intro w9 hblk2 hgr
    have HS3 := Lib.hid (And.intro ((HK2.out.bel HCUR.out).grown hgr (fun e => HN1.out (by injection e))) ((HX2.out.bel HCUR.out).grown hgr (fun e => HN2.out (by injection e))))
    have HBL := Lib.hid hblk2
    have HGR := Lib.hid hgr
    clear hblk2 hgr
    try simp only [Act.put]
    refine hK.out _ _ (by first | (with_reducible exact HS3.out) | (with_reducible exact ⟨HK2.out.bel HCUR.out, HX2.out.bel HCUR.out⟩)) (fun hHeld => ?_)
    clear hK K
    refine held_take (i := 8) (d := 3) (v := (.bool true)) rfl rfl (by kernel_rfl) (by kernel_rfl) (by kernel_rfl) (fun _ _ _ h => h) (by kernel_rfl) (fun w hSw => by (obtain hS := hSw); go_simp) hHeld ?_
    try simp only [List.setIfInBounds_toArray]
    refine wpAnyH_done (by kernel_rfl) ?_ _
    go_wp2_with fail
    refine bodyPost_ret (v := .tuple #[.agg #[.int .i64 aR, .int .i64 aN, .int .i64 aS, .int .i64 aB, .int .i64 aC, .int .i64 aT, .int .i64 aU, .int .i64 aK, .int .i64 aL, .int .i64 aQ, .string aY, .string aV, .int .i64 aZ, .slice aA an ac, .int .i64 aE, .int .i64 aG], .bool true]) (results_blk_tmp Tryz.results8 _ _ (w.heap.size + 1) 32 _ _ _ rfl rfl HBL.out Tryz.underlying32 rfl (by kernel_rfl)) rfl ?_
    have hsz := HB0.out.size
    have hsw := HSW.out
    have hb9 : Below w.heap.size w w9 := (HB2.out.trans (HCUR.out.mono HB2.out.size)).trans (gr_below HGR.out (by have := HB2.out.size; have := HCUR.out.size; omega) fun b hb => by injection hb with hb; omega)
    rw [HTK.out]
    have hrs9 := (HRS.out.below HCUR.out).grown HGR.out (fun g o e => by have := HNEW.out g o e; intro e; injection e with e; omega)
    exact ⟨⟨(aR, aN), aS, (aB, aC), (aT, aU), ⟨aK, aL, aQ, aY, aV, aZ⟩, ⟨al, aE, aG⟩⟩, aA, an, ac, rfl, rfl, hrs9, (fun g o e => by have := HNEW.out g o e; omega), hb9⟩
end Go.Proofs.YtbjooblaamjppaaGreat.Rk
