/-
  Texts of earlier layers, as one.
-/
import Derived.Test.YtpalmnjapiijaaaCompHeapOps
import Derived.Test.YtpalmnjapiijaaaCompOrd
/- The program's row in memory: its box, its components on their way to their places, the heap of those that are free. -/
namespace Go.Proofs.Ytpalmnjapiijaaa.Gr
open Go.RowKit Mem Dsk

/-- A component on its way: its nodes' slice, its places, the slice of those behind it, whether it is placed. -/
structure Pt where
  no : Hd
  a : Nat
  q : Nat
  be : Hd
  pl : Bool
def LP : Lay Pt := ⟨fun x => [hdV x.no, .int .i64 (x.a : Int), .int .i64 (x.q : Int), hdV x.be, .bool x.pl], 5, fun _ => rfl, fun x u hu => by
  simp only [List.mem_cons, List.not_mem_nil, or_false] at hu
  rcases hu with rfl | rfl | rfl | rfl | rfl <;> rfl, by omega⟩
structure PF where
  no : Nat → Hd
  a : Nat → Nat
  q : Nat → Nat
  be : Nat → Hd
  pl : Nat → Bool
def pt (f : PF) (k : Nat) : Pt := ⟨f.no k, f.a k, f.q k, f.be k, f.pl k⟩
def pts (f : PF) (K : Nat) : List Pt := (List.range K).map (pt f)
theorem pts_len (f : PF) (K : Nat) : (pts f K).length = K := by simp [pts]
theorem pts_at {f : PF} {K k : Nat} (h : k < K) : (pts f K)[k]? = some (pt f k) := by
  unfold pts
  rw [List.getElem?_map, List.getElem?_range h]
  rfl
theorem pts_set {f f' : PF} {K k : Nat} (hf : ∀ j, j ≠ k → pt f' j = pt f j) : (pts f K).set k (pt f' k) = pts f' K := by
  apply List.ext_getElem?
  intro j
  rw [List.getElem?_set, pts_len]
  by_cases hj : j < K
  · rw [pts_at hj]
    by_cases e : k = j
    · subst e
      rw [if_pos rfl, if_pos hj, pts_at hj]
    · rw [if_neg e, pts_at hj, hf j (fun e' => e e'.symm)]
  · rw [List.getElem?_eq_none (by rw [pts_len]; omega), List.getElem?_eq_none (by rw [pts_len]; omega)]
    by_cases e : k = j
    · subst e
      rw [if_pos rfl, if_neg hj]
    · rw [if_neg e]
theorem pts_succ (f : PF) (K : Nat) : pts f (K + 1) = pts f K ++ [pt f K] := by
  unfold pts
  rw [List.range_succ, List.map_append]
  rfl
theorem pts_congr {f f' : PF} {K : Nat} (h : ∀ j, j < K → pt f' j = pt f j) : pts f' K = pts f K := by
  unfold pts
  exact List.map_congr_left fun j hj => h j (List.mem_range.1 hj)
theorem upd_id {α : Type} (f : Nat → α) (i : Nat) : upd f i (f i) = f := by
  funext v
  unfold upd
  split
  · rename_i h; rw [h]
  · rfl
/-- One field of one of them is written. -/
theorem hdr_fld {w : World} {g cg k i : Nat} {t : TypeId} {d : List Pt} {x y : Pt} {u : Value} (h : Hdr LP w g t cg d) (hk : d[k]? = some x) (hi : i < 5) (hy : LP.enc y = (LP.enc x).set i u) : Hdr LP (w.setCell ⟨g, k * 5 + i, none⟩ u) g t cg (d.set k y) := by
  obtain ⟨vs, h1, h2, h3, h4, h5⟩ := h
  have hkl := (List.getElem?_eq_some_iff.1 hk).1
  have h2 : vs.size = cg * 5 := h2
  refine ⟨vs.setIfInBounds (k * 5 + i) u, h1.put _ _, by rw [Array.size_setIfInBounds]; exact h2, h3, by rw [List.length_set]; exact h4, fun j z hz i' v hv => ?_⟩
  have hi' : i' < 5 := by
    have := (List.getElem?_eq_some_iff.1 hv).1
    rw [LP.len] at this
    exact this
  show (vs.setIfInBounds (k * 5 + i) u)[j * 5 + i']? = some v
  rw [List.getElem?_set] at hz
  by_cases e : k = j
  · subst e
    rw [if_pos rfl, if_pos hkl] at hz
    injection hz with hz
    subst hz
    rw [hy, List.getElem?_set, LP.len] at hv
    rw [Array.getElem?_setIfInBounds]
    by_cases e2 : i = i'
    · subst e2
      rw [if_pos rfl, if_pos (by show i < 5; exact hi)] at hv
      rw [if_pos rfl, if_pos (by omega)]
      exact hv
    · rw [if_neg e2] at hv
      rw [if_neg (by omega)]
      exact h5 k x hk i' v hv
  · rw [if_neg e] at hz
    rw [Array.getElem?_setIfInBounds, if_neg (by omega)]
    exact h5 j z hz i' v hv
structure RM (w0 : World) (A : Option Addr) (n c p bo g cg : Nat) (w : World) (col : Nat → Nat) (of : Nat → Nat) (f : PF) (K : Nat) (NL BL : Nat → List Nat) (Af : Option Addr) (cf : Nat) (F : List Nat) : Prop where
  bel : Below w0.heap.size w0 w
  hn : Hq.HN w w0.heap.size col p (.slice A n c) (.slice (some ⟨bo, 0, none⟩) n n) (.slice (some ⟨g, 0, none⟩) K cg) Af cf F
  oc : col bo = 2
  gc : col g = 3
  ofr : w.rowIs bo 3 n (nrow of)
  prt : Hdr LP w g 53 cg (pts f K)
  nod : ∀ k, k < K → Own1 w w0.heap.size col (10 + 2 * k) (f.no k).1 (f.no k).2.1 (f.no k).2.2 (toZ (NL k))
  beh : ∀ k, k < K → Own1 w w0.heap.size col (11 + 2 * k) (f.be k).1 (f.be k).2.1 (f.be k).2.2 (toZ (BL k))
/-- What the row's calls turn. -/
def KA (q : Nat) : Prop := q = 1 ∨ q = 2 ∨ q = 3 ∨ q = 4 ∨ 10 ≤ q
theorem ka0 : ¬ KA 0 := by unfold KA; omega
section
variable {w0 w w1 w' : World} {A : Option Addr} {n c p bo g cg : Nat} {col col' : Nat → Nat} {of : Nat → Nat} {f : PF} {K : Nat} {NL BL : Nat → List Nat} {Af : Option Addr} {cf : Nat} {F : List Nat}
theorem RM.lo (h : RM w0 A n c p bo g cg w col of f K NL BL Af cf F) : Lo w0.heap.size w col := h.hn.lo
theorem RM.turn (h : RM w0 A n c p bo g cg w col of f K NL BL Af cf F) (hb : Below w.heap.size w w') : RM w0 A n c p bo g cg w' col of f K NL BL Af cf F := by
  have t := fun k => Turns.ofBelow hb k col
  exact ⟨(t 5).below h.bel h.lo (by omega), h.hn.bel hb, h.oc, h.gc, (t 5).row h.ofr h.oc (by omega), h.prt.bel hb, fun k hk => (t 5).own (h.nod k hk) (by omega) (by omega), fun k hk => (t 5).own (h.beh k hk) (by omega) (by omega)⟩
theorem RM.heap {Af' : Option Addr} {cf' : Nat} {F' : List Nat} (h : RM w0 A n c p bo g cg w col of f K NL BL Af cf F) (ht : Hq.Trn Hq.KH w col w' col') (hn : Hq.HN w' w0.heap.size col' p (.slice A n c) (.slice (some ⟨bo, 0, none⟩) n n) (.slice (some ⟨g, 0, none⟩) K cg) Af' cf' F') : RM w0 A n c p bo g cg w' col' of f K NL BL Af' cf' F' := by
  have hg : ¬ Hq.KH (col g) := by rw [h.gc]; unfold Hq.KH; omega
  exact ⟨ht.below h.bel h.lo Hq.kh0, hn, ht.cl h.oc (by omega), ht.cl h.gc (by omega), ht.row h.ofr h.oc (by unfold Hq.KH; omega), h.prt.keep (ht.blk g h.prt.lt hg), fun k hk => ht.own (h.nod k hk) (by unfold Hq.KH; omega) (by omega), fun k hk => ht.own (h.beh k hk) (by unfold Hq.KH; omega) (by omega)⟩
/-- A part's field is written, its rows another ones of their colours. -/
theorem RM.put {q k i : Nat} {u : Value} {f' : PF} {N' B' : List Nat} (h : RM w0 A n c p bo g cg w col of f K NL BL Af cf F) (hk : k < K) (t1 : Turns q w col w1 col') (hq : q = 10 + 2 * k ∨ q = 11 + 2 * k) (hf : ∀ j, j ≠ k → pt f' j = pt f j) (hi : i < 5) (hy : LP.enc (pt f' k) = (LP.enc (pt f k)).set i u)
    (hno : Own1 w1 w0.heap.size col' (10 + 2 * k) (f'.no k).1 (f'.no k).2.1 (f'.no k).2.2 (toZ N')) (hbe : Own1 w1 w0.heap.size col' (11 + 2 * k) (f'.be k).1 (f'.be k).2.1 (f'.be k).2.2 (toZ B')) :
    RM w0 A n c p bo g cg (w1.setCell ⟨g, k * 5 + i, none⟩ u) col' of f' K (upd NL k N') (upd BL k B') Af cf F ∧ Hq.Trn KA w col (w1.setCell ⟨g, k * 5 + i, none⟩ u) col' := by
  have gc := t1.cl h.gc (by omega)
  have t : Turns 3 w1 col' _ col' := Turns.set (w := w1) (i := k * 5 + i) gc u
  have b1 := t1.below h.bel h.lo (by omega)
  have l1 := t1.lo h.lo h.bel.size
  have hp1 : Hdr LP w1 g 53 cg (pts f K) := h.prt.keep (t1.blk g h.prt.lt (by rw [h.gc]; omega))
  have hpf := hdr_fld hp1 (pts_at hk) hi hy
  rw [pts_set hf] at hpf
  have hsame : ∀ j, j ≠ k → f'.no j = f.no j ∧ f'.be j = f.be j := fun j hj => by
    have := hf j hj
    exact ⟨congrArg Pt.no this, congrArg Pt.be this⟩
  refine ⟨⟨t.below b1 l1 (by omega), ⟨t.lo l1 b1.size, t1.cl h.hn.pc (by omega), t.hblk (t1.hblk h.hn.box h.hn.pc (by omega)) (t1.cl h.hn.pc (by omega)) (by omega), t.own (t1.own h.hn.row (by omega) (by omega)) (by omega) (by omega)⟩, t1.cl h.oc (by omega), gc, t.row (t1.row h.ofr h.oc (by omega)) (t1.cl h.oc (by omega)) (by omega), hpf, fun j hj => ?_, fun j hj => ?_⟩, (Hq.Trn.of (K := KA) t1 (by unfold KA; omega)).trans (Hq.Trn.of (K := KA) t (by unfold KA; omega)) ka0⟩
  · by_cases e : j = k
    · subst e
      rw [upd_same]
      exact t.own hno (by omega) (by omega)
    · rw [upd_other e, (hsame j e).1]
      exact t.own (t1.own (h.nod j hj) (by omega) (by omega)) (by omega) (by omega)
  · by_cases e : j = k
    · subst e
      rw [upd_same]
      exact t.own hbe (by omega) (by omega)
    · rw [upd_other e, (hsame j e).2]
      exact t.own (t1.own (h.beh j hj) (by omega) (by omega)) (by omega) (by omega)
theorem RM.setA (h : RM w0 A n c p bo g cg w col of f K NL BL Af cf F) {k : Nat} (hk : k < K) (t : Nat) : RM w0 A n c p bo g cg (w.setCell ⟨g, k * 5 + 1, none⟩ (.int .i64 (t : Int))) col of { f with a := upd f.a k t } K NL BL Af cf F ∧ Hq.Trn KA w col (w.setCell ⟨g, k * 5 + 1, none⟩ (.int .i64 (t : Int))) col := by
  have := h.put (f' := { f with a := upd f.a k t }) (N' := NL k) (B' := BL k) (i := 1) (u := .int .i64 (t : Int)) hk (Turns.refl (10 + 2 * k) w col) (.inl rfl) (fun j hj => by unfold pt; simp only [upd_other hj]) (by omega) (by unfold pt LP; simp [upd_same]) (h.nod k hk) (h.beh k hk)
  rw [upd_id, upd_id] at this
  exact this
theorem RM.setQ (h : RM w0 A n c p bo g cg w col of f K NL BL Af cf F) {k : Nat} (hk : k < K) (t : Nat) : RM w0 A n c p bo g cg (w.setCell ⟨g, k * 5 + 2, none⟩ (.int .i64 (t : Int))) col of { f with q := upd f.q k t } K NL BL Af cf F ∧ Hq.Trn KA w col (w.setCell ⟨g, k * 5 + 2, none⟩ (.int .i64 (t : Int))) col := by
  have := h.put (f' := { f with q := upd f.q k t }) (N' := NL k) (B' := BL k) (i := 2) (u := .int .i64 (t : Int)) hk (Turns.refl (10 + 2 * k) w col) (.inl rfl) (fun j hj => by unfold pt; simp only [upd_other hj]) (by omega) (by unfold pt LP; simp [upd_same]) (h.nod k hk) (h.beh k hk)
  rw [upd_id, upd_id] at this
  exact this
theorem RM.setPl (h : RM w0 A n c p bo g cg w col of f K NL BL Af cf F) {k : Nat} (hk : k < K) (b : Bool) : RM w0 A n c p bo g cg (w.setCell ⟨g, k * 5 + 4, none⟩ (.bool b)) col of { f with pl := upd f.pl k b } K NL BL Af cf F ∧ Hq.Trn KA w col (w.setCell ⟨g, k * 5 + 4, none⟩ (.bool b)) col := by
  have := h.put (f' := { f with pl := upd f.pl k b }) (N' := NL k) (B' := BL k) (i := 4) (u := .bool b) hk (Turns.refl (10 + 2 * k) w col) (.inl rfl) (fun j hj => by unfold pt; simp only [upd_other hj]) (by omega) (by unfold pt LP; simp [upd_same]) (h.nod k hk) (h.beh k hk)
  rw [upd_id, upd_id] at this
  exact this
/-- Those behind k are another row. -/
theorem RM.setBe (h : RM w0 A n c p bo g cg w col of f K NL BL Af cf F) {k : Nat} (hk : k < K) {V : Option Addr} {m c' : Nat} {B' : List Nat} (t1 : Turns (11 + 2 * k) w col w1 col') (hr : Own1 w1 w0.heap.size col' (11 + 2 * k) V m c' (toZ B')) :
    RM w0 A n c p bo g cg (w1.setCell ⟨g, k * 5 + 3, none⟩ (.slice V m c')) col' of { f with be := upd f.be k (V, m, c') } K NL (upd BL k B') Af cf F ∧ Hq.Trn KA w col (w1.setCell ⟨g, k * 5 + 3, none⟩ (.slice V m c')) col' := by
  have := h.put (f' := { f with be := upd f.be k (V, m, c') }) (N' := NL k) (B' := B') (i := 3) (u := .slice V m c') hk t1 (.inr rfl) (fun j hj => by unfold pt; simp only [upd_other hj]) (by omega) (by unfold pt LP; simp [upd_same, hdV]) (t1.own (h.nod k hk) (by omega) (by omega)) (by simp only [upd_same]; exact hr)
  rw [upd_id] at this
  exact this
/-- k's nodes are another row. -/
theorem RM.setNo (h : RM w0 A n c p bo g cg w col of f K NL BL Af cf F) {k : Nat} (hk : k < K) {V : Option Addr} {m c' : Nat} {N' : List Nat} (t1 : Turns (10 + 2 * k) w col w1 col') (hr : Own1 w1 w0.heap.size col' (10 + 2 * k) V m c' (toZ N')) :
    RM w0 A n c p bo g cg (w1.setCell ⟨g, k * 5 + 0, none⟩ (.slice V m c')) col' of { f with no := upd f.no k (V, m, c') } K (upd NL k N') BL Af cf F ∧ Hq.Trn KA w col (w1.setCell ⟨g, k * 5 + 0, none⟩ (.slice V m c')) col' := by
  have := h.put (f' := { f with no := upd f.no k (V, m, c') }) (N' := N') (B' := BL k) (i := 0) (u := .slice V m c') hk t1 (.inl rfl) (fun j hj => by unfold pt; simp only [upd_other hj]) (by omega) (by unfold pt LP; simp [upd_same, hdV]) (by simp only [upd_same]; exact hr) (t1.own (h.beh k hk) (by omega) (by omega))
  rw [upd_id] at this
  exact this
/-- The box's cells, a part's cells. -/
theorem RM.cells (h : RM w0 A n c p bo g cg w col of f K NL BL Af cf F) : w.cell? ⟨p, 0, none⟩ = some (.slice A n c) ∧ w.cell? ⟨p, 1, none⟩ = some (.slice (some ⟨bo, 0, none⟩) n n) ∧ w.cell? ⟨p, 2, none⟩ = some (.slice (some ⟨g, 0, none⟩) K cg) ∧ w.cell? ⟨p, 3, none⟩ = some (.slice Af F.length cf) :=
  ⟨by rw [h.hn.box.cell]; rfl, by rw [h.hn.box.cell]; rfl, by rw [h.hn.box.cell]; rfl, by rw [h.hn.box.cell]; rfl⟩
theorem RM.part (h : RM w0 A n c p bo g cg w col of f K NL BL Af cf F) {k : Nat} (hk : k < K) : w.cell? ⟨g, k * 5, none⟩ = some (.slice (f.no k).1 (f.no k).2.1 (f.no k).2.2) ∧ w.cell? ⟨g, k * 5 + 1, none⟩ = some (.int .i64 (f.a k : Int)) ∧ w.cell? ⟨g, k * 5 + 2, none⟩ = some (.int .i64 (f.q k : Int)) ∧
    w.cell? ⟨g, k * 5 + 3, none⟩ = some (.slice (f.be k).1 (f.be k).2.1 (f.be k).2.2) ∧ w.cell? ⟨g, k * 5 + 4, none⟩ = some (.bool (f.pl k)) := by
  have := h.prt.at_ (pts_at hk)
  exact ⟨this 0 _ rfl, this 1 _ rfl, this 2 _ rfl, this 3 _ rfl, this 4 _ rfl⟩
theorem RM.soft (h : RM w0 A n c p bo g cg w col of f K NL BL Af cf F) (i : Nat) : w.frozen? ⟨g, i, none⟩ = false := by
  obtain ⟨vs, h1, _⟩ := h.prt
  exact h1.soft i
theorem RM.kle (h : RM w0 A n c p bo g cg w col of f K NL BL Af cf F) : K ≤ cg ∧ cg ≤ maxLen := by
  obtain ⟨vs, _, _, h3, h4, _⟩ := h.prt
  rw [pts_len] at h4
  exact ⟨h4, h3⟩
end
end Go.Proofs.Ytpalmnjapiijaaa.Gr
