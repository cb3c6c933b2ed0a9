/-
  Ids in memory, of no program's walk: 'Rs' (a slice holds these ids), what keeps it, appends of ids onto a row of the call's own.
-/
import Derived.Test.YtccbkpdkmdnmfaaIdsPlain
import Derived.Test.YtccbkpdkmdnmfaaMem
namespace Go.Proofs.Ytccbkpdkmdnmfaa.Ids
open Go.RowKit Mem

/-- The two cells of an id; those of a list. -/
def enc (x : Int × Int) : List Value := [.int .i64 x.1, .int .i64 x.2]
def cells (l : List (Int × Int)) : List Value := l.flatMap enc
theorem length_cells (l : List (Int × Int)) : (cells l).length = l.length * 2 := by
  induction l with
  | nil => rfl
  | cons a l ih => simp [cells, enc] at *; omega
theorem cells_append (a b : List (Int × Int)) : cells (a ++ b) = cells a ++ cells b := by simp [cells]
theorem cells_one (l : List (Int × Int)) : ∀ u ∈ cells l, u.oneCell' = true := by
  intro u hu
  obtain ⟨x, _, hx⟩ := List.mem_flatMap.1 hu
  simp [enc] at hx
  rcases hx with rfl | rfl <;> rfl
theorem cells_at : ∀ (l : List (Int × Int)) (k : Nat) (x : Int × Int), l[k]? = some x → (cells l)[k * 2]? = some (.int .i64 x.1) ∧ (cells l)[k * 2 + 1]? = some (.int .i64 x.2)
  | [], k, x, h => by simp at h
  | y :: l, 0, x, h => by
    simp at h
    subst h
    exact ⟨rfl, rfl⟩
  | y :: l, k + 1, x, h => by
    have := cells_at l k x (by simpa using h)
    have e : cells (y :: l) = .int .i64 y.1 :: .int .i64 y.2 :: cells l := rfl
    rw [e, show (k + 1) * 2 = k * 2 + 1 + 1 by omega]
    simpa using this
theorem cells_of : ∀ (l : List (Int × Int)) (j : Nat) (u : Value), (cells l)[j]? = some u → ∃ x, l[j / 2]? = some x ∧ (j % 2 = 0 ∧ u = .int .i64 x.1 ∨ j % 2 = 1 ∧ u = .int .i64 x.2)
  | [], j, u, h => by simp [cells] at h
  | y :: l, 0, u, h => by
    have e : cells (y :: l) = .int .i64 y.1 :: .int .i64 y.2 :: cells l := rfl
    rw [e] at h
    simp at h
    exact ⟨y, rfl, .inl ⟨rfl, h.symm⟩⟩
  | y :: l, 1, u, h => by
    have e : cells (y :: l) = .int .i64 y.1 :: .int .i64 y.2 :: cells l := rfl
    rw [e] at h
    simp at h
    exact ⟨y, rfl, .inr ⟨rfl, h.symm⟩⟩
  | y :: l, j + 2, u, h => by
    have e : cells (y :: l) = .int .i64 y.1 :: .int .i64 y.2 :: cells l := rfl
    rw [e] at h
    obtain ⟨x, hx, h2⟩ := cells_of l j u (by simpa using h)
    refine ⟨x, ?_, ?_⟩
    · rw [show (j + 2) / 2 = j / 2 + 1 by omega]
      simpa using hx
    · rw [show (j + 2) % 2 = j % 2 by omega]
      exact h2

/-- The slice value '.slice A n c' holds the ids l. -/
structure Rs (w : World) (A : Option Addr) (n c : Nat) (l : List (Int × Int)) : Prop where
  len : l.length = n
  le : n ≤ c
  cap : c ≤ maxLen
  nil : A = none → c = 0
  spot : 0 < n → ∃ g o, A = some ⟨g, o, none⟩ ∧ g < w.heap.size ∧ ∀ j x, l[j]? = some x → w.cell? ⟨g, o + j * 2, none⟩ = some (.int .i64 x.1) ∧ w.cell? ⟨g, o + j * 2 + 1, none⟩ = some (.int .i64 x.2)
section
variable {w w' : World} {A : Option Addr} {n c : Nat} {l : List (Int × Int)}
theorem Rs.nil_ (w : World) : Rs w none 0 0 [] := ⟨rfl, Nat.le_refl _, by simp [maxLen], fun _ => rfl, fun h => absurd h (by omega)⟩
theorem Rs.keep (h : Rs w A n c l) (hs : w.heap.size ≤ w'.heap.size) (hk : ∀ p : Addr, p.block < w.heap.size → w'.cell? p = w.cell? p) : Rs w' A n c l :=
  ⟨h.len, h.le, h.cap, h.nil, fun hn => by
    obtain ⟨g, o, e, hb, hc⟩ := h.spot hn
    exact ⟨g, o, e, by omega, fun j x hx => ⟨(hk ⟨g, o + j * 2, none⟩ hb).trans (hc j x hx).1, (hk ⟨g, o + j * 2 + 1, none⟩ hb).trans (hc j x hx).2⟩⟩⟩
theorem Rs.below (h : Rs w A n c l) (hb : Below w.heap.size w w') : Rs w' A n c l := h.keep hb.size fun _ hp => hb.cell hp
theorem Rs.alloc (h : Rs w A n c l) (o : Obj) : Rs (w.alloc o) A n c l := h.keep (by simp) fun p hp => World.cell?_alloc_lt w o p hp
theorem Rs.drewN (h : Rs w A n c l) (k : Nat) : Rs (w.drewN k) A n c l := ⟨h.len, h.le, h.cap, h.nil, h.spot⟩
theorem Rs.drew (h : Rs w A n c l) : Rs w.drew A n c l := ⟨h.len, h.le, h.cap, h.nil, h.spot⟩
/-- Behind a world that has kept all blocks but those of S, where the slice doesn't lie. -/
theorem Rs.grown {row : Option Nat} (h : Rs w A n c l) (hg : w.grownBy w' row) (hr : ∀ g o, A = some ⟨g, o, none⟩ → some g ≠ row) : Rs w' A n c l :=
  ⟨h.len, h.le, h.cap, h.nil, fun hn => by
    obtain ⟨g, o, e, hb, hc⟩ := h.spot hn
    have hk : ∀ p : Addr, p.block = g → w'.cell? p = w.cell? p := fun p hp => World.cell?_of_block (hg.block _ (by omega) (by rw [hp]; exact hr g o e))
    exact ⟨g, o, e, Nat.lt_of_lt_of_le hb hg.size, fun j x hx => ⟨(hk ⟨g, o + j * 2, none⟩ rfl).trans (hc j x hx).1, (hk ⟨g, o + j * 2 + 1, none⟩ rfl).trans (hc j x hx).2⟩⟩⟩
theorem Rs.at_ {k : Nat} (h : Rs w A n c l) (hk : k < n) : ∃ g o x, A = some ⟨g, o, none⟩ ∧ g < w.heap.size ∧ l[k]? = some x ∧ w.cell? ⟨g, o + k * 2, none⟩ = some (.int .i64 x.1) ∧ w.cell? ⟨g, o + k * 2 + 1, none⟩ = some (.int .i64 x.2) := by
  obtain ⟨g, o, e, hb, hc⟩ := h.spot (by omega)
  have hl : k < l.length := by have := h.len; omega
  exact ⟨g, o, l[k], e, hb, List.getElem?_eq_getElem hl, hc k _ (List.getElem?_eq_getElem hl)⟩
theorem Rs.none0 (h : Rs w A n c l) : A = none → n = 0 ∧ c = 0 := fun e => by have := h.nil e; have := h.le; omega
theorem Rs.raw (h : Rs w A n c l) : ∀ ad, A = some ad → ∀ j u, (cells l)[j]? = some u → w.cell? (ad.add j) = some u := by
  intro ad e j u hu
  obtain ⟨x, hx, h2⟩ := cells_of l j u hu
  have hj : j / 2 < n := by rw [← h.len]; exact (List.getElem?_eq_some_iff.1 hx).1
  obtain ⟨g, o, e', _, hc⟩ := h.spot (by omega)
  cases e.symm.trans e'
  rw [Addr.add_lit]
  rcases h2 with ⟨h2, rfl⟩ | ⟨h2, rfl⟩
  · have := (hc _ x hx).1
    rwa [show o + j / 2 * 2 = o + j by omega] at this
  · have := (hc _ x hx).2
    rwa [show o + j / 2 * 2 + 1 = o + j by omega] at this
/-- s[:k] -/
theorem Rs.take (h : Rs w A n c l) {k : Nat} (hk : k ≤ n) : Rs w A k c (l.take k) :=
  ⟨by rw [List.length_take, h.len]; omega, by have := h.le; omega, h.cap, h.nil, fun hk0 => by
    obtain ⟨g, o, e, hb, hc⟩ := h.spot (by omega)
    refine ⟨g, o, e, hb, fun j x hx => hc j x ?_⟩
    rw [List.getElem?_take] at hx
    split at hx
    · exact hx
    · cases hx⟩
/-- s[1:] -/
def tailA (A : Option Addr) (c : Nat) : Option Addr := if c = 1 then A else A.map (·.add 2)
theorem Rs.tail (h : Rs w A n c l) (hn : 1 ≤ n) : Rs w (tailA A c) (n - 1) (c - 1) l.tail := by
  have h1 := h.le
  have h2 := h.cap
  refine ⟨by rw [List.length_tail, h.len], by omega, by omega, fun e => ?_, fun h0 => ?_⟩
  · unfold tailA at e
    split at e
    · have := h.nil e; omega
    · have := h.nil (by simpa using e); omega
  · obtain ⟨g, o, rfl, hb, hc⟩ := h.spot (by omega)
    unfold tailA
    rw [if_neg (by omega)]
    refine ⟨g, o + 2, by rw [Option.map_some, Addr.add_lit], hb, fun j x hx => ?_⟩
    have := hc (j + 1) x (by rw [← hx, List.getElem?_tail])
    rwa [show o + (j + 1) * 2 = o + 2 + j * 2 by omega] at this
/-- What the call owns, it can read. -/
theorem Rs.of_own {base : Nat} {e : TypeId} {v : Value} (h : w.ownsRow base e 2 v n (cells l)) : ∃ A c, v = .slice A n c ∧ Rs w A n c l := by
  have hl := h.1
  rw [length_cells] at hl
  rcases h.2 with ⟨rfl, rfl⟩ | ⟨g, cap, cur, rfl, hb, hg, hnc, hm, hs, ht⟩
  · exact ⟨none, 0, rfl, by omega, Nat.le_refl _, by simp [maxLen], fun _ => rfl, fun h => absurd h (by omega)⟩
  · refine ⟨some ⟨g, 0, none⟩, cap, rfl, by omega, hnc, hm, (fun e => by cases e), fun _ => ⟨g, 0, rfl, (Array.getElem?_eq_some_iff.1 hg).1, fun j x hx => ?_⟩⟩
    obtain ⟨h1, h2⟩ := cells_at l j x hx
    have k1 := h.cells (g := g) rfl _ _ h1
    have k2 := h.cells (g := g) rfl _ _ h2
    rw [Addr.add_lit] at k1 k2
    exact ⟨k1, k2⟩
theorem Rs.own {base : Nat} {e : TypeId} {V : Option Addr} (h : w.ownsRow base e 2 (.slice V n c) n (cells l)) : Rs w V n c l := by
  obtain ⟨A, c', e, hr⟩ := Rs.of_own h
  cases e
  exact hr
end
theorem own_form {w : World} {base : Nat} {e : TypeId} {size : Nat} {v : Value} {n : Nat} {xs : List Value} (h : w.ownsRow base e size v n xs) : ∃ V c, v = .slice V n c := by
  rcases h.2 with ⟨rfl, rfl⟩ | ⟨g, cap, cur, rfl, _⟩
  · exact ⟨none, 0, rfl⟩
  · exact ⟨_, _, rfl⟩
/-- A slice literal of ids, just made. -/
theorem Rs.lit (w : World) (l : List (Int × Int)) (vs : Array Value) (t : TypeId) (n : Nat) (hv : vs.toList = cells l) (hn : l.length = n) (hm : n ≤ maxLen) : Rs (w.alloc (.cells vs t)) (some ⟨w.heap.size, 0, none⟩) n n l := by
  refine ⟨hn, Nat.le_refl _, hm, (fun e => by cases e), fun _ => ⟨_, _, rfl, by simp, fun j x hx => ?_⟩⟩
  obtain ⟨h1, h2⟩ := cells_at l j x hx
  rw [cell_of_row _ _ _ _ _ _ (heap_alloc_new w _), cell_of_row _ _ _ _ _ _ (heap_alloc_new w _)]
  rw [← hv] at h1 h2
  rw [Nat.zero_add]
  exact ⟨by simpa using h1, by simpa using h2⟩

/-- 'append(v, x...)', v the call's own, x whatever slice of ids: a slice that the call owns; what lies below 'base' stays. -/
theorem wpList_append_rs {P : Program} {w : World} {ops : Array Oper} {rest : List Oper} {o : Oper} {a : Act} {Q : Exit → Act → World → Prop} (hgd : o.guard = none) (s x : Operand) (t : TypeId)
    (ho : o.op = .call { callee := .builtin .append, args := #[s, x], argTypes := #[t, t] })
    (base : Nat) (e : TypeId) (i : TypeInfo) (z : Value) (ht : P.underlying t = some (.slice e)) (hi : P.info? e = some i) (hz : i.zero = some z)
    (hsize : i.size = 2) (hby : i.bytes = 16) (hzs : z.cells.size = 2)
    (V : Option Addr) (n cv : Nat) (xs : List (Int × Int)) (hs : a.eval s = .slice V n cv) (hown : w.ownsRow base e 2 (.slice V n cv) n (cells xs))
    (A : Option Addr) (m c : Nat) (news : List (Int × Int)) (hx : a.eval x = .slice A m c) (hr : Rs w A m c news)
    (hsm : n + m ≤ 8796093022208) (hbase : base ≤ w.heap.size)
    (h : ∀ V' c' w', w'.ownsRow base e 2 (.slice V' (n + m) c') (n + m) (cells (xs ++ news)) → w.grownBy w' (Value.slice V n cv).ownBlock → Below base w w' → wpList P ops Q rest (a.put o.dst (.slice V' (n + m) c')) w') : wpList P ops Q (o :: rest) a w := by
  rcases A with _ | ad
  · have hc : c = 0 := hr.nil rfl
    have hm : m = 0 := by have := hr.le; omega
    subst hc; subst hm
    have hn : news = [] := List.eq_nil_of_length_eq_zero hr.len
    subst hn
    refine wpList_append_own_none hgd s x t ho base e i 2 ht hi _ n (cells xs) hs hown hx ?_
    exact h V cv w (by simpa using hown) (World.grownBy.refl _ _) (Below.refl _ _)
  · refine wpList_append_own w hgd s x t ho base e i z 2 16 ht hi hz hsize hby hzs (by omega) _ n (cells xs) hs hown ad m c (cells news) hx (by rw [length_cells, hr.len]) (hr.raw _ rfl) (cells_one _) (by unfold maxLen; omega) (by omega) hbase
      fun v' w' hown' hg _ => ?_
    rw [← cells_append] at hown'
    obtain ⟨V', c', rfl, _⟩ := Rs.of_own hown'
    exact h V' c' w' hown' hg ((Below.refl _ _).grown hg hbase fun k hk => (hown.lt k hk).1)
end Go.Proofs.Ytccbkpdkmdnmfaa.Ids
