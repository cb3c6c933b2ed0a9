/-
  Texts of earlier layers, as one.
-/
import Derived.Test.YtkejjdoaljoooaaGreatDoorRBase
import Derived.Test.YtkejjdoaljoooaaGreatDoorChecked
import Derived.Laws.StructEq
import Derived.Sort.Grow
import Derived.WideLaws
import Derived.Shelf.SlSortCmp.QuietGrown
import Derived.Test.YtkejjdoaljoooaaGreatDoorShelf
/- Ids and sets of them as plain lists, of no program: their order, rising lists, the set of a list, joining, what is right. -/
namespace Go.Proofs.YtkejjdoaljoooaaGreatDoor.Ids
open Lib (hid)
def lt (a b : Int × Int) : Bool := decide (a.2 < b.2) || (decide (a.2 = b.2) && decide (a.1 < b.1))
theorem lt_iff {a b : Int × Int} : lt a b = true ↔ a.2 < b.2 ∨ a.2 = b.2 ∧ a.1 < b.1 := by simp [lt]
theorem lt_false {a b : Int × Int} : lt a b = false ↔ ¬ (a.2 < b.2 ∨ a.2 = b.2 ∧ a.1 < b.1) := by rw [← lt_iff]; simp
theorem lt_irrefl (a : Int × Int) : lt a a = false := by rw [lt_false]; omega
theorem lt_trans {a b c : Int × Int} (h : lt a b = true) (k : lt b c = true) : lt a c = true := by rw [lt_iff] at *; omega
theorem lt_asymm {a b : Int × Int} (h : lt a b = true) : lt b a = false := by rw [lt_iff] at h; rw [lt_false]; omega
theorem lt_tri {a b : Int × Int} (h : lt a b = false) (k : lt b a = false) : a = b := by
 rw [lt_false] at h k;exact Prod.ext (by omega) (by omega)
theorem lt_ne {a b : Int × Int} (h : lt a b = true) : a ≠ b := fun e => by subst e; rw [lt_irrefl] at h; cases h
theorem lt_le {a b c : Int × Int} (h : lt a b = true) (k : lt c b = false) : lt a c = true := by
 rw [lt_iff] at *; rw [lt_false] at k; omega
def Up (l : List (Int × Int)) : Prop := l.Pairwise fun a b => lt a b = true
theorem up_nil : Up [] := List.Pairwise.nil
theorem up_cons {a : Int × Int} {l : List (Int × Int)} : Up (a :: l) ↔ (∀ x ∈ l, lt a x = true) ∧ Up l := List.pairwise_cons
theorem up_append {a b : List (Int × Int)} : Up (a ++ b) ↔ Up a ∧ Up b ∧ ∀ x ∈ a, ∀ y ∈ b, lt x y = true := List.pairwise_append
theorem Up.filter {l : List (Int × Int)} (h : Up l) (p : Int × Int → Bool) : Up (l.filter p) := List.Pairwise.filter p h
theorem up_unique : ∀ (r s : List (Int × Int)), Up r → Up s → (∀ x, x ∈ r ↔ x ∈ s) → r = s
 | [], [], _, _, _ => rfl
 | [], b :: s, _, _, h => absurd ((h b).2 (by simp)) (by simp)
 | a :: r, [], _, _, h => absurd ((h a).1 (by simp)) (by simp)
 | a :: r, b :: s, hr, hs, h => by
   rw [up_cons] at hr hs
   have hab : a = b := by
    rcases List.mem_cons.1 ((h a).1 (by simp)) with e | e
    · exact e
    · rcases List.mem_cons.1 ((h b).2 (by simp)) with e' | e'
      · exact e'.symm
      · have h1 := hs.1 a e
        have h2 := lt_asymm (hr.1 b e');rw [h1] at h2;cases h2
   subst hab;rw [up_unique r s hr.2 hs.2 fun x => ?_];have hx := h x;constructor
   · intro hm
     rcases List.mem_cons.1 (hx.1 (List.mem_cons_of_mem _ hm)) with e | e
     · exact absurd e.symm (lt_ne (hr.1 x hm))
     · exact e
   · intro hm
     rcases List.mem_cons.1 (hx.2 (List.mem_cons_of_mem _ hm)) with e | e
     · exact absurd e.symm (lt_ne (hs.1 x hm))
     · exact e
def dd : List (Int × Int) → List (Int × Int)
 | [] => []
 | [x] => [x]
 | x :: y :: l => if x = y then dd (y :: l) else x :: dd (y :: l)
theorem mem_dd (x : Int × Int) : ∀ l, x ∈ dd l ↔ x ∈ l
 | [] => by simp [dd]
 | [y] => by simp [dd]
 | y :: z :: l => by
   have ih := mem_dd x (z :: l);rw [dd];split
   · rename_i e
     subst e;rw [ih];simp
   · rw [List.mem_cons, ih, List.mem_cons (a := x) (b := y)]
theorem length_dd : ∀ l : List (Int × Int), (dd l).length ≤ l.length
 | [] => by simp [dd]
 | [y] => by simp [dd]
 | y :: z :: l => by
   have ih := length_dd (z :: l);rw [dd];split
   · simp at *; omega
   · simp at *; omega
theorem dd_snoc : ∀ (l : List (Int × Int)) (a b : Int × Int), dd (l ++ [a, b]) = dd (l ++ [a]) ++ if a = b then [] else [b]
 | [], a, b => by
   by_cases h : a = b <;> simp [dd, h]
 | [x], a, b => by
   have ih := dd_snoc [] a b;simp only [List.nil_append] at ih;have e1 : dd ([x] ++ [a, b]) = if x = a then dd [a, b] else x :: dd [a, b] := rfl
   have e2 : dd ([x] ++ [a]) = if x = a then dd [a] else x :: dd [a] := rfl
   rw [e1, e2, ih];split <;> simp
 | x :: y :: l, a, b => by
   have ih := dd_snoc (y :: l) a b;have e1 : dd (x :: y :: l ++ [a, b]) = if x = y then dd (y :: l ++ [a, b]) else x :: dd (y :: l ++ [a, b]) := rfl
   have e2 : dd (x :: y :: l ++ [a]) = if x = y then dd (y :: l ++ [a]) else x :: dd (y :: l ++ [a]) := rfl
   rw [e1, e2, ih];split <;> simp
theorem up_dd : ∀ l : List (Int × Int), (l.Pairwise fun a b => lt b a = false) → Up (dd l)
 | [], _ => up_nil
 | [y], _ => by simp [dd, Up]
 | y :: z :: l, h => by
   rw [List.pairwise_cons] at h;have ih := up_dd (z :: l) h.2;rw [dd];split
   · exact ih
   · rename_i hne
     refine up_cons.2 ⟨fun x hx => ?_, ih⟩;rw [mem_dd] at hx
     have hz : lt y z = true := by
      cases e : lt y z with
      | true => rfl
      | false => exact absurd (lt_tri e (h.1 z (by simp))) hne
     rcases List.mem_cons.1 hx with rfl | hx
     · exact hz
     · exact lt_le hz ((List.pairwise_cons.1 h.2).1 x hx)
def setl (l : List (Int × Int)) : List (Int × Int) := dd (l.mergeSort fun x y => !lt y x)
theorem sorted_ms (l : List (Int × Int)) : (l.mergeSort fun x y => !lt y x).Pairwise fun a b => lt b a = false := by
 have h := List.pairwise_mergeSort (le := fun x y : Int × Int => !lt y x) (fun a b c h1 h2 => by
  simp only [Bool.not_eq_true'] at *;rw [lt_false] at *;omega) (fun a b => by
  cases e : lt b a with
  | false => rfl
  | true => simp [lt_asymm e]) l
 exact h.imp fun h => by simpa using h
theorem up_setl (l : List (Int × Int)) : Up (setl l) := up_dd _ (sorted_ms l)
theorem mem_setl (l : List (Int × Int)) (x : Int × Int) : x ∈ setl l ↔ x ∈ l := by rw [setl, mem_dd]; exact (List.mergeSort_perm l _).mem_iff
theorem length_setl (l : List (Int × Int)) : (setl l).length ≤ l.length := by
 have := length_dd (l.mergeSort fun x y => !lt y x);rwa [(List.mergeSort_perm l _).length_eq] at this
theorem setl_eq {l r : List (Int × Int)} (hr : Up r) (h : ∀ x, x ∈ r ↔ x ∈ l) : r = setl l := up_unique r _ hr (up_setl l) fun x => (h x).trans (mem_setl l x).symm
def right (x : Int × Int) : Bool := decide (0 ≤ x.1 ∧ x.1 ≤ 6 ∧ 0 ≤ x.2 ∧ x.2 ≤ 1099511627776)
def Goods (l : List (Int × Int)) : Prop := (∀ x ∈ l, right x = true) ∧ Up l
instance (l : List (Int × Int)) : Decidable (Up l) := by unfold Up; exact inferInstance
instance (l : List (Int × Int)) : Decidable (Goods l) := by unfold Goods; exact inferInstance
def chk (l : List (Int × Int)) : Bool := decide (l.length ≤ 4096 ∧ Goods l)
theorem goods_nil : Goods [] := ⟨by simp, up_nil⟩
theorem goods_snoc (l : List (Int × Int)) (x : Int × Int) : Goods (l ++ [x]) ↔ Goods l ∧ right x = true ∧ ∀ y, l.getLast? = some y → lt y x = true := by
 unfold Goods;rw [up_append];constructor
 · rintro ⟨h1, h2, _, h4⟩
   exact ⟨⟨fun y hy => h1 y (by simp [hy]), h2⟩, h1 x (by simp), fun y hy => h4 y (List.mem_of_getLast? hy) x (by simp)⟩
 · rintro ⟨⟨h1, h2⟩, h3, h4⟩
   refine ⟨fun y hy => ?_, h2, by simp [Up], fun y hy z hz => ?_⟩
   · rcases List.mem_append.1 hy with hy | hy
     · exact h1 y hy
     · rw [List.mem_singleton.1 hy]; exact h3
   · rw [List.mem_singleton.1 hz]
     rcases List.eq_nil_or_concat l with rfl | ⟨l', u, rfl⟩
     · simp at hy
     · rw [List.concat_eq_append] at *
       have h5 := h4 u (by simp);rcases List.mem_append.1 hy with hy | hy
       · exact lt_trans ((up_append.1 h2).2.2 y hy u (by simp)) h5
       · rw [List.mem_singleton.1 hy]; exact h5
theorem count_at {l : List (Int × Int)} (h : Up l) (i : Int × Int) : ∀ k, l.countP (fun x => lt x i) = k → (i ∈ l ↔ l[k]? = some i) := by
 induction l with
 | nil => simp
 | cons a l ih =>
   intro k hk;have hu := up_cons.1 h;rw [List.countP_cons] at hk;by_cases ha : lt a i = true
   · rw [if_pos ha] at hk
     subst hk;rw [List.getElem?_cons_succ, ← ih hu.2 _ rfl, List.mem_cons];exact ⟨fun h => h.elim (fun e => absurd e.symm (lt_ne ha)) id, .inr⟩
   · rw [if_neg ha] at hk
     have h0 : l.countP (fun x => lt x i) = 0 := by
      rw [List.countP_eq_zero];intro x hx;have := hu.1 x hx;cases e : lt x i with
      | false => simp
      | true => exact absurd (lt_trans this e) ha
     rw [h0] at hk;subst hk;show i ∈ a :: l ↔ some a = some i;rw [List.mem_cons];constructor
     · rintro (rfl | hm)
       · rfl
       · exact absurd (hu.1 i hm) ha
     · intro h
       cases h;exact .inl rfl
theorem count_mono {l : List (Int × Int)} (h : Up l) (i : Int × Int) (a b : Nat) (hab : a ≤ b) (x y : Int × Int) (hx : l[a]? = some x) (hy : l[b]? = some y) (hp : lt x i = false) : lt y i = false := by
 rcases Nat.lt_or_eq_of_le hab with hlt | rfl
 · have hl : lt x y = true := by
    obtain ⟨ha', rfl⟩ := List.getElem?_eq_some_iff.1 hx;obtain ⟨hb', rfl⟩ := List.getElem?_eq_some_iff.1 hy;exact List.pairwise_iff_getElem.1 h a b ha' hb' hlt
   rw [lt_iff] at hl; rw [lt_false] at *; omega
 · rw [hx] at hy
   cases hy;exact hp
end Go.Proofs.YtkejjdoaljoooaaGreatDoor.Ids
/- Ids in memory, of no program's walk: 'Rs' (a slice holds these ids), what keeps it, appends of ids onto a row of the call's own. -/
namespace Go.Proofs.YtkejjdoaljoooaaGreatDoor.Ids
open Lib (hid)
open Go.RowKit Mem
def enc (x : Int × Int) : List Value := [.int .i64 x.1, .int .i64 x.2]
def cells (l : List (Int × Int)) : List Value := l.flatMap enc
theorem length_cells (l : List (Int × Int)) : (cells l).length = l.length * 2 := by
 induction l with
 | nil => rfl
 | cons a l ih => simp [cells, enc] at *; omega
theorem cells_append (a b : List (Int × Int)) : cells (a ++ b) = cells a ++ cells b := by simp [cells]
theorem cells_one (l : List (Int × Int)) : ∀ u ∈ cells l, u.oneCell' = true := by
 intro u hu;obtain ⟨x, _, hx⟩ := List.mem_flatMap.1 hu;simp [enc] at hx;rcases hx with rfl | rfl <;> rfl
theorem cells_at : ∀ (l : List (Int × Int)) (k : Nat) (x : Int × Int), l[k]? = some x → (cells l)[k * 2]? = some (.int .i64 x.1) ∧ (cells l)[k * 2 + 1]? = some (.int .i64 x.2)
 | [], k, x, h => by simp at h
 | y :: l, 0, x, h => by
   simp at h;subst h;exact ⟨rfl, rfl⟩
 | y :: l, k + 1, x, h => by
   have := cells_at l k x (by simpa using h);have e : cells (y :: l) = .int .i64 y.1 :: .int .i64 y.2 :: cells l := rfl;rw [e, show (k + 1) * 2 = k * 2 + 1 + 1 by omega];simpa using this
theorem cells_of : ∀ (l : List (Int × Int)) (j : Nat) (u : Value), (cells l)[j]? = some u → ∃ x, l[j / 2]? = some x ∧ (j % 2 = 0 ∧ u = .int .i64 x.1 ∨ j % 2 = 1 ∧ u = .int .i64 x.2)
 | [], j, u, h => by simp [cells] at h
 | y :: l, 0, u, h => by
   have e : cells (y :: l) = .int .i64 y.1 :: .int .i64 y.2 :: cells l := rfl;rw [e] at h;simp at h;exact ⟨y, rfl, .inl ⟨rfl, h.symm⟩⟩
 | y :: l, 1, u, h => by
   have e : cells (y :: l) = .int .i64 y.1 :: .int .i64 y.2 :: cells l := rfl;rw [e] at h;simp at h;exact ⟨y, rfl, .inr ⟨rfl, h.symm⟩⟩
 | y :: l, j + 2, u, h => by
   have e : cells (y :: l) = .int .i64 y.1 :: .int .i64 y.2 :: cells l := rfl;rw [e] at h;obtain ⟨x, hx, h2⟩ := cells_of l j u (by simpa using h);refine ⟨x, ?_, ?_⟩
   · rw [show (j + 2) / 2 = j / 2 + 1 by omega]
     simpa using hx
   · rw [show (j + 2) % 2 = j % 2 by omega]
     exact h2
structure Rs (w : World) (A : Option Addr) (n c : Nat) (l : List (Int × Int)) : Prop where
 len : l.length = n
 le : n ≤ c
 cap : c ≤ maxLen
 nil : A = none → c = 0
 spot : 0 < n → ∃ g o, A = some ⟨g, o, none⟩ ∧ g < w.heap.size ∧ ∀ j x, l[j]? = some x → w.cell? ⟨g, o + j * 2, none⟩ = some (.int .i64 x.1) ∧ w.cell? ⟨g, o + j * 2 + 1, none⟩ = some (.int .i64 x.2)
section
variable {w w' : World} {A : Option Addr} {n c : Nat} {l : List (Int × Int)}
theorem Rs.nil_ (w : World) : Rs w none 0 0 [] := ⟨rfl, Nat.le_refl _, by simp [maxLen], fun _ => rfl, fun h => absurd h (by omega)⟩
theorem Rs.keep (h : Rs w A n c l) (hs : w.heap.size ≤ w'.heap.size) (hk : ∀ p : Addr, p.block < w.heap.size → w'.cell? p = w.cell? p) : Rs w' A n c l :=
 ⟨h.len, h.le, h.cap, h.nil, fun hn => by
  obtain ⟨g, o, e, hb, hc⟩ := h.spot hn;exact ⟨g, o, e, by omega, fun j x hx => ⟨(hk ⟨g, o + j * 2, none⟩ hb).trans (hc j x hx).1, (hk ⟨g, o + j * 2 + 1, none⟩ hb).trans (hc j x hx).2⟩⟩⟩
theorem Rs.below (h : Rs w A n c l) (hb : Below w.heap.size w w') : Rs w' A n c l := h.keep hb.size fun _ hp => hb.cell hp
theorem Rs.alloc (h : Rs w A n c l) (o : Obj) : Rs (w.alloc o) A n c l := h.keep (by simp) fun p hp => World.cell?_alloc_lt w o p hp
theorem Rs.drew (h : Rs w A n c l) : Rs w.drew A n c l := ⟨h.len, h.le, h.cap, h.nil, h.spot⟩
theorem Rs.grown {row : Option Nat} (h : Rs w A n c l) (hg : w.grownBy w' row) (hr : ∀ g o, A = some ⟨g, o, none⟩ → some g ≠ row) : Rs w' A n c l :=
 ⟨h.len, h.le, h.cap, h.nil, fun hn => by
  obtain ⟨g, o, e, hb, hc⟩ := h.spot hn;have hk : ∀ p : Addr, p.block = g → w'.cell? p = w.cell? p := fun p hp => World.cell?_of_block (hg.block _ (by omega) (by rw [hp]; exact hr g o e));exact ⟨g, o, e, Nat.lt_of_lt_of_le hb hg.size, fun j x hx => ⟨(hk ⟨g, o + j * 2, none⟩ rfl).trans (hc j x hx).1, (hk ⟨g, o + j * 2 + 1, none⟩ rfl).trans (hc j x hx).2⟩⟩⟩
theorem Rs.at_ {k : Nat} (h : Rs w A n c l) (hk : k < n) : ∃ g o x, A = some ⟨g, o, none⟩ ∧ g < w.heap.size ∧ l[k]? = some x ∧ w.cell? ⟨g, o + k * 2, none⟩ = some (.int .i64 x.1) ∧ w.cell? ⟨g, o + k * 2 + 1, none⟩ = some (.int .i64 x.2) := by
 obtain ⟨g, o, e, hb, hc⟩ := h.spot (by omega);have hl : k < l.length := by have := h.len; omega
 exact ⟨g, o, l[k], e, hb, List.getElem?_eq_getElem hl, hc k _ (List.getElem?_eq_getElem hl)⟩
theorem Rs.none0 (h : Rs w A n c l) : A = none → n = 0 ∧ c = 0 := fun e => by have := h.nil e; have := h.le; omega
theorem Rs.raw (h : Rs w A n c l) : ∀ ad, A = some ad → ∀ j u, (cells l)[j]? = some u → w.cell? (ad.add j) = some u := by
 intro ad e j u hu;obtain ⟨x, hx, h2⟩ := cells_of l j u hu;have hj : j / 2 < n := by rw [← h.len]; exact (List.getElem?_eq_some_iff.1 hx).1
 obtain ⟨g, o, e', _, hc⟩ := h.spot (by omega);cases e.symm.trans e';rw [Addr.add_lit];rcases h2 with ⟨h2, rfl⟩ | ⟨h2, rfl⟩
 · have := (hc _ x hx).1
   rwa [show o + j / 2 * 2 = o + j by omega] at this
 · have := (hc _ x hx).2
   rwa [show o + j / 2 * 2 + 1 = o + j by omega] at this
theorem Rs.take (h : Rs w A n c l) {k : Nat} (hk : k ≤ n) : Rs w A k c (l.take k) :=
 ⟨by rw [List.length_take, h.len]; omega, by have := h.le; omega, h.cap, h.nil, fun hk0 => by
  obtain ⟨g, o, e, hb, hc⟩ := h.spot (by omega);refine ⟨g, o, e, hb, fun j x hx => hc j x ?_⟩;rw [List.getElem?_take] at hx;split at hx
  · exact hx
  · cases hx⟩
theorem Rs.of_own {base : Nat} {e : TypeId} {v : Value} (h : w.ownsRow base e 2 v n (cells l)) : ∃ A c, v = .slice A n c ∧ Rs w A n c l := by
 have hl := h.1;rw [length_cells] at hl;rcases h.2 with ⟨rfl, rfl⟩ | ⟨g, cap, cur, rfl, hb, hg, hnc, hm, hs, ht⟩
 · exact ⟨none, 0, rfl, by omega, Nat.le_refl _, by simp [maxLen], fun _ => rfl, fun h => absurd h (by omega)⟩
 · refine ⟨some ⟨g, 0, none⟩, cap, rfl, by omega, hnc, hm, (fun e => by cases e), fun _ => ⟨g, 0, rfl, (Array.getElem?_eq_some_iff.1 hg).1, fun j x hx => ?_⟩⟩
   obtain ⟨h1, h2⟩ := cells_at l j x hx;have k1 := h.cells (g := g) rfl _ _ h1;have k2 := h.cells (g := g) rfl _ _ h2;rw [Addr.add_lit] at k1 k2;exact ⟨k1, k2⟩
theorem Rs.own {base : Nat} {e : TypeId} {V : Option Addr} (h : w.ownsRow base e 2 (.slice V n c) n (cells l)) : Rs w V n c l := by
 obtain ⟨A, c', e, hr⟩ := Rs.of_own h;cases e;exact hr
end
theorem Rs.lit (w : World) (l : List (Int × Int)) (vs : Array Value) (t : TypeId) (n : Nat) (hv : vs.toList = cells l) (hn : l.length = n) (hm : n ≤ maxLen) : Rs (w.alloc (.cells vs t)) (some ⟨w.heap.size, 0, none⟩) n n l := by
 refine ⟨hn, Nat.le_refl _, hm, (fun e => by cases e), fun _ => ⟨_, _, rfl, by simp, fun j x hx => ?_⟩⟩;obtain ⟨h1, h2⟩ := cells_at l j x hx;rw [cell_of_row _ _ _ _ _ _ (heap_alloc_new w _), cell_of_row _ _ _ _ _ _ (heap_alloc_new w _)];rw [← hv] at h1 h2;rw [Nat.zero_add];exact ⟨by simpa using h1, by simpa using h2⟩
theorem wpList_append_rs {P : Program} {w : World} {ops : Array Oper} {rest : List Oper} {o : Oper} {a : Act} {Q : Exit → Act → World → Prop} (hgd : o.guard = none) (s x : Operand) (t : TypeId)
 (ho : o.op = .call { callee := .builtin .append, args := #[s, x], argTypes := #[t, t] })
 (base : Nat) (e : TypeId) (i : TypeInfo) (z : Value) (ht : P.underlying t = some (.slice e)) (hi : P.info? e = some i) (hz : i.zero = some z)
 (hsize : i.size = 2) (hby : i.bytes = 16) (hzs : z.cells.size = 2)
 (V : Option Addr) (n cv : Nat) (xs : List (Int × Int)) (hs : a.eval s = .slice V n cv) (hown : w.ownsRow base e 2 (.slice V n cv) n (cells xs))
 (A : Option Addr) (m c : Nat) (news : List (Int × Int)) (hx : a.eval x = .slice A m c) (hr : Rs w A m c news)
 (hsm : n + m ≤ 8796093022208) (hbase : base ≤ w.heap.size)
 (h : ∀ V' c' w', w'.ownsRow base e 2 (.slice V' (n + m) c') (n + m) (cells (xs ++ news)) → w.grownBy w' (Value.slice V n cv).ownBlock → Below base w w' → wpList P ops Q rest (a.put o.dst (.slice V' (n + m) c')) w') : wpList P ops Q (o :: rest) a w := by
 rcases A with _ | ad
 · have hc : c = 0 := hr.nil rfl
   have hm : m = 0 := (by have := hr.le; omega);subst hc; subst hm;have hn : news = [] := List.eq_nil_of_length_eq_zero hr.len;subst hn;refine wpList_append_own_none hgd s x t ho base e i 2 ht hi _ n (cells xs) hs hown hx ?_;exact h V cv w (by simpa using hown) (World.grownBy.refl _ _) (Below.refl _ _)
 · refine wpList_append_own w hgd s x t ho base e i z 2 16 ht hi hz hsize hby hzs (by omega) _ n (cells xs) hs hown ad m c (cells news) hx (by rw [length_cells, hr.len]) (hr.raw _ rfl) (cells_one _) (by unfold maxLen; omega) (by omega) hbase
    fun v' w' hown' hg _ => ?_
   rw [← cells_append] at hown';obtain ⟨V', c', rfl, _⟩ := Rs.of_own hown';exact h V' c' w' hown' hg ((Below.refl _ _).grown hg hbase fun k hk => (hown.lt k hk).1)
end Go.Proofs.YtkejjdoaljoooaaGreatDoor.Ids
/- ids.Less, ids.Right and the document's: which of two is ahead, whether one is right; the comparison that ids.Set sorts by; the model's '==' of two ids. -/
namespace Go.Proofs.YtkejjdoaljoooaaGreatDoor
open Lib (hid)
open Go.RowKit Mem Ids Go.Sort
def Grew (w w' : World) : Prop := ∃ q os, w' = grow (w.drewN q) os
theorem Grew.bel {w w' : World} (h : Grew w w') : Below w.heap.size w w' := by
 obtain ⟨q, os, rfl⟩ := h;refine ⟨rfl, rfl, rfl, ?_, fun k hk => ?_⟩
 · show w.heap.size ≤ (w.heap ++ os).size
   simp
 · show (w.heap ++ os)[k]? = w.heap[k]?
   exact Array.getElem?_append_left hk
theorem wrap64 {x : Int} (h : -9223372036854775808 ≤ x) (h' : x ≤ 9223372036854775807) : IntKind.i64.wrap x = x := by
 simp [IntKind.wrap, IntKind.bits, IntKind.signed];omega
theorem eql_id (a b : Int × Int) (w : World) : Sem.run Tryz.prog (binOp .eql 34 (.agg #[.int .i64 a.1, .int .i64 a.2]) (.agg #[.int .i64 b.1, .int .i64 b.2])) w = .ok (.bool (decide (a = b))) w := by
 have u3 := Tryz.underlying3;have a3 := Tryz.isAgg3;have z3 := Tryz.sizeOf3;have hS : Tryz.prog.underlying 34 = some (.struct (Tryz.prog.fieldsOf 34)) := by kernel_rfl
 have hp : Tryz.prog.stoodInHeld 34 = false := by kernel_rfl
 rw [run_eql_struct, show (10000 : Nat) = 9999 + 1 from rfl, run_equalIn_agg w 9999 34 _ _ hS hp];simp only [Program.fieldsOf, Tryz.underlying34];go_simp;obtain ⟨a1, a2⟩ := a;obtain ⟨b1, b2⟩ := b;by_cases h1 : a1 = b1 <;> by_cases h2 : a2 = b2 <;> simp [h1, h2]
theorem neq_id (a b : Int × Int) (w : World) : Sem.run Tryz.prog (binOp .neq 34 (.agg #[.int .i64 a.1, .int .i64 a.2]) (.agg #[.int .i64 b.1, .int .i64 b.2])) w = .ok (.bool (!decide (a = b))) w := by
 have u3 := Tryz.underlying3;have a3 := Tryz.isAgg3;have z3 := Tryz.sizeOf3;have hS : Tryz.prog.underlying 34 = some (.struct (Tryz.prog.fieldsOf 34)) := by kernel_rfl
 have hp : Tryz.prog.stoodInHeld 34 = false := by kernel_rfl
 rw [run_neq_struct, show (10000 : Nat) = 9999 + 1 from rfl, run_equalIn_agg w 9999 34 _ _ hS hp];simp only [Program.fieldsOf, Tryz.underlying34];go_simp;obtain ⟨a1, a2⟩ := a;obtain ⟨b1, b2⟩ := b;by_cases h1 : a1 = b1 <;> by_cases h2 : a2 = b2 <;> simp [h1, h2]
set_option maxHeartbeats 1000000 in
theorem less_grew (a b : Int × Int) (w : World) :
 Calls Tryz.prog 117 #[.agg #[.int .i64 a.1, .int .i64 a.2], .agg #[.int .i64 b.1, .int .i64 b.2]] w fun e w' => e = .returned (.bool (lt a b)) ∧ Grew w w' := by
 obtain ⟨t, ht⟩ : ∃ t, lt a b = t := ⟨_, rfl⟩
 rw [ht];have HT := hid ht;clear ht;obtain ⟨a1, a2⟩ := a;obtain ⟨b1, b2⟩ := b;have hgr : ∀ o1 o2 : Obj, Grew w ((w.alloc o1).alloc o2) := fun o1 o2 => ⟨0, #[o1, o2], by rw [alloc_eq_grow, alloc_eq_grow, grow_grow]; rfl⟩
 have HG := hid hgr;clear hgr;go_enter Tryz.func117, Tryz.ntmps117
 by_cases h1 : a2 < b2
 · go_wp2
   go_ret;refine ⟨?_, HG.out _ _⟩;rw [← HT.out];simp [lt, h1]
 · by_cases h2 : a2 = b2
   · subst h2
     by_cases h3 : a1 < b1
     · go_wp2
       go_ret;refine ⟨?_, HG.out _ _⟩;rw [← HT.out];simp [lt, h3]
     · go_wp2
       go_ret;refine ⟨?_, HG.out _ _⟩;rw [← HT.out];simp [lt, h3]
   · go_wp2
     go_ret;refine ⟨?_, HG.out _ _⟩;rw [← HT.out];simp [lt, h1, h2]
set_option maxHeartbeats 1000000 in
theorem refless_grew (a b : Int × Int) (w : World) :
 Calls Tryz.prog 25 #[.agg #[.int .i64 a.1, .int .i64 a.2], .agg #[.int .i64 b.1, .int .i64 b.2]] w fun e w' => e = .returned (.bool (lt a b)) ∧ Grew w w' := by
 obtain ⟨t, ht⟩ : ∃ t, lt a b = t := ⟨_, rfl⟩
 rw [ht];have HT := hid ht;clear ht;obtain ⟨a1, a2⟩ := a;obtain ⟨b1, b2⟩ := b;have hgr : ∀ o1 o2 : Obj, Grew w ((w.alloc o1).alloc o2) := fun o1 o2 => ⟨0, #[o1, o2], by rw [alloc_eq_grow, alloc_eq_grow, grow_grow]; rfl⟩
 have HG := hid hgr;clear hgr;go_enter Tryz.func25, Tryz.ntmps25
 by_cases h1 : a2 < b2
 · go_wp2
   go_ret;refine ⟨?_, HG.out _ _⟩;rw [← HT.out];simp [lt, h1]
 · by_cases h2 : a2 = b2
   · subst h2
     by_cases h3 : a1 < b1
     · go_wp2
       go_ret;refine ⟨?_, HG.out _ _⟩;rw [← HT.out];simp [lt, h3]
     · go_wp2
       go_ret;refine ⟨?_, HG.out _ _⟩;rw [← HT.out];simp [lt, h3]
   · go_wp2
     go_ret;refine ⟨?_, HG.out _ _⟩;rw [← HT.out];simp [lt, h1, h2]
theorem refless_any (a b : Int × Int) (w : World) :
 Calls Tryz.prog 25 #[.agg #[.int .i64 a.1, .int .i64 a.2], .agg #[.int .i64 b.1, .int .i64 b.2]] w (Tells (lt a b) w) :=
 (refless_grew a b w).mono fun _ _ h => ⟨h.1, h.2.bel⟩
set_option maxHeartbeats 1000000 in
theorem right_grew (a : Int × Int) (w : World) :
 Calls Tryz.prog 91 #[.agg #[.int .i64 a.1, .int .i64 a.2]] w fun e w' => e = .returned (.bool (right a)) ∧ Grew w w' := by
 obtain ⟨t, ht⟩ : ∃ t, right a = t := ⟨_, rfl⟩
 rw [ht];have HT := hid ht;clear ht;obtain ⟨a1, a2⟩ := a;have hgr : ∀ o : Obj, Grew w (w.alloc o) := fun o => ⟨0, #[o], by rw [alloc_eq_grow]; rfl⟩
 have HG := hid hgr;clear hgr;go_enter Tryz.func91, Tryz.ntmps91
 by_cases h1 : 0 ≤ a1
 · by_cases h2 : a1 < 7
   · by_cases h3 : 0 ≤ a2
     · by_cases h4 : a2 ≤ 1099511627776
       · go_wp2
         go_ret;refine ⟨?_, HG.out _⟩;rw [← HT.out];simp [right];omega
       · go_wp2
         go_ret;refine ⟨?_, HG.out _⟩;rw [← HT.out];simp [right];omega
     · go_wp2
       go_ret;refine ⟨?_, HG.out _⟩;rw [← HT.out];simp [right];omega
   · go_wp2
     go_ret;refine ⟨?_, HG.out _⟩;rw [← HT.out];simp [right];omega
 · go_wp2
   go_ret;refine ⟨?_, HG.out _⟩;rw [← HT.out];simp [right];omega
theorem right_any (a : Int × Int) (w : World) : Calls Tryz.prog 91 #[.agg #[.int .i64 a.1, .int .i64 a.2]] w (Tells (right a) w) :=
 (right_grew a w).mono fun _ _ h => ⟨h.1, h.2.bel⟩
end Go.Proofs.YtkejjdoaljoooaaGreatDoor
/- The document's Equal, Has, Without of lists of ids. -/
namespace Go.Proofs.YtkejjdoaljoooaaGreatDoor
open Lib (hid)
open Go.RowKit Mem Ids
theorem infoId : (Tryz.prog.info? 34).map (fun i => (i.zero, i.size, i.bytes)) = some (some (.agg #[.int .i64 0, .int .i64 0]), 2, 16) := by kernel_rfl
theorem take_eq_drop {α : Type} {a b : List α} {k : Nat} {x : α} (ha : a[k]? = some x) (hb : b[k]? = some x) (h : a.drop (k + 1) = b.drop (k + 1)) : a.drop k = b.drop k := by
 obtain ⟨h1, rfl⟩ := List.getElem?_eq_some_iff.1 ha;obtain ⟨h2, e⟩ := List.getElem?_eq_some_iff.1 hb;rw [List.drop_eq_getElem_cons h1, List.drop_eq_getElem_cons h2, h, e]
def EqRel (a b : List (Int × Int)) (w : World) (v : Value) (wr : World) : Prop :=
 ∃ k : Nat, v = .int .i64 k ∧ k ≤ a.length ∧ (a = b ↔ a.drop k = b.drop k) ∧ Below w.heap.size w wr
set_option maxHeartbeats 2000000 in
theorem refequal_any (a b : List (Int × Int)) (A B : Option Addr) (n c m d : Nat) (w : World) (ha : Rs w A n c a) (hb : Rs w B m d b) :
 Calls Tryz.prog 89 #[.slice A n c, .slice B m d] w (Tells (decide (a = b)) w) := by
 obtain ⟨t, ht⟩ : ∃ t, decide (a = b) = t := ⟨_, rfl⟩
 rw [ht];have hla := ha.len;have hlb := hb.len;have HA := hid ha;have HB := hid hb;have hca := And.intro ha.le ha.cap;have hcb := And.intro hb.le hb.cap;unfold maxLen at hca hcb;have HT := hid ht;clear ht ha hb;go_enter Tryz.func89, Tryz.ntmps89
 by_cases hnm : n = m
 · subst hnm
   go_wp2_with fail
   go_loopw [5] (EqRel a b w) (fun v _ => n - (intOf v).toNat)
   case atStart => exact ⟨0, rfl, Nat.zero_le _, by simp, Below.refl _ _⟩
   case round =>
    obtain ⟨k, rfl, hk, hiff, hbw⟩ := hrel;by_cases hlt : k < n
    · obtain ⟨g, o, x, rfl, hg, hx, c1, c2⟩ := (HA.out.below hbw).at_ hlt
      obtain ⟨g', o', y, rfl, hg', hy, d1, d2⟩ := (HB.out.below hbw).at_ hlt;have hneq := neq_id x y;have HX := hid (And.intro hx hy);have HBW := hid hbw;have HI := hid hiff;clear hx hy hbw hiff;by_cases hxy : x = y
      · rw [decide_eq_true hxy] at hneq
        have HE := hid hxy;clear hxy;obtain ⟨x1, x2⟩ := x;obtain ⟨y1, y2⟩ := y;simp only at hneq c1 c2 d1 d2;go_wp2_with fail
        go_quiet (fail)
        go_wp2_with fail
        go_roundw
        case rel =>
         refine ⟨k + 1, by simp, by omega, HI.out.trans ?_, below_drewN HBW.out _⟩;have e := HE.out;have h1 := HX.out.1;have h2 := HX.out.2;rw [← e] at h2;refine ⟨fun h => ?_, take_eq_drop h1 h2⟩;have := congrArg (List.drop 1) h;simpa [List.drop_drop, Nat.add_comm] using this
        case measure =>
         simp [intOf];omega
      · rw [decide_eq_false hxy] at hneq
        have HE := hid hxy;clear hxy;obtain ⟨x1, x2⟩ := x;obtain ⟨y1, y2⟩ := y;simp only at hneq c1 c2 d1 d2;go_wp2_with fail
        go_quiet (fail)
        go_wp2_with fail
        go_ret
        have htf : t = false := by
         rw [← HT.out];refine decide_eq_false fun e => ?_;have h1 := HX.out.1;have h2 := HX.out.2;rw [e, h2] at h1;injection h1 with h1;exact HE.out h1.symm
        exact ⟨by rw [htf]; rfl, below_drewN HBW.out _⟩
    · have HBW := hid hbw
      have HI := hid hiff;clear hbw hiff;go_wp2_with fail
      go_ret
      have htt : t = true := by
       rw [← HT.out];refine decide_eq_true (HI.out.2 ?_);rw [List.drop_eq_nil_of_le (by omega), List.drop_eq_nil_of_le (by omega)]
      exact ⟨by rw [htt]; rfl, HBW.out⟩
 · go_wp2_with fail
   go_ret
   have htf : t = false := by
    rw [← HT.out];refine decide_eq_false fun e => ?_;rw [e] at hla;omega
   exact ⟨by rw [htf]; rfl, Below.refl _ _⟩
def Makes (w : World) (l : List (Int × Int)) (e : Ending) (w' : World) : Prop :=
 ∃ A c, e = .returned (.slice A l.length c) ∧ w'.ownsRow w.heap.size 34 2 (.slice A l.length c) l.length (cells l) ∧ Below w.heap.size w w'
def Gets (w : World) (l : List (Int × Int)) (e : Ending) (w' : World) : Prop :=
 ∃ A c, e = .returned (.slice A l.length c) ∧ Rs w' A l.length c l ∧ Below w.heap.size w w'
end Go.Proofs.YtkejjdoaljoooaaGreatDoor
/- ids.Check and the document's: whether a list is a right set. -/
namespace Go.Proofs.YtkejjdoaljoooaaGreatDoor
open Lib (hid)
open Go.RowKit Mem Ids Go.Sort
def ChkRel (l : List (Int × Int)) (w : World) (v : Value) (wr : World) : Prop :=
 ∃ k : Nat, v = .int .i64 k ∧ k ≤ l.length ∧ Goods (l.take k) ∧ Below w.heap.size w wr
theorem chk_end {l : List (Int × Int)} (k : Nat) (h : Goods (l.take k)) (hk : ¬ k < l.length) : chk l = decide (l.length ≤ 4096) := by
 rw [List.take_of_length_le (by omega)] at h;unfold chk;by_cases h4 : l.length ≤ 4096 <;> simp [h4, h]
theorem chk_wrong {l : List (Int × Int)} {k : Nat} {x : Int × Int} (hx : l[k]? = some x) (h : right x = false) : chk l = false := by
 refine decide_eq_false fun hg => ?_;have := hg.2.1 x (List.mem_of_getElem? hx);rw [h] at this;cases this
theorem chk_back {l : List (Int × Int)} {k : Nat} {x y : Int × Int} (hx : l[k]? = some x) (hk : 0 < k) (hy : l[k - 1]? = some y) (h : lt y x = false) : chk l = false := by
 refine decide_eq_false fun hg => ?_;obtain ⟨hy', rfl⟩ := List.getElem?_eq_some_iff.1 hy;obtain ⟨hx', rfl⟩ := List.getElem?_eq_some_iff.1 hx;have := List.pairwise_iff_getElem.1 hg.2.2 (k - 1) k hy' hx' (by omega);rw [h] at this;cases this
theorem chk_first {l : List (Int × Int)} {x : Int × Int} (hx : l[0]? = some x) (h : right x = true) : Goods (l.take (0 + 1)) := by
 rw [List.take_add_one, hx];exact (goods_snoc [] x).2 ⟨goods_nil, h, by simp⟩
theorem chk_more {l : List (Int × Int)} {k : Nat} {x y : Int × Int} (hx : l[k]? = some x) (hk : 0 < k) (hy : l[k - 1]? = some y) (hg : Goods (l.take k)) (h : right x = true) (hl : lt y x = true) : Goods (l.take (k + 1)) := by
 rw [List.take_add_one, hx];refine (goods_snoc _ x).2 ⟨hg, h, fun z hz => ?_⟩;rw [List.getLast?_take, if_neg (by omega), hy] at hz;simp at hz;rw [← hz];exact hl
set_option maxHeartbeats 4000000 in
theorem check_any (l : List (Int × Int)) (A : Option Addr) (n c : Nat) (w : World) (ha : Rs w A n c l) :
 Calls Tryz.prog 143 #[.slice A n c] w (Tells (chk l) w) := by
 obtain ⟨t, ht⟩ : ∃ t, chk l = t := ⟨_, rfl⟩
 rw [ht];have hla := ha.len;have HA := hid ha;have hca := And.intro ha.le ha.cap;unfold maxLen at hca;have HT := hid ht;clear ht ha;go_enter Tryz.func143, Tryz.ntmps143
 by_cases h4 : 4096 < n
 · go_wp2_with fail
   go_ret
   have htf : t = false := by
    rw [← HT.out];refine decide_eq_false fun h => ?_;omega
   exact ⟨by rw [htf]; rfl, Below.refl _ _⟩
 · go_wp2_with fail
   go_loopw [10] (ChkRel l w) (fun v _ => n - (intOf v).toNat)
   case atStart => exact ⟨0, rfl, Nat.zero_le _, by simp [goods_nil], Below.refl _ _⟩
   case round =>
    obtain ⟨k, rfl, hk, hgood, hbw⟩ := hrel;have hsz := hbw.size;by_cases hlt : k < n
    · obtain ⟨g, o, x, rfl, hg, hx, c1, c2⟩ := (HA.out.below hbw).at_ hlt
      have HX := hid hx;have HBW := hid hbw;have HGD := hid hgood;clear hx hbw hgood;obtain ⟨x1, x2⟩ := x;simp only at c1 c2;have HRR := hid (fun W => right_grew (x1, x2) W);go_wp2_with fail
      have hblk := Blk.new wr 34 #[.int .i64 x1, .int .i64 x2];have hrs : Rs (wr.alloc (.cells #[.int .i64 x1, .int .i64 x2] 34)) (some ⟨g, o, none⟩) n c l := (HA.out.below HBW.out).alloc _;have hbw1 : Below w.heap.size w (wr.alloc (.cells #[.int .i64 x1, .int .i64 x2] 34)) := HBW.out.alloc hsz _;generalize wr.alloc (.cells #[.int .i64 x1, .int .i64 x2] 34) = W at hblk hrs hbw1 ⊢;have hd0 := fun q os => cell_grown (w := W) (a := ⟨wr.heap.size, 0, none⟩) hblk.lt (hblk.cell 0) q os;have hd1 := fun q os => cell_grown (w := W) (a := ⟨wr.heap.size, 1, none⟩) hblk.lt (hblk.cell 1) q os;have HB1 := hid hbw1;have hszW := hbw1.size;clear hblk hbw1 c1 c2;cases hr : right (x1, x2) with
      | false =>
        have hh := HRR.out;rw [hr] at hh;have HH := hid hh;have HTF := hid (HT.out.symm.trans (chk_wrong HX.out hr));clear hr hh hrs;refine wp_region_quiet_grown (by kernel_rfl) (by kernel_rfl) ?_
        repeat (first | ((with_reducible refine wpQuiet_skip ?_ ?_); (focus rfl); simp only [Act.put, List.setIfInBounds_toArray, List.set_cons_zero, List.set_cons_succ]) | ((with_reducible refine wpQuiet_step (fun K hK => ?_)); go_simp; first | ((with_reducible refine hK _ ?_); clear hK K) | (apply Exists.intro; refine ⟨fun _ => ?_, hK _ ?_⟩; (exact Calls.grown_of (HH.out _)); clear hK K)))
        with_reducible refine wpQuiet_nil ?_
        intro _ hw';obtain ⟨⟨nq, osq⟩, hw''⟩ := hw';subst hw'';go_wp2_with fail
        go_ret;exact ⟨by rw [HTF.out]; rfl, HB1.out.trans ((Grew.bel ⟨nq, osq, rfl⟩).mono hszW)⟩
      | true =>
        have hh := HRR.out;rw [hr] at hh;have HH := hid hh;have HR := hid hr;clear hh hr;cases k with
        | zero =>
          clear hrs;refine wp_region_quiet_grown (by kernel_rfl) (by kernel_rfl) ?_
          repeat (first | ((with_reducible refine wpQuiet_skip ?_ ?_); (focus rfl); simp only [Act.put, List.setIfInBounds_toArray, List.set_cons_zero, List.set_cons_succ]) | ((with_reducible refine wpQuiet_step (fun K hK => ?_)); go_simp; first | ((with_reducible refine hK _ ?_); clear hK K) | (apply Exists.intro; refine ⟨fun _ => ?_, hK _ ?_⟩; (exact Calls.grown_of (HH.out _)); clear hK K)))
          with_reducible refine wpQuiet_nil ?_
          intro _ hw';obtain ⟨⟨nq, osq⟩, hw''⟩ := hw';subst hw'';go_wp2_with fail
          go_roundw
          case rel => exact ⟨0 + 1, by simp, by omega, chk_first HX.out HR.out, HB1.out.trans ((Grew.bel ⟨nq, osq, rfl⟩).mono hszW)⟩
          case measure =>
           simp [intOf];omega
        | succ j =>
          have hjn : j < n := (by omega);have hwj : IntKind.i64.wrap (j : Int) = j := wrap64 (by omega) (by omega);obtain ⟨g', o', y, he, hg', hy, f1, f2⟩ := hrs.at_ (k := j) (by omega);injection he with he;injection he with he1 he2;subst he1; subst he2;have HY := hid hy;have hc1 := fun q os => cell_grown (w := W) (a := ⟨g, o + j * 2, none⟩) hg' f1 q os;have hc2 := fun q os => cell_grown (w := W) (a := ⟨g, o + j * 2 + 1, none⟩) hg' f2 q os;have hll := fun W => less_grew y (x1, x2) W;clear hy f1 f2 hrs;cases hl : lt y (x1, x2) with
          | true =>
            rw [hl] at hll;have HL := hid hll;have HG := hid (chk_more HX.out (by omega) HY.out HGD.out HR.out hl);clear hll hl;obtain ⟨y1, y2⟩ := y;simp only at hc1 hc2;refine wp_region_quiet_grown (by kernel_rfl) (by kernel_rfl) ?_
            repeat (first | ((with_reducible refine wpQuiet_skip ?_ ?_); (focus rfl); simp only [Act.put, List.setIfInBounds_toArray, List.set_cons_zero, List.set_cons_succ]) | ((with_reducible refine wpQuiet_step (fun K hK => ?_)); go_simp; first | ((with_reducible refine hK _ ?_); clear hK K) | (apply Exists.intro; refine ⟨fun _ => ?_, hK _ ?_⟩; (first | (go_at_call 91; exact Calls.grown_of (HH.out _)) | (go_at_call 117; exact Calls.grown_of (HL.out _))); clear hK K)))
            with_reducible refine wpQuiet_nil ?_
            intro _ hw';obtain ⟨⟨nq, osq⟩, hw''⟩ := hw';subst hw'';go_wp2_with fail
            go_roundw
            case rel => exact ⟨j + 1 + 1, by simp, by omega, HG.out, HB1.out.trans ((Grew.bel ⟨nq, osq, rfl⟩).mono hszW)⟩
            case measure =>
             simp [intOf];omega
          | false =>
            rw [hl] at hll;have HL := hid hll;have HTF := hid (HT.out.symm.trans (chk_back HX.out (by omega) HY.out hl));clear hll hl;obtain ⟨y1, y2⟩ := y;simp only at hc1 hc2;refine wp_region_quiet_grown (by kernel_rfl) (by kernel_rfl) ?_
            repeat (first | ((with_reducible refine wpQuiet_skip ?_ ?_); (focus rfl); simp only [Act.put, List.setIfInBounds_toArray, List.set_cons_zero, List.set_cons_succ]) | ((with_reducible refine wpQuiet_step (fun K hK => ?_)); go_simp; first | ((with_reducible refine hK _ ?_); clear hK K) | (apply Exists.intro; refine ⟨fun _ => ?_, hK _ ?_⟩; (first | (go_at_call 91; exact Calls.grown_of (HH.out _)) | (go_at_call 117; exact Calls.grown_of (HL.out _))); clear hK K)))
            with_reducible refine wpQuiet_nil ?_
            intro _ hw';obtain ⟨⟨nq, osq⟩, hw''⟩ := hw';subst hw'';go_wp2_with fail
            go_ret;exact ⟨by rw [HTF.out]; rfl, HB1.out.trans ((Grew.bel ⟨nq, osq, rfl⟩).mono hszW)⟩
    · have htt : t = true := by
       rw [← HT.out, chk_end k hgood (by omega)];exact decide_eq_true (by omega)
      have HBW := hid hbw;clear hbw hgood;go_wp2_with fail
      go_ret;exact ⟨by rw [htt]; rfl, HBW.out⟩
end Go.Proofs.YtkejjdoaljoooaaGreatDoor
/- ids.Equal, ids.Has: whether two lists are the same; whether an id is in a set. -/
namespace Go.Proofs.YtkejjdoaljoooaaGreatDoor
open Lib (hid)
open Go.RowKit Mem Ids Go.Sort Go.Shelf
set_option maxHeartbeats 2000000 in
theorem seq_any (a b : List (Int × Int)) (A B : Option Addr) (n c m d : Nat) (w : World) (ha : Rs w A n c a) (hb : Rs w B m d b) :
 Calls Tryz.prog 198 #[.slice A n c, .slice B m d] w (Tells (decide (a = b)) w) := by
 obtain ⟨t, ht⟩ : ∃ t, decide (a = b) = t := ⟨_, rfl⟩
 rw [ht];have hla := ha.len;have hlb := hb.len;have HA := hid ha;have HB := hid hb;have hca := And.intro ha.le ha.cap;have hcb := And.intro hb.le hb.cap;unfold maxLen at hca hcb;have HT := hid ht;clear ht ha hb;go_enter Tryz.func198, Tryz.ntmps198
 by_cases hnm : n = m
 · subst hnm
   go_wp2_with fail
   go_loopw [13] (EqRel a b w) (fun v _ => n - (intOf v).toNat)
   case atStart => exact ⟨0, rfl, Nat.zero_le _, by simp, Below.refl _ _⟩
   case round =>
    obtain ⟨k, rfl, hk, hiff, hbw⟩ := hrel;by_cases hlt : k < n
    · obtain ⟨g, o, x, rfl, hg, hx, c1, c2⟩ := (HA.out.below hbw).at_ hlt
      obtain ⟨g', o', y, rfl, hg', hy, d1, d2⟩ := (HB.out.below hbw).at_ hlt;have hneq := neq_id x y;have HX := hid (And.intro hx hy);have HBW := hid hbw;have HI := hid hiff;clear hx hy hbw hiff;by_cases hxy : x = y
      · rw [decide_eq_true hxy] at hneq
        have HE := hid hxy;clear hxy;obtain ⟨x1, x2⟩ := x;obtain ⟨y1, y2⟩ := y;simp only at hneq c1 c2 d1 d2;go_wp2_with fail
        go_quiet (fail)
        go_wp2_with fail
        go_roundw
        case rel =>
         refine ⟨k + 1, by simp, by omega, HI.out.trans ?_, below_drewN HBW.out _⟩;have e := HE.out;have h1 := HX.out.1;have h2 := HX.out.2;rw [← e] at h2;refine ⟨fun h => ?_, take_eq_drop h1 h2⟩;have := congrArg (List.drop 1) h;simpa [List.drop_drop, Nat.add_comm] using this
        case measure =>
         simp [intOf];omega
      · rw [decide_eq_false hxy] at hneq
        have HE := hid hxy;clear hxy;obtain ⟨x1, x2⟩ := x;obtain ⟨y1, y2⟩ := y;simp only at hneq c1 c2 d1 d2;go_wp2_with fail
        go_quiet (fail)
        go_wp2_with fail
        go_ret
        have htf : t = false := by
         rw [← HT.out];refine decide_eq_false fun e => ?_;have h1 := HX.out.1;have h2 := HX.out.2;rw [e, h2] at h1;injection h1 with h1;exact HE.out h1.symm
        exact ⟨by rw [htf]; rfl, below_drewN HBW.out _⟩
    · have HBW := hid hbw
      have HI := hid hiff;clear hbw hiff;go_wp2_with fail
      go_ret
      have htt : t = true := by
       rw [← HT.out];refine decide_eq_true (HI.out.2 ?_);rw [List.drop_eq_nil_of_le (by omega), List.drop_eq_nil_of_le (by omega)]
      exact ⟨by rw [htt]; rfl, HBW.out⟩
 · go_wp2_with fail
   go_ret
   have htf : t = false := by
    rw [← HT.out];refine decide_eq_false fun e => ?_;rw [e] at hla;omega
   exact ⟨by rw [htf]; rfl, Below.refl _ _⟩
theorem equal_any (a b : List (Int × Int)) (A B : Option Addr) (n c m d : Nat) (w : World) (ha : Rs w A n c a) (hb : Rs w B m d b) :
 Calls Tryz.prog 192 #[.slice A n c, .slice B m d] w (Tells (decide (a = b)) w) := by
 have HS := hid (seq_any a b A B n c m d w ha hb);clear ha hb;go_enter Tryz.func192, Tryz.ntmps192
 go_wp2_with fail
 refine HS.out.mono ?_;rintro e w' ⟨rfl, hb⟩;have HB := hid hb;clear hb;go_wp2_with fail
 go_ret;exact ⟨rfl, HB.out⟩
theorem asks_grew (l : List (Int × Int)) (i : Int × Int) (A : Option Addr) (n c b : Nat) (k : Nat) (hk : k < n) (w : World) (hA : w.cell? ⟨b, 0, none⟩ = some (.slice A n c)) (hi0 : w.cell? ⟨b + 1, 0, none⟩ = some (.int .i64 i.1)) (hi1 : w.cell? ⟨b + 1, 1, none⟩ = some (.int .i64 i.2)) (hb : b + 1 < w.heap.size) (hr : Rs w A n c l) (x : Int × Int) (hx : l[k]? = some x) :
 Calls Tryz.prog 174 #[.int .i64 (k : Int), .pointer (some ⟨b, 0, none⟩), .pointer (some ⟨b + 1, 0, none⟩)] w fun e w' => e = .returned (.bool (!lt x i)) ∧ Grew w w' := by
 obtain ⟨g, o, x', rfl, hg, hx', c1, c2⟩ := hr.at_ hk;rw [hx] at hx';injection hx' with hx';subst hx';have hca := And.intro hr.le hr.cap;unfold maxLen at hca;have a0 := fun q os => cell_grown (w := w) (a := ⟨b, 0, none⟩) (show b < w.heap.size by omega) hA q os;have a1 := fun q os => cell_grown (w := w) (a := ⟨b + 1, 0, none⟩) hb hi0 q os;have a2 := fun q os => cell_grown (w := w) (a := ⟨b + 1, 1, none⟩) hb hi1 q os;have a3 := fun q os => cell_grown (w := w) (a := ⟨g, o + k * 2, none⟩) hg c1 q os;have a4 := fun q os => cell_grown (w := w) (a := ⟨g, o + k * 2 + 1, none⟩) hg c2 q os;have HL := hid (fun W => less_grew x i W);generalize lt x i = t at HL ⊢;obtain ⟨x1, x2⟩ := x;obtain ⟨i1, i2⟩ := i;simp only at a1 a2 a3 a4;clear hr hx hA hi0 hi1 c1 c2;go_enter Tryz.func174, Tryz.ntmps174
 go_wp2_with fail
 refine wp_region_quiet_grown (by kernel_rfl) (by kernel_rfl) ?_
 repeat (first | ((with_reducible refine wpQuiet_skip ?_ ?_); (focus rfl); simp only [Act.put, List.setIfInBounds_toArray, List.set_cons_zero, List.set_cons_succ]) | ((with_reducible refine wpQuiet_step (fun K hK => ?_)); go_simp; first | ((with_reducible refine hK _ ?_); clear hK K) | (apply Exists.intro; refine ⟨fun _ => ?_, hK _ ?_⟩; exact Calls.grown_of (HL.out _); clear hK K)))
 with_reducible refine wpQuiet_nil ?_
 intro _ hw';obtain ⟨⟨nq, osq⟩, hw''⟩ := hw';subst hw'';go_wp2_with fail
 go_ret;exact ⟨rfl, nq, osq, rfl⟩
def ask (l : List (Int × Int)) (i : Int × Int) (k : Nat) : Bool := match l[k]? with
 | some x => !lt x i
 | none => true
theorem ask_at {l : List (Int × Int)} {i : Int × Int} {k : Nat} {x : Int × Int} (h : l[k]? = some x) : ask l i k = !lt x i := by
 unfold ask;rw [h]
theorem count_ask (i : Int × Int) : ∀ l : List (Int × Int), (List.range l.length).countP (fun k => !ask l i k) = l.countP (fun x => lt x i)
 | [] => rfl
 | a :: l => by
   have ih := count_ask i l;rw [List.length_cons, List.range_succ_eq_map, List.countP_cons, List.countP_map, List.countP_cons, ← ih]
   congr 1
   rw [ask_at (show (a :: l)[0]? = some a from rfl), Bool.not_not]
theorem ask_mono {l : List (Int × Int)} (h : Up l) (i : Int × Int) (a b : Nat) (hab : a ≤ b) (hb : b < l.length) (hp : ask l i a = true) : ask l i b = true := by
 have ha' : l[a]? = some l[a] := List.getElem?_eq_getElem (by omega);have hb' : l[b]? = some l[b] := List.getElem?_eq_getElem hb;rw [ask_at ha'] at hp;rw [ask_at hb', count_mono h i a b hab _ _ ha' hb' (by simpa using hp)];rfl
set_option maxHeartbeats 2000000 in
theorem has_any (l : List (Int × Int)) (i : Int × Int) (A : Option Addr) (n c : Nat) (w : World) (ha : Rs w A n c l) (hup : Up l) (hn : n ≤ 1073741824) :
 Calls Tryz.prog 141 #[.slice A n c, .agg #[.int .i64 i.1, .int .i64 i.2]] w (Tells (decide (i ∈ l)) w) := by
 obtain ⟨t, ht⟩ : ∃ t, decide (i ∈ l) = t := ⟨_, rfl⟩
 rw [ht];have hla := ha.len;have hca := And.intro ha.le ha.cap;unfold maxLen at hca;obtain ⟨W0, hW0⟩ : ∃ W0, W0 = (w.alloc (.cells #[.slice A n c] 39)).alloc (.cells #[.int .i64 i.1, .int .i64 i.2] 34) := ⟨_, rfl⟩
 have hsize : W0.heap.size = w.heap.size + 1 + 1 := by rw [hW0]; simp
 have hbl : Below w.heap.size w W0 := by rw [hW0]; exact bel_alloc (bel_alloc (Below.refl _ _) _) _
 have k1 : Blk W0 w.heap.size 39 #[.slice A n c] := by rw [hW0]; exact (Blk.new w _ _).alloc _
 have k2 : Blk W0 (w.heap.size + 1) 34 #[.int .i64 i.1, .int .i64 i.2] := by
  have := Blk.new (w.alloc (.cells #[.slice A n c] 39)) 34 #[.int .i64 i.1, .int .i64 i.2];rw [size_alloc] at this;rw [hW0];exact this
 have hrs := ha.below hbl
 have hsr := Any.sort_Search Tryz.searchAny 174 #[.pointer (some ⟨w.heap.size, 0, none⟩), .pointer (some ⟨w.heap.size + 1, 0, none⟩)] n (ask l i) W0 (enters_of Tryz.func174 (by kernel_rfl) rfl) (by omega)
  (fun m os k hk => by
   have hgw : Grew W0 (grow (W0.drewN m) os) := ⟨m, os, rfl⟩
   obtain ⟨x, hx⟩ : ∃ x, l[k]? = some x := ⟨_, List.getElem?_eq_getElem (by omega)⟩
   rw [ask_at hx];exact asks_grew l i A n c w.heap.size k hk _ ((k1.bel hgw.bel).cell 0) ((k2.bel hgw.bel).cell 0) ((k2.bel hgw.bel).cell 1) (by have := hgw.bel.size; omega) (hrs.below hgw.bel) x hx)
  (fun a b hab hb hp => ask_mono hup i a b hab (by omega) hp)
 change Calls Tryz.prog 173 _ _ _ at hsr
 rw [← hla, count_ask i l, hla] at hsr;obtain ⟨K, hK⟩ : ∃ K, l.countP (fun x => lt x i) = K := ⟨_, rfl⟩
 rw [hK] at hsr;have hat := count_at hup i K hK;have hKn : K ≤ n := by rw [← hK, ← hla]; exact List.countP_le_length
 have HS := hid hsr;have HAT := hid hat;have HT := hid ht;have HK1 := hid k1;have HK2 := hid k2;have HR := hid hrs;have HBL := hid hbl;clear ha hup hsr hat ht k1 k2 hrs hK hbl;go_enter Tryz.func141, Tryz.ntmps141
 go_wp2_with fail
 rw [← hW0];refine HS.out.mono ?_;rintro e w2 ⟨rfl, q2, os2, hw2⟩;have hgw : Grew W0 w2 := ⟨q2, os2, hw2⟩
 clear hw2 hW0;have b0 := (HK1.out.bel hgw.bel).cell 0;have b1 := (HK2.out.bel hgw.bel).cell 0;have b2 := (HK2.out.bel hgw.bel).cell 1;have hr2 := HR.out.below hgw.bel;have HB2 := hid (HBL.out.trans (hgw.bel.mono (by omega)));clear hgw;simp at b0 b1 b2;by_cases hlt : K < n
 · obtain ⟨g, o, x, rfl, hg, hx, c1, c2⟩ := hr2.at_ hlt
   have heq := eql_id x i;have HX := hid hx;clear hx hr2;by_cases hxi : x = i
   · rw [decide_eq_true hxi] at heq
     have HE := hid hxi;clear hxi;obtain ⟨x1, x2⟩ := x;obtain ⟨i1, i2⟩ := i;simp only at heq c1 c2 b1 b2;go_wp2_with fail
     go_quiet (fail)
     go_wp2_with fail
     go_ret
     have htt : t = true := by
      rw [← HT.out];exact decide_eq_true (HAT.out.2 (by rw [HX.out, HE.out]))
     exact ⟨by rw [htt]; rfl, below_drewN HB2.out _⟩
   · rw [decide_eq_false hxi] at heq
     have HE := hid hxi;clear hxi;obtain ⟨x1, x2⟩ := x;obtain ⟨i1, i2⟩ := i;simp only at heq c1 c2 b1 b2;go_wp2_with fail
     go_quiet (fail)
     go_wp2_with fail
     go_ret
     have htf : t = false := by
      rw [← HT.out];refine decide_eq_false fun h => HE.out ?_;have := HAT.out.1 h;rw [HX.out] at this;injection this
     exact ⟨by rw [htf]; rfl, below_drewN HB2.out _⟩
 · clear hr2
   go_wp2_with fail
   go_quiet (fail)
   go_wp2_with fail
   go_ret
   have htf : t = false := by
    rw [← HT.out];refine decide_eq_false fun h => ?_;have := HAT.out.1 h;rw [List.getElem?_eq_none (by omega)] at this;cases this
   exact ⟨by rw [htf]; rfl, below_drewN HB2.out _⟩
end Go.Proofs.YtkejjdoaljoooaaGreatDoor
