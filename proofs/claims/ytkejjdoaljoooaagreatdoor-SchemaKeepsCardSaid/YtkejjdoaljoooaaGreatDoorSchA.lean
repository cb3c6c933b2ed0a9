/-
  Texts of earlier layers, as one.
-/
import Derived.Deep.MidRow
import Derived.Test.YtkejjdoaljoooaaGreatDoorRecB
import Derived.Test.YtkejjdoaljoooaaGreatDoorRCodB
import Derived.DeepKeys5
import Derived.Test.YtkejjdoaljoooaaGreatDoorLogScan
import Derived.Sort.MapsRangeIn
import Derived.Test.YtkejjdoaljoooaaGreatDoorLogDk
import Derived.Test.YtkejjdoaljoooaaGreatDoorRCodP
/- Things by their ids, plainly: of each id the last one, in the order of the ids ('held'), is what comes of putting one in behind the other ('withK'); plain mathematics, of no program. -/
namespace Go.Proofs.YtkejjdoaljoooaaGreatDoor.Sc
open Lib (hid)
open Ids
section
variable {α β : Type} (k : α → Int × Int)
def withK (r : α) : List α → List α
 | [] => [r]
 | x :: t => if lt (k x) (k r) = true then x :: withK r t else r :: (x :: t).filter (fun y => !decide (k y = k r))
def restK (done : Bool) (r : α) (l : List α) : List α := if done = true then l.filter (fun y => !decide (k y = k r)) else withK k r l
def heldK (l : List α) : List α := l.foldl (fun a r => withK k r a) []
def lastK (l : List α) (i : Int × Int) : Option α := l.reverse.find? (fun r => decide (k r = i))
theorem withK_cons (r x : α) (t : List α) : withK k r (x :: t) = if lt (k x) (k r) = true then x :: withK k r t else r :: (x :: t).filter (fun y => !decide (k y = k r)) := rfl
theorem withK_map (f : β → α) (r : β) (l : List β) : (withK (fun x => k (f x)) r l).map f = withK k (f r) (l.map f) := by
 induction l with
 | nil => rfl
 | cons x t ih =>
   rw [List.map_cons, withK_cons, withK_cons];by_cases h : lt (k (f x)) (k (f r)) = true
   · rw [if_pos h, if_pos h, List.map_cons, ih]
   · rw [if_neg h, if_neg h, List.map_cons]
     refine congrArg (f r :: ·) ?_;show _ = List.filter (fun y => !decide (k y = k (f r))) ((x :: t).map f);rw [List.filter_map];rfl
theorem length_withK (r : α) (l : List α) : (withK k r l).length ≤ l.length + 1 := by
 induction l with
 | nil => exact Nat.le_refl _
 | cons x t ih =>
   unfold withK;split
   · simp only [List.length_cons]; omega
   · rw [List.length_cons]
     have := List.length_filter_le (fun y => !decide (k y = k r)) (x :: t);omega
theorem mem_withK (r x : α) (l : List α) : x ∈ withK k r l ↔ x = r ∨ (x ∈ l ∧ k x ≠ k r) := by
 induction l with
 | nil => simp [withK]
 | cons y t ih =>
   unfold withK;split
   · rename_i h
     have hne := lt_ne h;rw [List.mem_cons, ih, List.mem_cons];constructor
     · rintro (rfl | rfl | h2)
       · exact .inr ⟨.inl rfl, hne⟩
       · exact .inl rfl
       · exact .inr ⟨.inr h2.1, h2.2⟩
     · rintro (rfl | ⟨rfl | h2, h3⟩)
       · exact .inr (.inl rfl)
       · exact .inl rfl
       · exact .inr (.inr ⟨h2, h3⟩)
   · rw [List.mem_cons, List.mem_filter]
     simp
theorem up_withK (r : α) (l : List α) (h : Up (l.map k)) : Up ((withK k r l).map k) := by
 induction l with
 | nil => simp [withK, Up]
 | cons y t ih =>
   rw [List.map_cons, up_cons] at h;unfold withK;split
   · rename_i hl
     rw [List.map_cons, up_cons];refine ⟨fun z hz => ?_, ih h.2⟩;obtain ⟨x, hx, rfl⟩ := List.mem_map.1 hz;rcases (mem_withK k r x t).1 hx with rfl | ⟨h2, _⟩
     · exact hl
     · exact h.1 _ (List.mem_map.2 ⟨x, h2, rfl⟩)
   · rename_i hl
     rw [List.map_cons, up_cons];have h0 : Up ((y :: t).map k) := (by rw [List.map_cons, up_cons]; exact h);refine ⟨fun z hz => ?_, ?_⟩
     · obtain ⟨x, hx, rfl⟩ := List.mem_map.1 hz
       obtain ⟨hx, hne⟩ := List.mem_filter.1 hx;have hne : k x ≠ k r := (by simpa using hne);have hyr : lt (k y) (k r) = false := (by simpa using hl);rcases List.mem_cons.1 hx with rfl | hx
       · cases e : lt (k r) (k x) with
         | true => rfl
         | false => exact absurd (lt_tri hyr e) hne
       · have hyx := h.1 _ (List.mem_map.2 ⟨x, hx, rfl⟩)
         cases e : lt (k r) (k x) with
         | true => rfl
         | false =>
           have := lt_le hyx e;rw [hyr] at this;cases this
     · have := List.Pairwise.filter (fun y => !decide (y = k r)) h0
       rw [List.filter_map] at this;exact this
theorem lastK_snoc (l : List α) (r : α) (i : Int × Int) : lastK k (l ++ [r]) i = if k r = i then some r else lastK k l i := by
 unfold lastK;rw [List.reverse_append, List.reverse_singleton, List.singleton_append, List.find?_cons];by_cases h : k r = i
 · rw [if_pos h, decide_eq_true h]
 · rw [if_neg h, decide_eq_false h]
theorem lastK_some {l : List α} {i : Int × Int} {x : α} (h : lastK k l i = some x) : x ∈ l ∧ k x = i := by
 unfold lastK at h;have h1 := List.mem_of_find?_eq_some h;have h2 := List.find?_some (p := fun r => decide (k r = i)) h;exact ⟨by simpa using h1, of_decide_eq_true h2⟩
theorem lastK_none {l : List α} {i : Int × Int} (h : lastK k l i = none) : ∀ x ∈ l, k x ≠ i := by
 unfold lastK at h;rw [List.find?_eq_none] at h;intro x hx e;exact h x (by simpa using hx) (by simpa using e)
theorem heldK_snoc (l : List α) (r : α) : heldK k (l ++ [r]) = withK k r (heldK k l) := by
 unfold heldK;rw [List.foldl_append];rfl
theorem snocK {P : List α → Prop} (h0 : P []) (h1 : ∀ l r, P l → P (l ++ [r])) (l : List α) : P l := by
 have : ∀ (m : List α), P m.reverse := fun m => by
  induction m with
  | nil => exact h0
  | cons x m ih => rw [List.reverse_cons]; exact h1 _ _ ih
 have h := this l.reverse;rwa [List.reverse_reverse] at h
theorem heldK_is (l : List α) : Up ((heldK k l).map k) ∧ ∀ i x, (x ∈ heldK k l ∧ k x = i) ↔ lastK k l i = some x := by
 induction l using snocK with
 | h0 => exact ⟨up_nil, fun i x => by simp [heldK, lastK]⟩
 | h1 l r ih =>
   rw [heldK_snoc];refine ⟨up_withK k r _ ih.1, fun i x => ?_⟩;rw [mem_withK, lastK_snoc];constructor
   · rintro ⟨rfl | ⟨h1, h2⟩, rfl⟩
     · rw [if_pos rfl]
     · rw [if_neg (Ne.symm h2)]
       exact (ih.2 _ _).1 ⟨h1, rfl⟩
   · intro h
     split at h
     · rename_i e
       injection h with h;subst h;exact ⟨.inl rfl, e⟩
     · rename_i e
       obtain ⟨h1, h2⟩ := (ih.2 _ _).2 h;exact ⟨.inr ⟨h1, fun h3 => e (h3.symm.trans h2)⟩, h2⟩
theorem heldK_set (l : List α) (ks : List (Int × Int)) (hks : ∀ i, i ∈ ks ↔ i ∈ l.map k) : heldK k l = (setl ks).filterMap (lastK k l) := by
 obtain ⟨h1, h2⟩ := heldK_is k l
 have e : (heldK k l).map k = setl ks := by
  refine setl_eq h1 fun i => ?_;rw [hks];constructor
  · intro h
    obtain ⟨x, hx, rfl⟩ := List.mem_map.1 h;have := (h2 (k x) x).1 ⟨hx, rfl⟩;exact List.mem_map.2 ⟨x, (lastK_some k this).1, rfl⟩
  · intro h
    obtain ⟨y, hy, rfl⟩ := List.mem_map.1 h;cases e : lastK k l (k y) with
    | none => exact absurd rfl (lastK_none k e y hy)
    | some x =>
      obtain ⟨h3, h4⟩ := (h2 _ _).2 e;exact List.mem_map.2 ⟨x, h3, h4⟩
 rw [← e, List.filterMap_map]
 have : ∀ (m : List α), (∀ x ∈ m, x ∈ heldK k l) → m = m.filterMap (lastK k l ∘ k) := fun m hm => by
  induction m with
  | nil => rfl
  | cons x m ih =>
    have hx : lastK k l (k x) = some x := (h2 _ _).1 ⟨hm x (by simp), rfl⟩;rw [List.filterMap_cons];simp only [Function.comp, hx];rw [← show m = m.filterMap (lastK k l ∘ k) from ih fun y hy => hm y (by simp [hy])]
 exact this _ fun x hx => hx
theorem heldK_map (f : β → α) (l : List β) : (heldK (fun x => k (f x)) l).map f = heldK k (l.map f) := by
 induction l using snocK with
 | h0 => rfl
 | h1 l r ih => rw [heldK_snoc, List.map_append, List.map_singleton, heldK_snoc, withK_map, ih]
theorem length_heldK (l : List α) : (heldK k l).length ≤ l.length := by
 induction l using snocK with
 | h0 => exact Nat.le_refl _
 | h1 l r ih =>
   rw [heldK_snoc, List.length_append];have := length_withK k r (heldK k l);simp only [List.length_singleton];omega
theorem mem_heldK {l : List α} {x : α} (h : x ∈ heldK k l) : x ∈ l := (lastK_some k (((heldK_is k l).2 _ _).1 ⟨h, rfl⟩)).1
end
end Go.Proofs.YtkejjdoaljoooaaGreatDoor.Sc
/- Records in memory, of no program's walk: 'Recs' (a slice holds these records), what keeps it, a record appended to a row of the call's own. -/
namespace Go.Proofs.YtkejjdoaljoooaaGreatDoor.Sc
open Lib (hid)
open Go.RowKit Mem Ids Rk
structure Pt where
 r : Rc
 V : Option Addr
 n : Nat
 c : Nat
def ptId (q : Pt) : Int × Int := q.r.id
def cellsOf (q : Pt) : List Value := [.int .i64 q.r.id.1, .int .i64 q.r.id.2, .int .i64 q.r.st, .int .i64 q.r.bl.1, .int .i64 q.r.bl.2, .int .i64 q.r.tk.1, .int .i64 q.r.tk.2, .int .i64 q.r.cm.kd, .int .i64 q.r.cm.cl, .int .i64 q.r.cm.sq, .string q.r.cm.ky, .string q.r.cm.vl, .int .i64 q.r.cm.rv, .slice q.V q.n q.c, .int .i64 q.r.at_.sq, .int .i64 q.r.at_.tg]
def val (q : Pt) : Value := .agg #[.int .i64 q.r.id.1, .int .i64 q.r.id.2, .int .i64 q.r.st, .int .i64 q.r.bl.1, .int .i64 q.r.bl.2, .int .i64 q.r.tk.1, .int .i64 q.r.tk.2, .int .i64 q.r.cm.kd, .int .i64 q.r.cm.cl, .int .i64 q.r.cm.sq, .string q.r.cm.ky, .string q.r.cm.vl, .int .i64 q.r.cm.rv, .slice q.V q.n q.c, .int .i64 q.r.at_.sq, .int .i64 q.r.at_.tg]
theorem length_cellsOf (q : Pt) : (cellsOf q).length = 16 := rfl
theorem cellsOf_one (q : Pt) : ∀ u ∈ cellsOf q, u.oneCell' = true := by
 intro u hu;simp only [cellsOf, List.mem_cons, List.not_mem_nil, or_false] at hu;rcases hu with rfl | rfl | rfl | rfl | rfl | rfl | rfl | rfl | rfl | rfl | rfl | rfl | rfl | rfl | rfl | rfl <;> rfl
def flat (l : List Pt) : List Value := l.flatMap cellsOf
theorem length_flat (l : List Pt) : (flat l).length = l.length * 16 := by
 induction l with
 | nil => rfl
 | cons a l ih => rw [flat, List.flatMap_cons, List.length_append, length_cellsOf]; rw [flat] at ih; rw [ih, List.length_cons]; omega
theorem flat_append (a b : List Pt) : flat (a ++ b) = flat a ++ flat b := by simp [flat]
theorem flat_one (q : Pt) : flat [q] = cellsOf q := by simp [flat]
theorem flat_at : ∀ (l : List Pt) (k : Nat) (q : Pt), l[k]? = some q → ∀ i u, (cellsOf q)[i]? = some u → (flat l)[k * 16 + i]? = some u
 | [], k, q, h => by simp at h
 | y :: l, 0, q, h => fun i u hu => by
   simp at h;subst h;have hi : i < (cellsOf y).length := (List.getElem?_eq_some_iff.1 hu).1;rw [flat, List.flatMap_cons, Nat.zero_mul, Nat.zero_add, List.getElem?_append_left hi];exact hu
 | y :: l, k + 1, q, h => fun i u hu => by
   have := flat_at l k q (by simpa using h) i u hu;rw [flat, List.flatMap_cons, List.getElem?_append_right (by rw [length_cellsOf]; omega), length_cellsOf, show (k + 1) * 16 + i - 16 = k * 16 + i by omega];exact this
def Dep (w : World) (q : Pt) : Prop := Rs w q.V q.n q.c q.r.at_.dp
structure Recs (w : World) (A : Option Addr) (n c : Nat) (qs : List Pt) : Prop where
 len : qs.length = n
 le : n ≤ c
 cap : c ≤ maxLen
 nil : A = none → c = 0
 spot : 0 < n → ∃ g o, A = some ⟨g, o, none⟩ ∧ g < w.heap.size ∧ ∀ j q, qs[j]? = some q → w.rangeAt g (o + j * 16) (cellsOf q)
 dep : ∀ q ∈ qs, Dep w q
section
variable {w w' : World} {A : Option Addr} {n c : Nat} {qs : List Pt}
theorem Recs.nil_ (w : World) : Recs w none 0 0 [] := ⟨rfl, Nat.le_refl _, by simp [maxLen], fun _ => rfl, fun h => absurd h (by omega), fun _ h => by cases h⟩
theorem Recs.keep (h : Recs w A n c qs) (hs : w.heap.size ≤ w'.heap.size) (hk : ∀ p : Addr, p.block < w.heap.size → w'.cell? p = w.cell? p) : Recs w' A n c qs :=
 ⟨h.len, h.le, h.cap, h.nil, fun hn => by
  obtain ⟨g, o, e, hb, hc⟩ := h.spot hn;exact ⟨g, o, e, by omega, fun j q hq i u hu => (hk ⟨g, o + j * 16 + i, none⟩ hb).trans (hc j q hq i u hu)⟩, fun q hq => (h.dep q hq).keep hs hk⟩
theorem Recs.below (h : Recs w A n c qs) (hb : Below w.heap.size w w') : Recs w' A n c qs := h.keep hb.size fun _ hp => hb.cell hp
theorem Recs.alloc (h : Recs w A n c qs) (o : Obj) : Recs (w.alloc o) A n c qs := h.keep (by simp) fun p hp => World.cell?_alloc_lt w o p hp
theorem Recs.drew (h : Recs w A n c qs) : Recs w.drew A n c qs := ⟨h.len, h.le, h.cap, h.nil, h.spot, fun q hq => (h.dep q hq).drew⟩
theorem Recs.at_ {k : Nat} (h : Recs w A n c qs) (hk : k < n) : ∃ g o q, A = some ⟨g, o, none⟩ ∧ g < w.heap.size ∧ qs[k]? = some q ∧ w.rangeAt g (o + k * 16) (cellsOf q) ∧ Dep w q := by
 obtain ⟨g, o, e, hb, hc⟩ := h.spot (by omega);have hl : k < qs.length := by have := h.len; omega
 exact ⟨g, o, qs[k], e, hb, List.getElem?_eq_getElem hl, hc k _ (List.getElem?_eq_getElem hl), h.dep _ (List.getElem_mem hl)⟩
theorem Recs.own {base : Nat} {e : TypeId} {V : Option Addr} (h : w.ownsRow base e 16 (.slice V n c) n (flat qs)) (hd : ∀ q ∈ qs, Dep w q) : Recs w V n c qs := by
 have hl := h.1;rw [length_flat] at hl;rcases h.2 with ⟨e0, rfl⟩ | ⟨g, cap, cur, e0, hb, hg, hnc, hm, hs, ht⟩
 · cases e0
   exact ⟨by omega, Nat.le_refl _, by simp [maxLen], fun _ => rfl, fun h => absurd h (by omega), hd⟩
 · injection e0 with e1 e2 e3
   subst e1;subst e3;refine ⟨by omega, hnc, hm, (fun e => by cases e), fun _ => ⟨g, 0, rfl, (Array.getElem?_eq_some_iff.1 hg).1, fun j q hq i u hu => ?_⟩, hd⟩;have k1 := h.cells (g := g) rfl _ _ (flat_at qs j q hq i u hu);rw [Addr.add_lit] at k1;rw [Nat.zero_add];rwa [Nat.zero_add] at k1
theorem Recs.lit (w : World) (q : Pt) (t : TypeId) (hd : Dep w q) : Recs (w.alloc (.cells (cellsOf q).toArray t)) (some ⟨w.heap.size, 0, none⟩) 1 1 [q] := by
 refine ⟨rfl, Nat.le_refl _, by simp [maxLen], (fun e => by cases e), fun _ => ⟨_, _, rfl, by simp, fun j x hx i u hu => ?_⟩, fun x hx => ?_⟩
 · cases j with
   | zero =>
     simp only [List.getElem?_cons_zero, Option.some.injEq] at hx;subst hx;rw [cell_of_row _ _ _ _ _ _ (heap_alloc_new w _)];simp only [Nat.zero_mul, Nat.zero_add];simpa using hu
   | succ j => simp at hx
 · rw [List.mem_singleton.1 hx]
   exact Rs.alloc hd _
end
theorem append_rec {P : Program} {t ty e : TypeId} {i : TypeInfo} {z : Value} {by_ : Nat} (ht : P.underlying t = some (.slice e)) (hi : P.info? e = some i) (hz : i.zero = some z) (hsize : i.size = 16) (hby : i.bytes = by_) (hzs : z.cells.size = 16) (hb0 : by_ ≤ 4096)
 {w : World} {base n cv : Nat} {V : Option Addr} {qs : List Pt} {q : Pt} {g c : Nat} (hown : w.ownsRow base e 16 (.slice V n cv) n (flat qs)) (hq : w.rangeAt g 0 (cellsOf q)) (hn : n ≤ 1000000000) (hbase : base ≤ w.heap.size) :
 ∃ V' c' w', (Builtin.append_ #[t, t] ty #[.slice V n cv, .slice (some ⟨g, 0, none⟩) 1 c]).run P w = .ok (.slice V' (n + 1) c') w' ∧ w'.ownsRow base e 16 (.slice V' (n + 1) c') (n + 1) (flat (qs ++ [q])) ∧ w.grownBy w' (Value.slice V n cv).ownBlock ∧ Below base w w' := by
 obtain ⟨v', w', hr, ho, hg, _⟩ := run_append_own (P := P) (w := w) base t ty e i z 16 by_ ht hi hz hsize hby hzs (by omega) _ n (flat qs) hown ⟨g, 0, none⟩ 1 c (cellsOf q) (length_cellsOf q)
  (fun j u hu => by rw [Addr.add_lit]; exact hq j u hu) (cellsOf_one q) (by unfold maxLen; omega)
  (Nat.le_trans (Nat.mul_le_mul (show n + 1 ≤ 1000000001 by omega) hb0) (by decide)) hbase
 rw [← flat_one, ← flat_append] at ho;obtain ⟨V', c', rfl⟩ := own_form ho;exact ⟨V', c', w', hr, ho, hg, (Below.refl _ _).grown hg hbase fun k hk => (hown.lt k hk).1⟩
def FRs (A : Option Addr) (n c : Nat) (l : List (Int × Int)) (w : World) (S : Nat → Prop) : Prop := Rs w A n c l ∧ (0 < n → ∀ g o, A = some ⟨g, o, none⟩ → ¬ S g)
theorem frame_rs (A : Option Addr) (n c : Nat) (l : List (Int × Int)) : Dsk.Frame (FRs A n c l) := by
 refine ⟨fun {w w' S S'} h hk hg => ?_⟩;obtain ⟨h1, h2⟩ := h;refine ⟨⟨h1.len, h1.le, h1.cap, h1.nil, fun h0 => ?_⟩, fun h0 g o e hs => ?_⟩
 · obtain ⟨g, o, e, hlt, hc⟩ := h1.spot h0
   have hb := hk.block g hlt (h2 h0 g o e);exact ⟨g, o, e, Nat.lt_of_lt_of_le hlt hk.size, fun j x hx => ⟨(World.cell?_of_block hb).trans (hc j x hx).1, (World.cell?_of_block hb).trans (hc j x hx).2⟩⟩
 · obtain ⟨g', o', e', hlt, _⟩ := h1.spot h0
   cases e.symm.trans e';rcases hg _ hs with h' | h'
   · exact h2 h0 g o e h'
   · omega
def FDep (q : Pt) (w : World) (S : Nat → Prop) : Prop := FRs q.V q.n q.c q.r.at_.dp w S
structure FRecs (A : Option Addr) (n c : Nat) (qs : List Pt) (w : World) (S : Nat → Prop) : Prop where
 row : Recs w A n c qs
 out : 0 < n → ∀ g o, A = some ⟨g, o, none⟩ → ¬ S g
 dep : ∀ q ∈ qs, FDep q w S
theorem frame_recs (A : Option Addr) (n c : Nat) (qs : List Pt) : Dsk.Frame (FRecs A n c qs) := by
 refine ⟨fun {w w' S S'} h hk hg => ?_⟩;have hd : ∀ q ∈ qs, FDep q w' S' := fun q hq => (frame_rs q.V q.n q.c q.r.at_.dp).go (h.dep q hq) hk hg;refine ⟨⟨h.row.len, h.row.le, h.row.cap, h.row.nil, fun h0 => ?_, fun q hq => (hd q hq).1⟩, fun h0 g o e hs => ?_, hd⟩
 · obtain ⟨g, o, e, hlt, hc⟩ := h.row.spot h0
   have hb := hk.block g hlt (h.out h0 g o e);exact ⟨g, o, e, Nat.lt_of_lt_of_le hlt hk.size, fun j q hq i u hu => (World.cell?_of_block hb).trans (hc j q hq i u hu)⟩
 · obtain ⟨g', o', e', hlt, _⟩ := h.row.spot h0
   cases e.symm.trans e';rcases hg _ hs with h' | h'
   · exact h.out h0 g o e h'
   · omega
theorem frs_arg {A : Option Addr} {n c : Nat} {l : List (Int × Int)} {w w1 : World} {S : Nat → Prop} (h : Rs w A n c l) (hS : ∀ k, S k → w.heap.size ≤ k) (hb : Below w.heap.size w w1) : FRs A n c l w1 S :=
 ⟨h.below hb, fun h0 g o e hs => by
  obtain ⟨g', o', e', hlt, _⟩ := h.spot h0;cases e.symm.trans e';have := hS _ hs;omega⟩
theorem frs_new {A : Option Addr} {n c : Nat} {l : List (Int × Int)} {w : World} {S : Nat → Prop} {B : Nat} (h : Rs w A n c l) (hn : ∀ g o, A = some ⟨g, o, none⟩ → B ≤ g) (hS : ∀ k, S k → k < B) : FRs A n c l w S :=
 ⟨h, fun _ g o e hs => by have := hn g o e; have := hS _ hs; omega⟩
theorem Recs.nil_frame (w : World) (S : Nat → Prop) : FRecs none 0 0 [] w S := ⟨Recs.nil_ w, fun h => absurd h (by omega), fun _ h => by cases h⟩
end Go.Proofs.YtkejjdoaljoooaaGreatDoor.Sc
/- A right record's item, and its old form, are right, and not too long for a form; a store's header, its records as bytes, and what they are read as; plain mathematics. -/
namespace Go.Proofs.YtkejjdoaljoooaaGreatDoor.Sc
open Lib (hid)
open Cod Rk
theorem chk_num (v : Int) {d : Nat} (hd : d ≤ 15) : chk (Cmd.numIt v) d = 0 := by
 rw [chk_eq, if_neg (by simp [formed, Cmd.numIt, It.kind, It.str, It.kids]), if_neg (by omega)];rfl
theorem chk_text (s : ByteArray) {d : Nat} (hd : d ≤ 15) : chk (Cmd.textIt s) d = 0 := by
 rw [chk_eq, if_neg (by simp [formed, Cmd.textIt, It.kind, It.num, It.kids]), if_neg (by omega)];rfl
theorem chk_list (l : List It) {d : Nat} (hd : d ≤ 15) : chk (.mk 2 0 ByteArray.empty l) d = chks l (d + 1) := by
 rw [chk_eq, if_neg (by simp [formed, It.kind, It.num, It.str]), if_neg (by omega)];rfl
theorem chk_its (l : List (Int × Int)) {d : Nat} (hd : d ≤ 15) : chks (Ids.its l) d = 0 := by
 rw [chks_zero];intro x hx;obtain ⟨p, _, hx⟩ := List.mem_flatMap.1 hx;simp only [List.mem_cons, List.not_mem_nil, or_false] at hx;rcases hx with rfl | rfl
 · exact chk_num p.1 hd
 · exact chk_num p.2 hd
theorem chk_att (a : Att.At) {d : Nat} (hd : d ≤ 13) : chk (Att.attIt a) d = 0 := by
 unfold Att.attIt;rw [chk_list _ (by omega), chks_zero];intro x hx;simp only [List.mem_cons, List.not_mem_nil, or_false] at hx;rcases hx with rfl | rfl | rfl
 · exact chk_num a.tg (by omega)
 · exact chk_num a.sq (by omega)
 · exact (chk_list _ (by omega)).trans (chk_its a.dp (by omega))
theorem chk_oldAtt (a : Att.At) {d : Nat} (hd : d ≤ 13) : chk (Att.oldIt a) d = 0 := by
 unfold Att.oldIt;rw [chk_list _ (by omega), chks_zero];intro x hx;simp only [List.mem_cons, List.not_mem_nil, or_false] at hx;rcases hx with rfl | rfl
 · exact chk_num a.sq (by omega)
 · exact (chk_list _ (by omega)).trans (chk_its a.dp (by omega))
theorem chk_cm (c : Cmd.Cm) {d : Nat} (hd : d ≤ 14) : chk (Cmd.cmIt c) d = 0 := by
 unfold Cmd.cmIt Cmd.parts;rw [chk_list _ (by omega), chks_zero];intro x hx;simp only [List.mem_cons, List.not_mem_nil, or_false] at hx;rcases hx with rfl | rfl | rfl | rfl | rfl | rfl
 · exact chk_num _ (by omega)
 · exact chk_num _ (by omega)
 · exact chk_num _ (by omega)
 · exact chk_text _ (by omega)
 · exact chk_text _ (by omega)
 · exact chk_num _ (by omega)
theorem chk_bal (b : Int × Int) {d : Nat} (hd : d ≤ 14) : chk (Bal.balIt b) d = 0 := by
 unfold Bal.balIt;rw [chk_list _ (by omega), chks_zero];intro x hx;simp only [List.mem_cons, List.not_mem_nil, or_false] at hx;rcases hx with rfl | rfl
 · exact chk_num _ (by omega)
 · exact chk_num _ (by omega)
theorem chks_app {a b : List It} {d : Nat} (ha : chks a d = 0) (hb : chks b d = 0) : chks (a ++ b) d = 0 := by rw [chks_append, if_pos ha, hb]
theorem chks_two {a b : It} {d : Nat} (ha : chk a d = 0) (hb : chk b d = 0) : chks [a, b] d = 0 := by
 rw [chks_zero];intro x hx;simp only [List.mem_cons, List.not_mem_nil, or_false] at hx;rcases hx with rfl | rfl
 · exact ha
 · exact hb
theorem chk_laidIt (r : Rc) {y : It} (hy : chk y 1 = 0) : chk (laidIt r y) 0 = 0 := by
 have hf : chks (fronts r) (0 + 1) = 0 := by
  rw [chks_zero];intro x hx;simp only [fronts, List.mem_cons, List.not_mem_nil, or_false] at hx;rcases hx with rfl | rfl | rfl | rfl | rfl
  · exact chk_num _ (by omega)
  · exact chk_num _ (by omega)
  · exact chk_num _ (by omega)
  · exact chk_bal _ (by omega)
  · exact chk_bal _ (by omega)
 unfold laidIt;rw [chk_list _ (by omega)];split
 · exact hf
 · exact chks_app hf (chks_two (chk_cm _ (by omega)) hy)
def put (v : Nat) (r : Rc) : It × Int := if v = 1 then recOld r else (recItem r, rchk r)
noncomputable def take (v : Nat) (x : It) : Option Rc := if v = 1 then oldTakeRc x else takeRc x
def lay (v : Nat) (r : Rc) : List Nat := Cod.form (put v r).1
structure Good (v : Nat) (r : Rc) : Prop where
 ok : (put v r).2 = 0
 fit : Fit (put v r).1
theorem right_of {v : Nat} {r : Rc} (h : (put v r).2 = 0) : rgt r = true := by
 unfold put at h;split at h
 · unfold recOld at h
   split at h
   · rename_i hr; exact hr
   · cases h
 · unfold rchk at h
   simp only at h;split at h
   · rename_i hr; exact hr
   · cases h
theorem put_chk {v : Nat} {r : Rc} (h : (put v r).2 = 0) : chk (put v r).1 0 = 0 := by
 have hr := right_of h;unfold put at h ⊢;split
 · rename_i hv
   rw [if_pos hv] at h;unfold recOld at h ⊢;rw [if_pos hr] at h ⊢;split
   · rename_i h2
     rw [if_pos h2] at h;cases h
   · exact chk_laidIt r (chk_oldAtt _ (by omega))
 · show chk (recItem r) 0 = 0
   unfold recItem;rw [if_pos hr];exact chk_laidIt r (chk_att _ (by omega))
theorem put_take {v : Nat} {r : Rc} (h : (put v r).2 = 0) : take v (put v r).1 = some r := by
 have hr := right_of h;unfold put take at *;split
 · rename_i hv
   rw [if_pos hv] at h;exact old_back h
 · exact rec_back hr
theorem wt_put (v : Nat) (r : Rc) : wt (put v r).1 ≤ 100000 := by
 unfold put;split
 · exact wt_recOld r
 · exact wt_recItem r
theorem lay_len {v : Nat} {r : Rc} (h : Good v r) : (lay v r).length ≤ 1000000 := by
 have h1 := length_form_le (put v r).1 h.fit;have h2 := wt_put v r;unfold lay;omega
theorem lay_lt {v : Nat} {r : Rc} (h : Good v r) : ∀ b ∈ lay v r, b < 256 := Cp.form_bytes _ h.fit
theorem lay_get {v : Nat} {r : Rc} (h : Good v r) : Cod.get (lay v r) = .ok (put v r).1 0 := get_form (put_chk h.ok) h.fit (by have := lay_len h; unfold lay at this; omega)
def mark : ByteArray := ⟨#[115, 116, 111, 110, 101, 99, 114, 111, 112]⟩
def hdrIt (v : Nat) : It := .mk 2 0 ByteArray.empty [.mk 1 0 mark [], .mk 0 v ByteArray.empty []]
def hdr (v : Nat) : List Nat := [2, 2, 1, 9, 115, 116, 111, 110, 101, 99, 114, 111, 112, 0, v]
theorem form_hdr {v : Nat} (hv : v < 248) : Cod.form (hdrIt v) = hdr v := by
 have e : Num.put v = [v] := by unfold Num.put; rw [if_pos hv]
 have e9 : Num.put 9 = [9] := by unfold Num.put; rw [if_pos (by omega)]
 have e2 : Num.put 2 = [2] := by unfold Num.put; rw [if_pos (by omega)]
 have h0 : Cod.form (It.mk 0 v ByteArray.empty []) = [0, v] := by rw [form0 rfl]; show 0 :: Num.put v = _; rw [e]
 have h1 : Cod.form (It.mk 1 0 mark []) = [1, 9, 115, 116, 111, 110, 101, 99, 114, 111, 112] := by
  rw [form1 rfl];show 1 :: (Num.put 9 ++ bts mark) = _;rw [e9];rfl
 unfold hdrIt;rw [form2 rfl];show 2 :: (Num.put 2 ++ Cod.forms [It.mk 1 0 mark [], It.mk 0 v ByteArray.empty []]) = _;rw [e2, Cod.forms, Cod.forms, Cod.forms, h0, h1];rfl
theorem hdr_ne : hdr 1 ≠ hdr 2 := by decide
def loadOf : List (List Nat) → Nat × List (List Nat) × Nat
 | [] => (0, [], 0)
 | h :: t => if h = hdr 1 then (1, t, 0) else if h = hdr 2 then (2, t, 0) else (0, [], 19)
theorem load_cons (h : List Nat) (t : List (List Nat)) : loadOf (h :: t) = if h = hdr 1 then (1, t, 0) else if h = hdr 2 then (2, t, 0) else (0, [], 19) := rfl
noncomputable def recsOf (v : Nat) : List (List Nat) → Option (List Rc)
 | [] => some []
 | p :: t => match Cod.get p with
   | .ok x _ => match take v x with
     | some r => (recsOf v t).map (r :: ·)
     | none => none
   | .bad _ _ => none
noncomputable def readOf (v : Nat) (l : List (List Nat)) : List Rc × Nat :=
 if (loadOf l).2.2 ≠ 0 then ([], (loadOf l).2.2) else if v < (loadOf l).1 then ([], 13) else if 0 < (loadOf l).1 ∧ (loadOf l).1 < v then ([], 14) else
  match recsOf v (loadOf l).2.1 with
  | none => ([], 19)
  | some rs => (heldK Rc.id rs, 0)
def stored (v : Nat) (rs : List Rc) : List (List Nat) := hdr v :: rs.map (lay v)
theorem load_stored {v : Nat} (hv : v = 1 ∨ v = 2) (rs : List Rc) : loadOf (stored v rs) = (v, rs.map (lay v), 0) := by
 rcases hv with rfl | rfl
 · rfl
 · unfold stored
   rw [load_cons, if_neg (Ne.symm hdr_ne), if_pos rfl]
theorem recs_stored {v : Nat} {rs : List Rc} (h : ∀ r ∈ rs, Good v r) : recsOf v (rs.map (lay v)) = some rs := by
 induction rs with
 | nil => rfl
 | cons r t ih =>
   rw [List.map_cons]
   show (match Cod.get (lay v r) with
    | .ok x _ => match take v x with
      | some r => (recsOf v (t.map (lay v))).map (r :: ·)
      | none => none
    | .bad _ _ => none) = _
   rw [lay_get (h r (by simp))];simp only;rw [put_take (h r (by simp)).ok];simp only;rw [ih fun x hx => h x (by simp [hx])];rfl
theorem read_stored {v : Nat} (hv : v = 1 ∨ v = 2) {rs : List Rc} (h : ∀ r ∈ rs, Good v r) : readOf v (stored v rs) = (heldK Rc.id rs, 0) := by
 unfold readOf;rw [load_stored hv];simp only;rw [if_neg (by simp), if_neg (by omega), if_neg (by omega), recs_stored h]
theorem read_none (v : Nat) : readOf v [] = ([], 0) := by
 unfold readOf loadOf;simp [recsOf, heldK]
theorem read_new (rs : List Rc) : readOf 1 (stored 2 rs) = ([], 13) := by
 unfold readOf;rw [load_stored (.inr rfl)];simp
theorem read_old (rs : List Rc) : readOf 2 (stored 1 rs) = ([], 14) := by
 unfold readOf;rw [load_stored (.inl rfl)];simp
theorem hdr_lt {v : Nat} (hv : v = 1 ∨ v = 2) : ∀ b ∈ hdr v, b < 256 := by rcases hv with rfl | rfl <;> decide
theorem stored_ok {v : Nat} (hv : v = 1 ∨ v = 2) {rs : List Rc} (h : ∀ r ∈ rs, Good v r) : Lg.Ok (stored v rs) := by
 intro p hp;rcases List.mem_cons.1 hp with rfl | hp
 · exact ⟨by show (15 : Nat) ≤ _; omega, hdr_lt hv⟩
 · obtain ⟨r, hr, rfl⟩ := List.mem_map.1 hp
   have := lay_len (h r hr);exact ⟨by omega, lay_lt (h r hr)⟩
end Go.Proofs.YtkejjdoaljoooaaGreatDoor.Sc
/- A map of records by their ids: what it reads as, one more record, what is found in it. -/
namespace Go.Proofs.YtkejjdoaljoooaaGreatDoor.Sc
open Lib (hid)
open Go.RowKit Mem Ids Rk Go.Maps
theorem id_law : Keyed Tryz.prog 34 := by
 have h1 : decide (Tryz.prog.types.size + 2 ≤ 10000) = true := by kernel_rfl
 have h2 : decide (34 < Tryz.prog.types.size) = true := by kernel_rfl
 exact Keyed.of_law (deep_law_gate (by kernel_rfl) (of_decide_eq_true h1) (of_decide_eq_true h2) (by kernel_rfl) (by kernel_rfl))
def kid (i : Int × Int) : Lit := .string (keyBytes [.int .i64 i.1, .int .i64 i.2])
def Wf (i : Int × Int) : Prop := (Lit.int .i64 i.1).wf = true ∧ (Lit.int .i64 i.2).wf = true
def idV (i : Int × Int) : Value := .agg #[.int .i64 i.1, .int .i64 i.2]
theorem id_lits (m : Nat) (cs : List Value) : Tryz.prog.keyLits (m + 2) 34 cs = match cs with
 | [.int .i64 a, .int .i64 b] => if (Lit.int .i64 a).wf = true ∧ (Lit.int .i64 b).wf = true then some [.int .i64 a, .int .i64 b] else none
 | _ => none := by
 have hc : Tryz.prog.cellsOf 34 = 2 := by kernel_rfl
 have hi : Tryz.prog.cellsOf 3 = 1 := by kernel_rfl
 unfold Program.keyLits;rw [Tryz.underlying34];simp only [hc];by_cases hl : cs.length = 2
 · obtain ⟨x, y, rfl⟩ : ∃ x y, cs = [x, y] := by
    match cs, hl with
    | [x, y], _ => exact ⟨x, y, rfl⟩
   rw [if_pos ⟨rfl, by kernel_rfl⟩];simp only [List.mapM_cons, List.mapM_nil, hi, List.drop_zero, List.drop_succ_cons, List.take_succ_cons, List.take_zero];unfold Program.keyLits;simp only [Tryz.underlying3];cases x <;> cases y <;> simp;rename_i k n k' n';cases k <;> cases k' <;> simp;by_cases h1 : (Lit.int .i64 n).wf = true <;> by_cases h2 : (Lit.int .i64 n').wf = true <;> simp [h1, h2]
 · rw [if_neg (fun h => hl h.1)]
   split
   · exact absurd rfl hl
   · rfl
theorem size_two : ∃ m, Tryz.prog.types.size + 1 = m + 2 := ⟨Tryz.prog.types.size - 1, by kernel_rfl⟩
theorem id_key {i : Int × Int} (h : Wf i) : keyOf Tryz.prog 34 (idV i) = some (kid i) := by
 have hk : Tryz.prog.keyType 34 = true := by kernel_rfl
 have hf : (idV i).formed Tryz.prog 34 = true := by kernel_rfl
 obtain ⟨m, hm⟩ := size_two;unfold keyOf;rw [Tryz.underlying34];simp only [hk, hf, Bool.and_self, if_true, hm];have e : (idV i).cells.toList = [.int .i64 i.1, .int .i64 i.2] := rfl;rw [e, id_lits];simp only;rw [if_pos ⟨h.1, h.2⟩];rfl
theorem id_of_key {v : Value} {l : Lit} (h : keyOf Tryz.prog 34 v = some l) : ∃ i, Wf i ∧ v = idV i ∧ l = kid i := by
 obtain ⟨xs, L, rfl, h1, rfl⟩ := keyOf_top (P := Tryz.prog) (k := 34) (by kernel_rfl) h;obtain ⟨m, hm⟩ := size_two;rw [hm, id_lits] at h1;split at h1
 · rename_i a b e
   split at h1
   · rename_i hw
     injection h1 with h1;subst h1;exact ⟨(a, b), hw, by unfold idV; rw [← e], rfl⟩
   · cases h1
 · cases h1
theorem kid_inj {a b : Int × Int} (ha : Wf a) (hb : Wf b) (h : kid a = kid b) : a = b := by
 have h1 := id_key ha;rw [h] at h1;have h2 := id_law.inj h1 (id_key hb);unfold idV at h2;simp only [Value.agg.injEq, Array.mk.injEq, List.cons.injEq, Value.int.injEq, true_and, and_true] at h2;exact Prod.ext h2.1 h2.2
theorem key_lit {i : Int × Int} (h : Wf i) : WideAt.IsKeyLit (kid i) := id_law.key (id_key h)
def heldV (v : Value) : Option (DataW Value × List MemPlace) := some (.held v, [])
def Holds (D : DataW Value) (qs : List Pt) : Prop := IsMap D ∧ ∀ i, Wf i → has D (kid i) = (lastK ptId qs i).isSome ∧ ∀ z q, lastK ptId qs i = some q → D.atKey (kid i) z = .held (val q)
theorem Holds.nil : Holds (.map []) [] := ⟨isMap_empty, fun i _ => ⟨rfl, fun z q h => by simp [lastK] at h⟩⟩
theorem Holds.put {D : DataW Value} {qs : List Pt} {q : Pt} (h : Holds D qs) (hq : Wf (ptId q)) : Holds (D.put (kid (ptId q)) (.held (val q))) (qs ++ [q]) := by
 refine ⟨h.1.put _ _, fun i hi => ?_⟩;rw [lastK_snoc];by_cases e : ptId q = i
 · subst e
   rw [if_pos rfl];refine ⟨has_put_same h.1 (key_lit hq) _, fun z p hp => ?_⟩;injection hp with hp;subst hp;exact atKey_put_same h.1 (key_lit hq) _ _
 · have hne : kid i ≠ kid (ptId q) := fun e' => e (kid_inj hi hq e').symm
   rw [if_neg e, has_put_other hne];exact ⟨(h.2 i hi).1, fun z p hp => by rw [atKey_put_other hne]; exact (h.2 i hi).2 z p hp⟩
def zeroPt : Pt := ⟨zeroRc, none, 0, 0⟩
theorem zero_rec (w : World) : (zeroValue 43).run Tryz.prog w = .ok (val zeroPt) w := by kernel_rfl
theorem Holds.find {w : World} {b n : Nat} {D : DataW Value} {qs : List Pt} {q : Pt} {i : Int × Int} (h : Holds D qs) (hown : w.ownsMap Tryz.prog 34 heldV b n D) (hi : Wf i) (hq : lastK ptId qs i = some q) :
 (Instr.lookup 125 (.map (some b)) (idV i) false).run Tryz.prog w = .ok (val q) w := by
 obtain ⟨v, ps, hr, hv⟩ := hown.lookup id_law Tryz.underlying125 (zero_rec w) (zd := .held (val zeroPt)) (zp := []) rfl (id_key hi);rw [(h.2 i hi).2 _ q hq] at hv;simp only [heldV, Option.some.injEq, Prod.mk.injEq, DataW.held.injEq] at hv;have e := hv.1;subst e;exact hr
theorem store_rec {w : World} {b n : Nat} {D : DataW Value} {q : Pt} (hown : w.ownsMap Tryz.prog 34 heldV b n D) (hq : Wf (ptId q)) (hn : n < maxLen) :
 ∃ w', (Instr.mapUpdate 125 (.map (some b)) (idV (ptId q)) (val q)).run Tryz.prog w = .ok () w' ∧ w'.ownsMap Tryz.prog 34 heldV b (n + 1) (D.put (kid (ptId q)) (.held (val q))) ∧ w.grownBy w' (some b) :=
 hown.update id_law Tryz.underlying125 hn (id_key hq) (d := .held (val q)) (ps := []) rfl
end Go.Proofs.YtkejjdoaljoooaaGreatDoor.Sc
/- maps.Keys and slices.Collect at the map of records: the ids of all that it has, in some order, in memory of the call's own. -/
namespace Go.Proofs.YtkejjdoaljoooaaGreatDoor.Sc
open Lib (hid)
open Go.RowKit Mem Ids Rk Go.Maps Go.Shelf
attribute [local go_sem] Oper.semAt_some
def Got (D : DataW Value) (left : Lit → Bool) (ys : List (Int × Int)) : Prop := (∀ i ∈ ys, Wf i) ∧ ∀ i, Wf i → (i ∈ ys ↔ has D (kid i) = true ∧ left (kid i) = false)
theorem Got.start (D : DataW Value) : Got D (has D) [] := ⟨fun _ h => by (cases h), fun i _ => by cases has D (kid i) <;> simp⟩
theorem Got.step {D : DataW Value} {left : Lit → Bool} {ys : List (Int × Int)} {i : Int × Int} {y : DataW Value} (h : Got D left ys) (hi : Wf i) (hl : left (kid i) = true) (hat : ∀ z, D.atKey (kid i) z = y) : Got D (fun z => left z && !z.sameKey (kid i)) (ys ++ [i]) := by
 have hh : has D (kid i) = true := has_true_of_atKey hat;refine ⟨fun j hj => ?_, fun j hj => ?_⟩
 · rcases List.mem_append.1 hj with hj | hj
   · exact h.1 j hj
   · rw [List.mem_singleton.1 hj]; exact hi
 · rw [List.mem_append, List.mem_singleton, h.2 j hj]
   by_cases e : j = i
   · subst e
     have := WideAt.sameKey_self (key_lit hi);simp [hh, this]
   · have := sameKey_ne (fun e' => e (kid_inj hj hi e'))
     simp [this, e]
def AllIds (D : DataW Value) (ys : List (Int × Int)) : Prop := (∀ i ∈ ys, Wf i) ∧ ∀ i, Wf i → (i ∈ ys ↔ has D (kid i) = true)
set_option maxRecDepth 100000 in
set_option maxHeartbeats 2000000 in
theorem keys1_in (n : Nat) (hn : 1 ≤ n) (b nn : Nat) (D : DataW Value) (lk Bm : Nat) (J Jx : List (Int × Int) → World → Prop) (W : World) (hJ : AbidesFrom W.heap.size J)
 (hY : ∀ pre x W1, J pre W1 → pre.length < Maps.size D → YieldAt Fence.wide (n - 1) Tryz.prog lk #[idV x] W1 fun e W' => (e = .returned (.bool true) ∧ J (pre ++ [x]) W' ∧ KeepsWalks W1 W') ∨ (e = .returned (.bool false) ∧ Jx (pre ++ [x]) W'))
 (hm : W.cell? ⟨Bm, 0, none⟩ = some (.map (some b))) (hown : W.ownsMap Tryz.prog 34 heldV b nn D) (h0 : J [] W) :
 CallsIn Fence.wide n Tryz.prog 120 #[.func (.yield lk) #[] #[], .pointer (some ⟨Bm, 0, none⟩)] W fun e W' => (∃ v, e = .returned v) ∧
  ((∃ ys : List (Int × Int), (AllIds D ys ∧ ys.length ≤ Maps.size D) ∧ J ys W') ∨ (∃ pre, True ∧ Jx pre W')) := by
 refine callsIn_of_wp Tryz.func120 rfl trivial ?_ rfl;simp only [Tryz.ntmps120, List.size_toArray, List.length_cons, List.length_nil, Nat.reduceAdd, Nat.reduceSub, Array.replicate_succ, Array.replicate_zero, List.push_toArray, List.append_toArray, List.nil_append, List.cons_append]
 gi_wp2_with (first
  | (gi_at_range; refine wpListIn_range_own _ rfl _ 125 rfl 34 43 id_law Tryz.underlying125 _ b nn _ rfl hown ?_; intro w0 hrg0 hg0 hs0)
  | gi_in)
 go_frame
 gi_loopw [3] (fun _ wr => ∃ (left : Lit → Bool) (cnt : Nat) (ys : List (Int × Int)), wr.ranges Tryz.prog 34 heldV b W.heap.size nn D left cnt ∧ ys.length + cnt ≤ Maps.size D ∧ Got D left ys ∧ J ys wr)
  (fun _ wr => wr.rangeLeft b W.heap.size)
 case atStart =>
  exact ⟨_, _, [], hrg0, by simp, Got.start D, hJ [] W w0 none h0 hg0 (fun r e => by cases e)⟩
 case round =>
  obtain ⟨left, cnt, ys, hrg, hcs, hC, hJs⟩ := hrel
  gi_wp2_with (first
   | (gi_at_next; refine wpListIn_next_ranges _ rfl _ rfl 34 id_law heldV idV id (fun key kl hk => by obtain ⟨i, _, hx, _⟩ := id_of_key hk; exact ⟨i, hx⟩) (fun v _ _ => ⟨v, rfl⟩) b W.heap.size nn _ _ _ rfl hrg ?_ ?_)
   | gi_in)
  · intro hc0 hl0
    gi_wp2
    go_end0
    exact ⟨⟨_, rfl⟩, .inl ⟨ys, ⟨⟨hC.1, fun i hi => by rw [hC.2 i hi, hl0]; simp⟩, by omega⟩, hJs⟩⟩
  · intro x1 x2 c kl yd yp w2 cnt2 hkey hlk hv hat hrg2 hlt hg2 hs2 hen
    obtain ⟨x, hx⟩ : ∃ x : Int × Int, x = (x1, x2) := ⟨_, rfl⟩
    have hx1 : x1 = x.1 := (by rw [hx]);have hx2 : x2 = x.2 := (by rw [hx]);rw [← hx] at hkey hen;subst hx1 hx2;clear hx;obtain ⟨x', hwf, ex, rfl⟩ := id_of_key hkey
    have exx : x = x' := by
     unfold idV at ex;simp only [Value.agg.injEq, Array.mk.injEq, List.cons.injEq, Value.int.injEq, true_and, and_true] at ex;exact Prod.ext ex.1 ex.2
    subst exx;have hJ2 : J ys w2 := hJ ys wr w2 (some W.heap.size) hJs hg2 (fun r e => by cases e; exact ⟨Nat.le_refl _, hrg.iter_walk⟩);have hJ3 : J ys (w2.alloc (.cells #[.int .i64 x.1, .int .i64 x.2] 34)) := hJ ys w2 _ none hJ2 (World.grownBy_alloc w2 _ none) (fun r e => by cases e);obtain ⟨fn, tmps, assign, body, hy, hR⟩ := hY ys x _ hJ3 (by omega);have hrg3 := hrg2.alloc (.cells #[.int .i64 x.1, .int .i64 x.2] 34);have HR := hid hR;have HG := hid (And.intro hrg3 (And.intro (hC.step hwf hlk hat) (And.intro hlt hrg)));have HC := hid hcs;unfold idV at *;clear hs2 hR hrg2 hrg3 hJ2 hJ3 hJs hC hv hat hlk hkey hg2 hwf hown hm h0 hg0 hs0 hrg0 hlt hrg hcs ex
    gi_wp2_with fail
    refine HR.out.mono ?_;rintro e W3 (⟨rfl, hJ3, hk3⟩ | ⟨rfl, hJx3⟩)
    · have hrg4 := HG.out.1.of_walks hk3
      have HG4 := hid hrg4;have HJ3 := hid hJ3;clear hk3 hrg4 hJ3
      gi_wp2_with fail
      go_roundw
      case rel => exact ⟨_, cnt2, ys ++ [x], HG4.out, by have h1 := HC.out; have h2 := HG.out.2.2.1; simp; omega, HG.out.2.1, HJ3.out⟩
      case measure => rw [HG4.out.left_eq, HG.out.2.2.2.left_eq]; exact HG.out.2.2.1
    · have HJ3 := hid hJx3
      clear hJx3
      gi_wp2_with fail
      refine bodyPost_ret (results_none rfl _ _ _) rfl ?_;exact ⟨⟨_, rfl⟩, .inr ⟨_, trivial, HJ3.out⟩⟩
theorem keys_stops (n : Nat) (hn : 1 ≤ n) (b nn : Nat) (D : DataW Value) (Bm : Nat) (W0 : World) (hm : W0.cell? ⟨Bm, 0, none⟩ = some (.map (some b))) (hown : W0.ownsMap Tryz.prog 34 heldV b nn D) :
 SeqStopsK Fence.wide n Tryz.prog 120 #[.pointer (some ⟨Bm, 0, none⟩)] (fun x : Int × Int => #[idV x]) KeepsWalks (fun ys => AllIds D ys ∧ ys.length ≤ Maps.size D) (fun _ => True) (Maps.size D) W0 :=
 fun lk J Jx W hW hJ _ hY h0 => keys1_in n hn b nn D lk Bm J Jx W hJ hY ((hW.cell (World.block_lt_of_cell? _ _ hm)).trans hm) (hown.kept (Cod.below_gr hW none) (by simp)) h0
set_option maxHeartbeats 1000000 in
theorem keys_in (n : Nat) (mb : Option Nat) (w : World) : CallsIn Fence.wide n Tryz.prog 64 #[.map mb] w fun e w' => e = .returned (.func (.func 120) #[] #[.pointer (some ⟨w.heap.size, 0, none⟩)]) ∧ w' = w.alloc (.cells #[.map mb] 125) := by
 refine callsIn_of_wp Tryz.func64 rfl trivial ?_ rfl;simp only [Tryz.ntmps64, List.size_toArray, List.length_cons, List.length_nil, Nat.reduceAdd, Nat.reduceSub, Array.replicate_succ, Array.replicate_zero, List.push_toArray, List.append_toArray, List.nil_append, List.cons_append]
 gi_wp2
 go_ret;exact ⟨rfl, rfl⟩
end Go.Proofs.YtkejjdoaljoooaaGreatDoor.Sc
/- slices.AppendSeq and slices.Collect over the ids of a map of records. -/
namespace Go.Proofs.YtkejjdoaljoooaaGreatDoor.Sc
open Lib (hid)
open Go.RowKit Mem Ids Rk Go.Maps Go.Shelf
attribute [local go_sem] Oper.semAt_some
theorem info_id : (Tryz.prog.info? 34).map (fun i => (i.zero, i.size, i.bytes)) = some (some (.agg #[.int .i64 0, .int .i64 0]), 2, 16) := by kernel_rfl
def CollRow (w : World) (pre : List (Int × Int)) (W : World) : Prop :=
 ∃ V k, Boxed W w.heap.size 39 (.slice V pre.length k) ∧ W.ownsRow (w.heap.size + 1) 34 2 (.slice V pre.length k) pre.length (Ids.cells pre)
def CollI (w : World) (pre : List (Int × Int)) (W : World) : Prop := CollRow w pre W ∧ (Below w.heap.size w W ∧ w.heap.size + 1 ≤ W.heap.size)
def CollA (w : World) (x : Int × Int) (sv : Value) (a : Act) (W : World) : Prop :=
 ∃ g, a = { tmps := #[.slice none 0 0, sv, .pointer (some ⟨w.heap.size, 0, none⟩), undef, .slice none 0 0, .pointer (some ⟨g, 0, none⟩), sv, idV x, undef, undef, undef, undef, undef], defers := [] } ∧ W.heap[g]? = some (.cells #[.int .i64 x.1, .int .i64 x.2] 34 (0, 0)) ∧ w.heap.size + 1 ≤ g
theorem coll_row_own (w : World) : Go.Own (CollRow w) := by
 rintro pre X Y row ⟨V, k, hb, hr⟩ hg hrow;refine ⟨V, k, hb.kept hg fun e => ?_, Lg.row_kept hr hg fun g cur _ hgb e => ?_⟩
 · obtain ⟨o, ho, hc⟩ := hrow _ e.symm
   exact Lg.not_cells hb ho hc rfl
 · obtain ⟨o, ho, hc⟩ := hrow g e
   exact Lg.not_cells hgb ho hc rfl
theorem coll_own (w : World) : OwnFrom (w.heap.size + 1) (CollI w) :=
 OwnFrom.and ((coll_row_own w).from _) (OwnFrom.and (ownFrom_below (Nat.le_refl _) (by omega)) (fun _ _ _ _ h hg _ => Nat.le_trans h hg.size))
theorem coll_a_own (w : World) (x : Int × Int) (sv : Value) (a : Act) : OwnFrom (w.heap.size + 1) (fun (_ : Unit) W => CollA w x sv a W) := by
 rintro _ X Y row ⟨g, ha, hb, hg0⟩ hg hrow;refine ⟨g, ha, (hg.block g (Array.getElem?_eq_some_iff.1 hb).1 fun e => ?_).trans hb, hg0⟩;obtain ⟨_, o, ho, hc⟩ := hrow g e.symm;exact Lg.not_cells hb ho hc rfl
theorem walks_of {W W' : World} (h : KeepsOthers W W') : KeepsWalks W W' := ⟨h.size, fun k o hk hw => h.same k o hk (Obj.not_cells_of_walk hw)⟩
theorem coll_step {w W w4 : World} {pre : List (Int × Int)} {x : Int × Int} {V : Option Addr} {k : Nat} {v' : Value} {o : Obj} (hv : Boxed W w.heap.size 39 (.slice V pre.length k)) (hrow : W.ownsRow (w.heap.size + 1) 34 2 (.slice V pre.length k) pre.length (Ids.cells pre))
 (hB : Below w.heap.size w W) (hBs : w.heap.size + 1 ≤ W.heap.size) (ho4 : w4.ownsRow (w.heap.size + 1) 34 2 v' (pre.length + 1) (Ids.cells pre ++ Ids.enc x)) (hg4 : (W.alloc o).grownBy w4 (Value.slice V pre.length k).ownBlock) :
 (w4.cell? ⟨w.heap.size, 0, none⟩ = some (.slice V pre.length k) ∧ w4.frozen? ⟨w.heap.size, 0, none⟩ = false) ∧ KeepsFrom (w.heap.size + 1) W (w4.setCell ⟨w.heap.size, 0, none⟩ v') ∧ KeepsWalks W (w4.setCell ⟨w.heap.size, 0, none⟩ v') ∧ CollI w (pre ++ [x]) (w4.setCell ⟨w.heap.size, 0, none⟩ v') := by
 have hb3 : Below W.heap.size W (W.alloc o) := bel_alloc (Below.refl _ _) o;have hrow3 := ownsRow_below hrow hb3;have hbB : Below (w.heap.size + 1) (W.alloc o) w4 := (Below.refl _ _).grown hg4 (by have := hb3.size; omega) fun j e => (hrow3.lt j e).1;have hv3 : Boxed (W.alloc o) w.heap.size 39 (.slice V pre.length k) := (hb3.block _ hv.lt).trans hv;have hv4 : Boxed w4 w.heap.size 39 (.slice V pre.length k) := (hbB.block _ (by omega)).trans hv3;have hg5 := grownBy_setCell' w4 w.heap.size v';have hv5 := hv4.set v';obtain ⟨g4, c4, rfl⟩ := ownsRow_succ ho4;have hg4B : w.heap.size + 1 ≤ g4 := (ho4.lt g4 rfl).1
 have ho5 := Lg.row_kept ho4 hg5 fun g cur hvb hgb e => by
  injection e with e;injection hvb with hvb;simp only at hvb;omega
 have k1 : KeepsOthers W (W.alloc o) := KeepsOthers.of_grownBy (World.grownBy_alloc W o none) fun j o e _ => by cases e
 have k2 : KeepsOthers (W.alloc o) w4 := KeepsOthers.of_grownBy hg4 fun j o e ho => by
  rcases hrow3.2 with ⟨e0, _⟩ | ⟨g', cap', cur', e', _, hgb', _⟩
  · rw [e0] at e; cases e
  · have ej : g' = j := by simpa [e', Value.ownBlock] using e
    subst ej;rw [hgb'] at ho;exact Option.some.inj ho ▸ rfl
 have hk := (k1.trans k2).trans (KeepsOthers.setCell w4 ⟨w.heap.size, 0, none⟩ (.slice (some ⟨g4, 0, none⟩) (pre.length + 1) c4));refine ⟨⟨hv4.cell, hv4.frozen⟩, hk.from _, walks_of hk, ⟨some ⟨g4, 0, none⟩, c4, ?_, ?_⟩, ?_, ?_⟩
 · rw [List.length_append]; exact hv5
 · rw [List.length_append, Ids.cells_append]
   have e1 : Ids.cells [x] = Ids.enc x := (by simp [Ids.cells]);rw [e1];exact ho5
 · have hb5 : Below w.heap.size W w4 := (hb3.mono (by omega)).trans (hbB.mono (by omega))
   exact (hB.trans hb5).grown hg5 (hB.trans hb5).size fun j e => by injection e with e; omega
 · have h1 := hb3.size
   have h2 := hbB.size;have h3 := hg5.size;omega
set_option maxRecDepth 100000 in
set_option maxHeartbeats 4000000 in
theorem appendseq_any (b nn : Nat) (D : DataW Value) (Bm : Nat) (w : World) (hm : w.cell? ⟨Bm, 0, none⟩ = some (.map (some b))) (hown : w.ownsMap Tryz.prog 34 heldV b nn D) (hN : Maps.size D ≤ 1000000000) :
 Calls Tryz.prog 119 #[.slice none 0 0, .func (.func 120) #[] #[.pointer (some ⟨Bm, 0, none⟩)]] w fun e w' =>
  ∃ V k ys, e = .returned (.slice V ys.length k) ∧ AllIds D ys ∧ ys.length ≤ Maps.size D ∧ Rs w' V ys.length k ys ∧ Below w.heap.size w w' := by
 obtain ⟨i0, hi, hz0, hz1, hz2⟩ := info_parts info_id;refine (callsIn_wide (n := 6)).1 ?_;refine callsIn_of_wp_marks Tryz.func119 rfl trivial ?_ rfl;simp only [Tryz.ntmps119, List.size_toArray, List.length_cons, List.length_nil, Nat.reduceAdd, Nat.reduceSub, Array.replicate_succ, Array.replicate_zero, List.push_toArray, List.append_toArray, List.nil_append, List.cons_append]
 gi_wp2_with fail
 have bO := Boxed.new w 39 (.slice none 0 0);have hB0 : Below w.heap.size w (w.alloc (.cells #[.slice none 0 0] 39)) := bel_alloc (Below.refl _ _) _;have hm0 := (hB0.cell (p := ⟨Bm, 0, none⟩) (World.block_lt_of_cell? _ _ hm)).trans hm;have hown0 := hown.alloc (.cells #[.slice none 0 0] 39);obtain ⟨W0, hW0⟩ : ∃ W0, w.alloc (.cells #[.slice none 0 0] 39) = W0 := ⟨_, rfl⟩
 have hsz0 : W0.heap.size = w.heap.size + 1 := by rw [← hW0]; simp
 rw [hW0] at bO hB0 hm0 hown0 ⊢;have hst := keys_stops 5 (by omega) b nn D Bm W0 hm0 hown0;obtain ⟨sv, hsv⟩ : ∃ sv, sv = Value.func (.func 120) #[] #[.pointer (some ⟨Bm, 0, none⟩)] := ⟨_, rfl⟩
 refine wpIn_rangeFunc_ownH rfl (by omega) (gf := 120) (lb := #[.pointer (some ⟨Bm, 0, none⟩)]) rfl trivial (enters_of Tryz.func120 (by kernel_rfl) rfl)
  hst (fun h k => KeepsWalks.trans h k) (fun W l o o' _ h _ hw => KeepsWalks.putObj o' h hw) (Below.refl _ _) (fun _ => rfl)
  (CollI w) (fun _ _ _ => False) (by rw [hsz0]; exact coll_own w) (fun _ _ _ _ _ hs _ _ => hs)
  ⟨⟨none, 0, bO, World.ownsRow_nil _ _ _ _⟩, hB0, by omega⟩
  (fun x a W => CollA w x (Value.func (.func 120) #[] #[.pointer (some ⟨Bm, 0, none⟩)]) a W) (fun x a => by rw [hsz0]; exact coll_a_own w x _ a) ?assign ?body ?done ?stop
 case assign =>
  intro l pre x W K hi hK;have hp := hK;have hI2 : CollI w pre (W.alloc (.cells #[.int .i64 x.1, .int .i64 x.2] 34)) := (coll_own w).alloc _ hi;have hbs := hi.2.2;have HK := hid hK;have HI := hid hI2;clear hK hp hi hI2;unfold idV
  gi_wp2
  refine HK.out _ _ ((KeepsOthers.of_grownBy (World.grownBy_alloc W _ none) fun j o e _ => by cases e).from _) (KeepsWalks.alloc _ _) HI.out ⟨W.heap.size, rfl, heap_alloc_new W _, hbs⟩
 case body =>
  rintro lk pre x a W hl _ ⟨⟨V, k, hv, hrow⟩, hB, hBs⟩ ⟨g, rfl, hgb, hg0⟩ hlt;have hst4 := fun (o : Obj) (v' : Value) (w4 : World) => coll_step (w := w) (W := W) (w4 := w4) (pre := pre) (x := x) (V := V) (k := k) (v' := v') (o := o) hv hrow hB hBs;have hcv := hv.cell;have c0 : W.cell? ⟨g, 0, none⟩ = some (.int .i64 x.1) := by rw [cell_of_row _ _ _ _ _ _ hgb]; rfl
  have c1 : W.cell? ⟨g, 1, none⟩ = some (.int .i64 x.2) := by rw [cell_of_row _ _ _ _ _ _ hgb]; rfl
  have hrow2 := hrow;have HST := hid hst4;have HBS := hid hBs;have HLT := hid hlt;clear hst4 hv hB hgb hg0;unfold idV
  gi_wp2_with (first
   | (gi_at_builtin; refine wpListIn_append_own _ rfl _ _ 39 rfl (w.heap.size + 1) 34 i0 _ 2 16 Tryz.underlying39 hi hz0 hz1 hz2 rfl (by decide) _ _ _ rfl (hrow2.alloc _) ⟨W.heap.size, 0, none⟩ 1 1 (Ids.enc x) rfl rfl (fun j u hu => (Rs.lit W [x] #[.int .i64 x.1, .int .i64 x.2] 34 1 (by simp [Ids.cells, Ids.enc]) rfl (by simp [maxLen])).raw _ rfl j u (by simpa [Ids.cells] using hu)) (fun u hu => Ids.cells_one [x] u (by simpa [Ids.cells] using hu)) (by have h1 := HLT.out; unfold maxLen; omega) (by have h1 := HLT.out; omega) (by have h1 := HBS.out; simp; omega) ?_; intro v' w4 ho4 hg4 hn4
      obtain ⟨V4, c4, rfl⟩ := own_form ho4;obtain ⟨⟨hc4, hf4⟩, hend⟩ := HST.out _ _ w4 ho4 hg4;have HEND := hid hend;clear hend ho4 hg4 hn4
      go_frame)
   | fail)
  rw [hsz0];exact HEND.out
 case done =>
  rintro D0 ys W hD ⟨hys1, hys2⟩ ⟨⟨V, k, hv, hrow⟩, hB, hBs⟩ hK;have hcv := hv.cell;have hne : w.heap.size ≠ D0 := by omega
  have r7 : (W.putObj D0 (.deferred none)).ownsRow (w.heap.size + 1) 34 2 (.slice V ys.length k) ys.length (Ids.cells ys) := Lg.row_kept hrow (grownBy_putObj' W D0 (.deferred none)) fun g cur _ hgb e => by
   injection e with e;subst e;rw [hK] at hgb;cases hgb
  have b7 : Below w.heap.size w (W.putObj D0 (.deferred none)) := hB.grown (grownBy_putObj' W D0 (.deferred none)) hB.size fun j e => by injection e with e; omega
  have HR := hid (And.intro hys1 (And.intro hys2 (And.intro (Rs.own r7) b7)));have HK := hid hK;clear hv hrow hB hBs hys1 hys2 r7 b7 hD hne hst hK bO hB0 hm0 hown0 hW0 hsz0 hsv
  gi_wp2_with fail
  refine ⟨by simp, .inl ⟨_, _, rfl, run_takeDeferred HK.out, ?_⟩⟩;exact ⟨_, results_tmp rfl _ _ _, V, k, ys, rfl, HR.out.1, HR.out.2.1, HR.out.2.2.1, HR.out.2.2.2⟩
 case stop =>
  rintro D0 c pre W _ _ h _;exact h.elim
set_option maxHeartbeats 1000000 in
theorem collect_any (b nn : Nat) (D : DataW Value) (Bm : Nat) (w : World) (hm : w.cell? ⟨Bm, 0, none⟩ = some (.map (some b))) (hown : w.ownsMap Tryz.prog 34 heldV b nn D) (hN : Maps.size D ≤ 1000000000) :
 Calls Tryz.prog 63 #[.func (.func 120) #[] #[.pointer (some ⟨Bm, 0, none⟩)]] w fun e w' =>
  ∃ V k ys, e = .returned (.slice V ys.length k) ∧ AllIds D ys ∧ ys.length ≤ Maps.size D ∧ Rs w' V ys.length k ys ∧ Below w.heap.size w w' := by
 have HA := hid (appendseq_any b nn D Bm w hm hown hN);clear hm hown;go_enter Tryz.func63, Tryz.ntmps63
 go_wp2_with fail
 refine HA.out.mono ?_;rintro e w1 ⟨V, k, ys, rfl, h1, h2, h3, h4⟩;have HH := hid (And.intro h1 (And.intro h2 (And.intro h3 h4)));clear h1 h2 h3 h4;go_wp2_with fail
 go_ret;exact ⟨V, k, ys, rfl, HH.out.1, HH.out.2.1, HH.out.2.2.1, HH.out.2.2.2⟩
theorem mapkeys_any (mb : Option Nat) (w : World) : Calls Tryz.prog 64 #[.map mb] w fun e w' => e = .returned (.func (.func 120) #[] #[.pointer (some ⟨w.heap.size, 0, none⟩)]) ∧ w' = w.alloc (.cells #[.map mb] 125) :=
 (callsIn_wide (n := 6)).1 (keys_in 6 mb w)
end Go.Proofs.YtkejjdoaljoooaaGreatDoor.Sc
/- What the deeds of a store come to on a plain disk; plain mathematics, of no program. -/
namespace Go.Proofs.YtkejjdoaljoooaaGreatDoor.Sc
open Lib (hid)
open Dsk Lg
def sd (r : Int) (ex : Bool) (A T : List Nat) (k : Int) (dn : Bool) : Dk := ⟨if ex = true then [⟨nlog, A, T⟩] else [], r, k, dn⟩
def burn (k : Int) : Int := if 0 < k then k - 1 else k
theorem burn_none : burn (-1) = -1 := rfl
theorem used_sd {r : Int} {ex : Bool} {A T : List Nat} {k : Int} {dn : Bool} (hx : ex = false → A = [] ∧ T = []) : Dsk.used (sd r ex A T k dn).fs = A.length + T.length := by
 cases ex
 · obtain ⟨rfl, rfl⟩ := hx rfl
   rfl
 · simp [sd, Dsk.used, Fl.len]
theorem fine_sd {r : Int} {ex : Bool} {A T : List Nat} {k : Int} {dn : Bool} (hx : ex = false → A = [] ∧ T = []) (h0 : 0 ≤ r) (hr : r ≤ 1099511627776) (h : ((A.length + T.length : Nat) : Int) ≤ r) (hk : -1 ≤ k ∧ k ≤ 1000) : Dsk.Fine (sd r ex A T k dn) := by
 have hu := used_sd (r := r) (k := k) (dn := dn) hx;refine ⟨⟨h0, ?_, ?_⟩, hr, by show _ ≤ k; omega, by show k ≤ _; omega⟩
 · rw [hu]
   exact h
 · cases ex <;> simp [sd]
theorem deed_sd {r : Int} {ex : Bool} {A T : List Nat} {k : Int} (hk : k ≠ 0) : deed (sd r ex A T k false) = sd r ex A T (burn k) false := by
 unfold deed burn;rw [if_neg (by simp [fails, sd, hk])];split
 · rename_i h; rw [if_pos (by exact h)]; rfl
 · rename_i h; rw [if_neg (by exact h)]
theorem add_sd {r : Int} {ex : Bool} {A T : List Nat} {k : Int} (hx : ex = false → A = [] ∧ T = []) (hk : k ≠ 0) (b : List Nat) :
 whole (doAppend nlog b) (sd r ex A T k false) = if r < ((A.length + T.length : Nat) : Int) + (b.length : Int) then (7, sd r ex A T (burn k) false) else (0, sd r true A (T ++ b) (burn k) false) := by
 rw [whole_up rfl hk, deed_sd hk];have hu := used_sd (r := r) (k := burn k) (dn := false) hx;by_cases h : r < ((A.length + T.length : Nat) : Int) + (b.length : Int)
 · rw [if_pos h]
   unfold doAppend;rw [if_neg (by rw [name_log]; decide), if_pos (by rw [hu]; exact h)]
 · rw [if_neg h]
   have h2 : (Dsk.used (sd r ex A T (burn k) false).fs : Int) + b.length ≤ (sd r ex A T (burn k) false).room := by
    rw [hu];show _ ≤ r;omega
   cases ex
   · obtain ⟨rfl, rfl⟩ := hx rfl
     rw [append_new name_log h2 rfl (by simp [sd])];rfl
   · rw [append_old name_log (i := 0) h2 (by simp [sd, place_cons, eqn_self])]
     rfl
theorem sync_sd {r : Int} {A T : List Nat} {k : Int} (hk : k ≠ 0) : whole (doSync nlog) (sd r true A T k false) = (0, sd r true (A ++ T) [] (burn k) false) := by
 rw [whole_up rfl hk, deed_sd hk];simp [sd, doSync, place_cons, eqn_self, Fl.all]
theorem fail_sd (f : Dk → Nat × Dk) (r : Int) (ex : Bool) (A T : List Nat) : whole f (sd r ex A T 0 false) = (15, sd r ex A T 0 true) := whole_fails (.inr rfl)
def putD (p : List Nat) (d : Dk) : Nat × Dk :=
 if (whole (doAppend nlog (form p)) d).1 ≠ 0 then whole (doAppend nlog (form p)) d else
  (fg (whole (doSync nlog) (whole (doAppend nlog (form p)) d).2).1, (whole (doSync nlog) (whole (doAppend nlog (form p)) d).2).2)
theorem fine_putD (p : List Nat) {d : Dk} (h : Dsk.Fine d) : Dsk.Fine (whole (doAppend nlog (form p)) d).2 ∧ Dsk.Fine (putD p d).2 := by
 have h1 := fine_whole h (f := doAppend nlog (form p)) fun d hd => fine_append nlog (form p) hd;refine ⟨h1, ?_⟩;unfold putD;split
 · exact h1
 · exact fine_whole h1 (f := doSync nlog) fun d hd => fine_sync nlog hd
theorem put_up {r : Int} {ex : Bool} {A p : List Nat} (hx : ex = false → A = []) : putD p (sd r ex A [] (-1) false) = if r < (A.length : Int) + ((form p).length : Int) then (7, sd r ex A [] (-1) false) else (0, sd r true (A ++ form p) [] (-1) false) := by
 have e := add_sd (r := r) (ex := ex) (A := A) (T := []) (k := -1) (fun h => ⟨hx h, rfl⟩) (by decide) (form p);simp only [List.length_nil, Nat.add_zero, burn_none, List.nil_append] at e;unfold putD;by_cases h : r < (A.length : Int) + ((form p).length : Int)
 · rw [if_pos h] at e ⊢
   simp only [e];rfl
 · rw [if_neg h] at e ⊢
   have e2 := sync_sd (r := r) (A := A) (T := form p) (k := -1) (by decide);simp only [e, e2, ne_eq, not_true_eq_false, if_false];rfl
theorem put_fuse {r : Int} {A p : List Nat} {k : Int} (hk : 0 ≤ k) :
 (∃ k', 0 ≤ k' ∧ k' ≤ k ∧ ¬ (r < (A.length : Int) + ((form p).length : Int)) ∧ putD p (sd r true A [] k false) = (0, sd r true (A ++ form p) [] k' false)) ∨
 (∃ k', 0 ≤ k' ∧ k' ≤ k ∧ putD p (sd r true A [] k false) = (7, sd r true A [] k' false)) ∨
 (∃ T k', (T = [] ∨ (T = form p ∧ ¬ (r < (A.length : Int) + ((form p).length : Int)))) ∧ 0 ≤ k' ∧ k' ≤ k ∧ putD p (sd r true A [] k false) = (15, sd r true A T k' true)) := by
 by_cases h0 : k = 0
 · subst h0
   refine .inr (.inr ⟨[], 0, .inl rfl, Int.le_refl _, Int.le_refl _, ?_⟩);unfold putD;simp only [fail_sd];rfl
 · have hb : burn k = k - 1 := by unfold burn; rw [if_pos (by omega)]
   have e := add_sd (r := r) (ex := true) (A := A) (T := []) (k := k) (fun h => by cases h) h0 (form p);simp only [List.length_nil, Nat.add_zero, List.nil_append, hb] at e;unfold putD;by_cases h : r < (A.length : Int) + ((form p).length : Int)
   · rw [if_pos h] at e
     refine .inr (.inl ⟨k - 1, by omega, by omega, ?_⟩);simp only [e];rfl
   · rw [if_neg h] at e
     by_cases h1 : k - 1 = 0
     · rw [h1] at e
       refine .inr (.inr ⟨form p, 0, .inr ⟨rfl, h⟩, Int.le_refl _, by omega, ?_⟩);simp only [e, fail_sd, ne_eq, not_true_eq_false, if_false];rfl
     · have hb1 : burn (k - 1) = k - 1 - 1 := by unfold burn; rw [if_pos (by omega)]
       have e2 := sync_sd (r := r) (A := A) (T := form p) (k := k - 1) h1;rw [hb1] at e2;refine .inl ⟨k - 1 - 1, by omega, by omega, h, ?_⟩;simp only [e, e2, ne_eq, not_true_eq_false, if_false];rfl
theorem sync_code {r : Int} {A T : List Nat} {k : Int} : fg (whole (doSync nlog) (sd r true A T k false)).1 = if k = 0 then 15 else 0 := by
 by_cases h : k = 0
 · subst h; rw [fail_sd]; rfl
 · rw [sync_sd h, if_neg h]; rfl
theorem read_sd {r : Int} {ex : Bool} {A : List Nat} {k : Int} (hx : ex = false → A = []) : Dsk.read nlog (sd r ex A [] k false) = (A, if ex = true then 0 else 8) := by
 cases ex
 · rw [hx rfl]; rfl
 · simp [Dsk.read, sd, place_cons, eqn_self, Fl.all]
theorem cut_sd {r : Int} {A : List Nat} {n : Nat} (h : n ≤ A.length) : whole (doCut nlog (n : Int)) (sd r true A [] (-1) false) = (0, sd r true (A.take n) [] (-1) false) := by
 rw [whole_up rfl (show (-1 : Int) ≠ 0 by decide), deed_none rfl rfl];unfold doCut;simp only [sd, if_true, place_cons, eqn_self];rw [if_neg]
 · simp [Fl.all]
 · simp [Fl.all]
   omega
theorem boot_sd (r : Int) (A T : List Nat) (k keep : Int) (dn : Bool) : ∃ kk, Dsk.boot [keep] (sd r true A T k dn) = sd r true (A ++ T.take kk) [] (-1) false := by
 by_cases hT : T = []
 · subst hT
   refine ⟨0, ?_⟩;simp [Dsk.boot, sd, bootFs]
 · refine ⟨(max 0 (min keep (T.length : Int))).toNat, ?_⟩
   simp [Dsk.boot, sd, bootFs, hT]
theorem boot_reads {r : Int} {ls : List (List Nat)} {T : List Nat} {q : Option (List Nat)} {k : Int} {dn : Bool} (keep : Int) (h0 : 0 ≤ r) (hr : r ≤ 1099511627776) (hl : Ok ls) (hq : ∀ p, q = some p → p.length ≤ 1048576 ∧ ∀ b ∈ p, b < 256) (hT : T = [] ∨ ∃ p, q = some p ∧ T = form p) (hu : (((forms ls).length + T.length : Nat) : Int) ≤ r) :
 ∃ d1 c l rr d2, Dsk.boot [keep] (sd r true (forms ls) T k dn) = d1 ∧ Dsk.Fine d1 ∧ Dsk.read nlog d1 = (c, 0) ∧ (∀ b ∈ c, b < 256) ∧ c.length ≤ 1099511627776 ∧ Reads c l rr ∧ (l = ls ∨ ∃ p, q = some p ∧ l = ls ++ [p]) ∧ (rr = [] → d2 = d1) ∧ (rr ≠ [] → whole (doCut nlog ((forms l).length : Int)) d1 = (0, d2)) := by
 obtain ⟨kk, hb⟩ := boot_sd r (forms ls) T k keep dn
 have key : ∃ l rr, Reads (forms ls ++ T.take kk) l rr ∧ (l = ls ∨ ∃ p, q = some p ∧ l = ls ++ [p]) ∧ ∀ b ∈ forms ls ++ T.take kk, b < 256 := by
  rcases hT with rfl | ⟨p, hqp, rfl⟩
  · refine ⟨ls, [], ?_, .inl rfl, fun b hb => ?_⟩
    · rw [List.take_nil, List.append_nil]; exact reads_forms hl
    · rw [List.take_nil, List.append_nil] at hb; exact hl.lt b hb
  · have hp := hq p hqp
    have ho : Ok [p] := fun x hx => (by rw [List.mem_singleton.1 hx]; exact hp);obtain ⟨j, rr, hj, hrd⟩ := reads_flushed hl ho kk;have hf : forms [p] = form p := (by simp [forms]);rw [hf] at hrd;refine ⟨_, rr, hrd, ?_, fun b hb => ?_⟩
    · rcases Nat.eq_zero_or_pos j with rfl | hj0
      · left; simp
      · right
        refine ⟨p, hqp, ?_⟩;rw [List.take_of_length_le (by simp; omega)]
    · rcases List.mem_append.1 hb with hb | hb
      · exact hl.lt b hb
      · exact form_lt (by omega) hp.2 b (List.mem_of_mem_take hb)
 obtain ⟨l, rr, hrd, hls, hlt⟩ := key
 have hlen : (((forms ls ++ T.take kk).length : Nat) : Int) ≤ r := by
  rw [List.length_append, List.length_take];omega
 refine ⟨_, forms ls ++ T.take kk, l, rr, if rr = [] then sd r true (forms ls ++ T.take kk) [] (-1) false else sd r true ((forms ls ++ T.take kk).take (forms l).length) [] (-1) false, hb, ?_, ?_, hlt, by omega, hrd, hls, fun h => by rw [if_pos h], fun h => ?_⟩
 · exact fine_sd (fun h => by cases h) h0 hr (by rw [List.length_nil, Nat.add_zero]; exact hlen) (by decide)
 · exact read_sd (fun h => by cases h)
 · rw [if_neg h, cut_sd]
   have := congrArg List.length hrd.eq;simp only [List.length_append] at this ⊢;omega
theorem writes_sd {r : Int} {A b : List Nat} (h : ((A.length + b.length : Nat) : Int) ≤ r) : writes b (sd r true A [] (-1) false) = (0, sd r true b [] (-1) false) := by
 have e1 : whole (doRemove nfix) (sd r true A [] (-1) false) = (8, sd r true A [] (-1) false) := by
  rw [whole_up rfl (show (-1 : Int) ≠ 0 by decide), deed_none rfl rfl];simp [doRemove, sd, place_cons, ne_lf, place_nil]
 have e2 : whole (doAppend nfix b) (sd r true A [] (-1) false) = (0, ⟨[⟨nlog, A, []⟩, ⟨nfix, [], b⟩], r, -1, false⟩) := by
  rw [whole_up rfl (show (-1 : Int) ≠ 0 by decide), deed_none rfl rfl, append_new name_fix (by rw [used_sd (fun h => by cases h)]; simp; show _ ≤ r; omega) (by simp [sd, place_cons, ne_lf, place_nil]) (by simp [sd])];simp [sd, Dsk.put, gt_lf]
 have e3 : whole (doSync nfix) ⟨[⟨nlog, A, []⟩, ⟨nfix, [], b⟩], r, -1, false⟩ = (0, ⟨[⟨nlog, A, []⟩, ⟨nfix, b, []⟩], r, -1, false⟩) := by
  rw [whole_up rfl (show (-1 : Int) ≠ 0 by decide), deed_none rfl rfl];simp [doSync, place_cons, ne_lf, eqn_self, Fl.all]
 have e4 : whole (doMove nfix nlog) ⟨[⟨nlog, A, []⟩, ⟨nfix, b, []⟩], r, -1, false⟩ = (0, sd r true b [] (-1) false) := by
  rw [whole_up rfl (show (-1 : Int) ≠ 0 by decide), deed_none rfl rfl];unfold doMove;simp only [place_cons, ne_lf, eqn_self, place_nil, Bool.false_eq_true, if_false, if_true, Option.map_some];rw [if_neg (by simp [name_log])];simp [Dsk.drop, eqn_self, ne_lf, Dsk.put, Fl.all, sd]
 unfold writes;rw [e1];simp only [show fg 8 = 0 from rfl, ne_eq, not_true_eq_false, if_false, e2, e3, e4]
end Go.Proofs.YtkejjdoaljoooaaGreatDoor.Sc
/- What the calls of the program's schema come to: reading, beginning, opening, putting, writing; as contracts in words of what a disk holds. -/
namespace Go.Proofs.YtkejjdoaljoooaaGreatDoor.Sc
open Lib (hid)
open Go.RowKit Mem Dsk Lg Rk
def formC (v : Nat) : Array Value := if v = 1 then #[.int .i64 1, .func (.func 32) #[] #[], .func (.func 33) #[] #[]] else #[.int .i64 2, .func (.func 34) #[] #[], .func (.func 35) #[] #[]]
def formV (v : Nat) : Value := .agg (formC v)
structure Rdb (d d2 : Dk) (c : List Nat) (l : List (List Nat)) (r : List Nat) : Prop where
 rd : Dsk.read nlog d = (c, 0) ∨ Dsk.read nlog d = (c, 8)
 lt : ∀ b ∈ c, b < 256
 len : c.length ≤ 1099511627776
 R : Reads c l r
 le : ∀ b ∈ l, b.length ≤ 1000000
 cnt : l.length ≤ 1000000000
 cut0 : r = [] → d2 = d
 cut1 : r ≠ [] → whole (doCut nlog ((forms l).length : Int)) d = (0, d2)
 fine : Dsk.Fine d
 fine2 : Dsk.Fine d2
theorem load_two (l : List (List Nat)) : (loadOf l).1 = 0 ∨ (loadOf l).1 = 1 ∨ (loadOf l).1 = 2 := by
 cases l with
 | nil => exact .inl rfl
 | cons h t =>
   rw [load_cons];split
   · exact .inr (.inl rfl)
   · split
     · exact .inr (.inr rfl)
     · exact .inl rfl
theorem load_sub (l : List (List Nat)) : (∀ b ∈ (loadOf l).2.1, b ∈ l) ∧ (loadOf l).2.1.length ≤ l.length := by
 cases l with
 | nil => exact ⟨fun b h => (by cases h), Nat.le_refl _⟩
 | cons h t =>
   rw [load_cons];split
   · exact ⟨fun b h => (by simp [h]), by simp⟩
   · split
     · exact ⟨fun b h => (by simp [h]), by simp⟩
     · exact ⟨fun b h => (by cases h), by simp⟩
def LoadIs (I : Held) (p : Nat) (S : Nat → Prop) (l : List (List Nat)) (d : Dk) (w : World) (e : Ending) (w' : World) : Prop :=
 ∃ V n c ps, e = .returned (.tuple #[.int .i64 ((loadOf l).1 : Int), .slice V n c, .int .i64 ((loadOf l).2.2 : Int)]) ∧ ps.map (·.bs) = (loadOf l).2.1 ∧ ∃ S', I w' S' p d ∧ Dsk.Grew S S' w ∧ Keeps S w w' ∧ FMat V n c ps w' S'
def HLoad (I : Held) : Prop := ∀ (p : Nat) (S : Nat → Prop) (d d2 : Dk) (c : List Nat) (l : List (List Nat)) (r : List Nat) (w : World), I w S p d → FTab w S → Rdb d d2 c l r → Calls Tryz.prog 30 #[Dsk.ptr p] w (LoadIs I p S l d w)
def ReadIs (I : Held) (p : Nat) (S : Nat → Prop) (v : Nat) (l : List (List Nat)) (d : Dk) (w : World) (e : Ending) (w' : World) : Prop :=
 ∃ V n c qs, e = .returned (.tuple #[.slice V n c, .int .i64 ((readOf v l).2 : Int)]) ∧ qs.map (·.r) = (readOf v l).1 ∧ ((readOf v l).2 ≠ 0 → V = none ∧ n = 0 ∧ c = 0) ∧ ∃ S', I w' S' p d ∧ Dsk.Grew S S' w ∧ Keeps S w w' ∧ FRecs V n c qs w' S'
def HRead (I : Held) : Prop := ∀ (v : Nat) (_ : v = 1 ∨ v = 2) (p : Nat) (S : Nat → Prop) (d d2 : Dk) (c : List Nat) (l : List (List Nat)) (r : List Nat) (w : World), I w S p d → FTab w S → Rdb d d2 c l r → Calls Tryz.prog 19 #[formV v, Dsk.ptr p] w (ReadIs I p S v l d w)
def HVersion (I : Held) : Prop := ∀ (p : Nat) (S : Nat → Prop) (d d2 : Dk) (c : List Nat) (l : List (List Nat)) (r : List Nat) (w : World), I w S p d → FTab w S → Rdb d d2 c l r → Calls Tryz.prog 16 #[Dsk.ptr p] w (fun e w' => e = .returned (.tuple #[.int .i64 ((loadOf l).1 : Int), .int .i64 ((loadOf l).2.2 : Int)]) ∧ Stays I p S d w w')
def beginR (v : Nat) (l : List (List Nat)) (d2 : Dk) : Nat × Dk := if l = [] then putD (hdr v) d2 else (0, d2)
noncomputable def openR (v : Nat) (l : List (List Nat)) (d d2 : Dk) : Nat × Dk := if (readOf v l).2 ≠ 0 then ((readOf v l).2, d) else beginR v l d2
def BeginIs (I : Held) (p : Nat) (S : Nat → Prop) (x : Nat × Dk) (w : World) (e : Ending) (w' : World) : Prop :=
 (x.1 = 0 ∧ ∃ g, e = .returned (.tuple #[.pointer (some ⟨g, 0, none⟩), .int .i64 0]) ∧ ∃ S', I w' S' p x.2 ∧ Dsk.Grew S S' w ∧ Keeps S w w' ∧ FLog g p nlog w' S') ∨
 (x.1 ≠ 0 ∧ e = .returned (.tuple #[.pointer none, .int .i64 (x.1 : Int)]) ∧ Stays I p S x.2 w w')
def HBegin (I : Held) : Prop := ∀ (v : Nat) (_ : v = 1 ∨ v = 2) (p : Nat) (S : Nat → Prop) (d d2 : Dk) (c : List Nat) (l : List (List Nat)) (r : List Nat) (w : World), I w S p d → FTab w S → Rdb d d2 c l r → Calls Tryz.prog 20 #[formV v, Dsk.ptr p] w (BeginIs I p S (beginR v l d2) w)
def ptrO (g : Option Nat) : Value := .pointer (g.map fun g => ⟨g, 0, none⟩)
def storeC (p v : Nat) (g : Option Nat) : Array Value := if v = 1 then #[Dsk.ptr p, .int .i64 1, .func (.func 32) #[] #[], .func (.func 33) #[] #[], ptrO g] else #[Dsk.ptr p, .int .i64 2, .func (.func 34) #[] #[], .func (.func 35) #[] #[], ptrO g]
def FSt (s v p : Nat) (og : Option Nat) (w : World) (S : Nat → Prop) : Prop := Blk w s 70 (storeC p v og) ∧ ¬ S s ∧ ∀ g, og = some g → FLog g p nlog w S ∧ g ≠ s
theorem frame_st (s v p : Nat) (og : Option Nat) : Dsk.Frame (FSt s v p og) := by
 refine ⟨fun {w w' S S'} h hk hg => ⟨(hk.block s h.1.lt h.2.1).trans h.1, fun hs => ?_, fun g e => ⟨(frame_log g p nlog).go (h.2.2 g e).1 hk hg, (h.2.2 g e).2⟩⟩⟩;rcases hg _ hs with h' | h'
 · exact h.2.1 h'
 · exact absurd h.1.lt (by omega)
def Plus (S : Nat → Prop) (s : Nat) : Nat → Prop := fun k => S k ∨ k = s
theorem plus_keeps {S : Nat → Prop} {s : Nat} {w w' : World} (h : Keeps S w w') : Keeps (Plus S s) w w' := ⟨h.os, h.tape, h.output, h.size, fun k hk hn => h.block k hk fun hs => hn (.inl hs)⟩
theorem plus_grew {S S' : Nat → Prop} {s : Nat} {w : World} (h : Dsk.Grew S S' w) : Dsk.Grew (Plus S s) (Plus S' s) w := fun k hk => by
 rcases hk with hk | hk
 · rcases h k hk with h' | h'
   · exact .inl (.inl h')
   · exact .inr h'
 · exact .inl (.inr hk)
def OpenS (I : Held) (p : Nat) (S : Nat → Prop) (v : Nat) (rs : List Rc) (x : Nat × Dk) (w : World) (e : Ending) (w' : World) : Prop :=
 (x.1 = 0 ∧ ∃ s g V n c qs, e = .returned (.tuple #[.pointer (some ⟨s, 0, none⟩), .slice V n c, .int .i64 0]) ∧ qs.map (·.r) = rs ∧ ∃ S', I w' S' p x.2 ∧ Dsk.Grew S (Plus S' s) w ∧ Keeps S w w' ∧ FSt s v p (some g) w' S' ∧ FRecs V n c qs w' (Plus S' s)) ∨
 (x.1 ≠ 0 ∧ e = .returned (.tuple #[.pointer none, .slice none 0 0, .int .i64 (x.1 : Int)]) ∧ Stays I p S x.2 w w')
def HOpen (I : Held) : Prop := ∀ (v : Nat) (_ : v = 1 ∨ v = 2) (p : Nat) (S : Nat → Prop) (d d2 : Dk) (c : List Nat) (l : List (List Nat)) (r : List Nat) (w : World), I w S p d → FTab w S → Rdb d d2 c l r → Calls Tryz.prog 8 #[Dsk.ptr p, .int .i64 (v : Int)] w (OpenS I p S v (readOf v l).1 (openR v l d d2) w)
def HArg : Prop := ∀ (v : Int) (p : Nat) (w : World), v ≠ 1 → v ≠ 2 → Calls Tryz.prog 8 #[Dsk.ptr p, .int .i64 v] w (fun e w' => e = .returned (.tuple #[.pointer none, .slice none 0 0, .int .i64 1]) ∧ Below w.heap.size w w')
def PutIs (I : Held) (p s g : Nat) (S : Nat → Prop) (v : Nat) (r : Rc) (d : Dk) (w : World) (e : Ending) (w' : World) : Prop :=
 ((put v r).2 ≠ 0 ∧ e = .returned (.int .i64 (put v r).2) ∧ ∃ S', I w' S' p d ∧ FSt s v p (some g) w' S' ∧ Dsk.Grew S S' w ∧ Keeps (Plus S s) w w') ∨
 ((put v r).2 = 0 ∧ Good v r ∧ e = .returned (.int .i64 ((putD (lay v r) d).1 : Int)) ∧ ∃ og S', I w' S' p (putD (lay v r) d).2 ∧ FSt s v p og w' S' ∧ ((putD (lay v r) d).1 = 0 ∨ (whole (doAppend nlog (form (lay v r))) d).1 ≠ 0 → og = some g) ∧ Dsk.Grew S S' w ∧ Keeps (Plus S s) w w')
def HPut (I : Held) : Prop := ∀ (v : Nat) (_ : v = 1 ∨ v = 2) (p s g : Nat) (S : Nat → Prop) (q : Pt) (d : Dk) (w : World), I w S p d → FTab w (Plus S s) → FSt s v p (some g) w S → Dsk.Fine d → Dep w q → Calls Tryz.prog 11 #[.pointer (some ⟨s, 0, none⟩), val q] w (PutIs I p s g S v q.r d w)
def HWrite (I : Held) : Prop := ∀ (p : Nat) (S : Nat → Prop) (A : Option Addr) (c : Nat) (q : Pt) (d : Dk) (w : World), I w S p d → FTab w S → FRecs A 1 c [q] w S → Dsk.Fine d → Good 2 q.r → Calls Tryz.prog 52 #[formV 2, Dsk.ptr p, .slice A 1 c] w (Does I p S (writes (forms (stored 2 [q.r])) d) w)
def HForward (I : Held) : Prop := ∀ (p : Nat) (S : Nat → Prop) (d d2 : Dk) (c r : List Nat) (x : Rc) (w : World), I w S p d → FTab w S → Rdb d d2 c (stored 1 [x]) r → Good 1 x → Good 2 x → Calls Tryz.prog 17 #[Dsk.ptr p] w (Does I p S (writes (forms (stored 2 [x])) d) w)
structure HasSch (I : Held) : Prop where
 version : HVersion I
 open_ : HOpen I
 arg : HArg
 put : HPut I
 forward : HForward I
end Go.Proofs.YtkejjdoaljoooaaGreatDoor.Sc
/- The functions of rec at a record in memory; schema's item, its forms, its header, and a record's bytes. -/
namespace Go.Proofs.YtkejjdoaljoooaaGreatDoor.Sc
open Lib (hid)
open Go.RowKit Mem Ids Rk Att Cod
theorem old_pt (q : Pt) (w : World) (h : Dep w q) : Calls Tryz.prog 32 #[val q] w (GivesOld w (recOld q.r)) :=
 Rk.old_any q.r.id.1 q.r.id.2 q.r.st q.r.bl.1 q.r.bl.2 q.r.tk.1 q.r.tk.2 q.r.cm.kd q.r.cm.cl q.r.cm.sq q.r.cm.ky q.r.cm.vl q.r.cm.rv q.V q.n q.c q.r.at_.sq q.r.at_.tg q.r.at_.dp w h
theorem item_pt (q : Pt) (w : World) (h : Dep w q) : Calls Tryz.prog 59 #[val q] w (GivesNew w (recItem q.r)) :=
 Rk.item_any q.r.id.1 q.r.id.2 q.r.st q.r.bl.1 q.r.bl.2 q.r.tk.1 q.r.tk.2 q.r.cm.kd q.r.cm.cl q.r.cm.sq q.r.cm.ky q.r.cm.vl q.r.cm.rv q.V q.n q.c q.r.at_.sq q.r.at_.tg q.r.at_.dp w h
theorem check_pt (q : Pt) (w : World) (h : Dep w q) : Calls Tryz.prog 53 #[val q] w (Checks (rchk q.r) w) :=
 rcheck_any q.r.id.1 q.r.id.2 q.r.st q.r.bl.1 q.r.bl.2 q.r.tk.1 q.r.tk.2 q.r.cm.kd q.r.cm.cl q.r.cm.sq q.r.cm.ky q.r.cm.vl q.r.cm.rv q.V q.n q.c q.r.at_.sq q.r.at_.tg q.r.at_.dp w h
def TakesPt (r : Option Rc) (w : World) (e : Ending) (w' : World) : Prop :=
 ∃ q : Pt, e = .returned (.tuple #[val q, .bool r.isSome]) ∧ q.r = r.getD zeroRc ∧ Dep w' q ∧ (∀ g o, q.V = some ⟨g, o, none⟩ → w.heap.size ≤ g) ∧ Below w.heap.size w w'
theorem TakesPt.of {r : Option Rc} {w : World} {e : Ending} {w' : World} (h : TakesRc w r e w') : TakesPt r w e w' := by
 obtain ⟨q, V, nv, cv, h1, h2, h3, h4, h5⟩ := h;exact ⟨⟨q, V, nv, cv⟩, h1, h2, h3, h4, h5⟩
set_option maxRecDepth 20000 in
set_option maxHeartbeats 4000000 in
theorem sitem_any (q : Pt) (w : World) (h : Dep w q) : Calls Tryz.prog 34 #[val q] w (GivesOld w (recItem q.r, rchk q.r)) := by
 obtain ⟨W, hW⟩ : ∃ W, (w.alloc (.cells #[.int .i64 q.r.id.1, .int .i64 q.r.id.2, .int .i64 q.r.st, .int .i64 q.r.bl.1, .int .i64 q.r.bl.2, .int .i64 q.r.tk.1, .int .i64 q.r.tk.2, .int .i64 q.r.cm.kd, .int .i64 q.r.cm.cl, .int .i64 q.r.cm.sq, .string q.r.cm.ky, .string q.r.cm.vl, .int .i64 q.r.cm.rv, .slice q.V q.n q.c, .int .i64 q.r.at_.sq, .int .i64 q.r.at_.tg] 43)).alloc (.cells #[.int .i64 0, .int .u64 0, .string ⟨#[]⟩, .slice none 0 0] 95) = W := ⟨_, rfl⟩
 obtain ⟨k1, k2, kb, hsW⟩ := Go.Proofs.YtkejjdoaljoooaaGreatDoor.two_kinds w _ _ _ _ W hW;have HK1 := hid k1;have HK2 := hid k2;have HBW := hid kb;have HI := hid (fun u (k : Dep u q) => item_pt q u k);have HC := hid (fun u (k : Dep u q) => check_pt q u k);have HD := hid (Rs.below h kb);have HB := hid (Below.refl W.heap.size W);have HW := hid hW;have HSW := hid hsW;clear k1 k2 kb h hW hsW;unfold val at *;go_enter Tryz.func34, Tryz.ntmps34
 go_upto_region 1 with fail
 rw [HW.out];replace HB := hid (Below.drew HB.out);refine wp_region_held_drew (S := (fun w' => Blk w' w.heap.size 43 #[.int .i64 q.r.id.1, .int .i64 q.r.id.2, .int .i64 q.r.st, .int .i64 q.r.bl.1, .int .i64 q.r.bl.2, .int .i64 q.r.tk.1, .int .i64 q.r.tk.2, .int .i64 q.r.cm.kd, .int .i64 q.r.cm.cl, .int .i64 q.r.cm.sq, .string q.r.cm.ky, .string q.r.cm.vl, .int .i64 q.r.cm.rv, .slice q.V q.n q.c, .int .i64 q.r.at_.sq, .int .i64 q.r.at_.tg])) (by kernel_rfl) (by with_reducible exact HK1.out.bel HB.out) (fun hHeld => ?_);refine hs_take 0 4 (.agg #[.int .i64 q.r.id.1, .int .i64 q.r.id.2, .int .i64 q.r.st, .int .i64 q.r.bl.1, .int .i64 q.r.bl.2, .int .i64 q.r.tk.1, .int .i64 q.r.tk.2, .int .i64 q.r.cm.kd, .int .i64 q.r.cm.cl, .int .i64 q.r.cm.sq, .string q.r.cm.ky, .string q.r.cm.vl, .int .i64 q.r.cm.rv, .slice q.V q.n q.c, .int .i64 q.r.at_.sq, .int .i64 q.r.at_.tg]) rfl rfl (by kernel_rfl) (fun _ _ _ h => h) (run_load_blk 43 (.tmp 1) rfl w.heap.size 43 #[.int .i64 q.r.id.1, .int .i64 q.r.id.2, .int .i64 q.r.st, .int .i64 q.r.bl.1, .int .i64 q.r.bl.2, .int .i64 q.r.tk.1, .int .i64 q.r.tk.2, .int .i64 q.r.cm.kd, .int .i64 q.r.cm.cl, .int .i64 q.r.cm.sq, .string q.r.cm.ky, .string q.r.cm.vl, .int .i64 q.r.cm.rv, .slice q.V q.n q.c, .int .i64 q.r.at_.sq, .int .i64 q.r.at_.tg] _ rfl (fun _ h => h) Tryz.underlying43 rfl (by kernel_rfl)) hHeld ?_;try simp only [n0, n1, n2]
 refine hs_take 2 6 (.agg #[.int .i64 q.r.id.1, .int .i64 q.r.id.2, .int .i64 q.r.st, .int .i64 q.r.bl.1, .int .i64 q.r.bl.2, .int .i64 q.r.tk.1, .int .i64 q.r.tk.2, .int .i64 q.r.cm.kd, .int .i64 q.r.cm.cl, .int .i64 q.r.cm.sq, .string q.r.cm.ky, .string q.r.cm.vl, .int .i64 q.r.cm.rv, .slice q.V q.n q.c, .int .i64 q.r.at_.sq, .int .i64 q.r.at_.tg]) rfl rfl (by kernel_rfl) (fun _ _ _ h => h) (run_load_blk 43 (.tmp 1) rfl w.heap.size 43 #[.int .i64 q.r.id.1, .int .i64 q.r.id.2, .int .i64 q.r.st, .int .i64 q.r.bl.1, .int .i64 q.r.bl.2, .int .i64 q.r.tk.1, .int .i64 q.r.tk.2, .int .i64 q.r.cm.kd, .int .i64 q.r.cm.cl, .int .i64 q.r.cm.sq, .string q.r.cm.ky, .string q.r.cm.vl, .int .i64 q.r.cm.rv, .slice q.V q.n q.c, .int .i64 q.r.at_.sq, .int .i64 q.r.at_.tg] _ rfl (fun _ h => h) Tryz.underlying43 rfl (by kernel_rfl)) hHeld ?_;try simp only [n0, n1, n2]
 refine wpAnyH_ready (rs := [1]) (by kernel_rfl) (by simp) ?_;refine AllReadyH.cons rfl (fun K hK => ?_) AllReadyH.nil;go_simp;go_at_call 59
 refine (HI.out _ (Rs.below HD.out HB.out)).mono ?_;rintro e u ⟨V1, c1, rfl, hl1, hb1⟩;replace HB := hid (bel_trans HB.out hb1);have HL1 := hid (And.intro hl1 hb1.size);clear hb1 hl1;refine hK.out _ _ (by with_reducible exact HK1.out.bel HB.out) (fun hHeld => ?_);clear hK K;refine wpAnyH_ready (rs := [3]) (by kernel_rfl) (by simp) ?_;refine AllReadyH.cons rfl (fun K hK => ?_) AllReadyH.nil;go_simp;go_at_call 53
 refine (HC.out _ (Rs.below HD.out HB.out)).mono ?_;rintro e u2 ⟨rfl, hb2⟩;have hl2 := HL1.out.1.below hb2 (fun b hb => hb.2);have HL2 := hid (And.intro hl2 hb2.size);replace HB := hid (bel_trans HB.out hb2);clear hb2 hl2;refine hK.out _ _ (by with_reducible exact HK1.out.bel HB.out) (fun hHeld => ?_);clear hK K;refine wpAnyH_ready (rs := [4]) (by kernel_rfl) (by simp) ?_;refine AllReadyH.cons rfl (fun K hK => ?_) AllReadyH.nil;refine step_store_blk rfl 95 (.tmp 2) (.tmp 5) rfl (w.heap.size + 1) 95 #[.int .i64 0, .int .u64 0, .string ⟨#[]⟩, .slice none 0 0] #[.int .i64 (recItem q.r).kind, .int .u64 ((recItem q.r).num : Int), .string (recItem q.r).str, .slice V1 (recItem q.r).kids.length c1] rfl rfl (HK2.out.bel HB.out) (by kernel_rfl) rfl (by kernel_rfl) ?_;intro u3 hblk hg3;show K (Act.put _ none _) _;try simp only [Act.put]
 have hw1 := HK1.out.bel HB.out;have hk1 : Blk u3 w.heap.size 43 #[.int .i64 q.r.id.1, .int .i64 q.r.id.2, .int .i64 q.r.st, .int .i64 q.r.bl.1, .int .i64 q.r.bl.2, .int .i64 q.r.tk.1, .int .i64 q.r.tk.2, .int .i64 q.r.cm.kd, .int .i64 q.r.cm.cl, .int .i64 q.r.cm.sq, .string q.r.cm.ky, .string q.r.cm.vl, .int .i64 q.r.cm.rv, .slice q.V q.n q.c, .int .i64 q.r.at_.sq, .int .i64 q.r.at_.tg] := (hg3.block _ (by have := hw1.lt; exact this) (by simp)).trans hw1;have hl3 : Lies u3 (fun b => w.heap.size ≤ b ∧ b < u3.heap.size) (recItem q.r) V1 c1 := (HL2.out.1.grown hg3 (fun b hb => by have h1 := hb.1; have h2 := HSW.out; have h3 : W.heap.size ≤ b := h1; intro e; injection e with e; omega)).more fun b hb hlt => ⟨by have h1 : W.heap.size ≤ b := hb.1; have h2 := HSW.out; omega, hlt⟩
 have hb3 : Below w.heap.size w u3 := (bel_trans HBW.out HB.out).grown hg3 (by have := (bel_trans HBW.out HB.out).size; exact this) fun k e => by injection e with e; omega
 refine hK.out _ _ hk1 (fun hHeld => ?_);have HEND := hid (And.intro hblk (And.intro hl3 hb3));clear hK K hblk hg3 hw1 hl3 hb3;refine hs_take 5 3 (.int .i64 (rchk q.r)) rfl rfl (by kernel_rfl) (fun _ _ _ h => h) (fun w hS => by go_simp) hHeld ?_;try simp only [List.setIfInBounds_toArray]
 refine wpAnyH_done (by kernel_rfl) ?_ _;go_wp2_with fail
 refine bodyPost_ret (v := .tuple #[.agg #[.int .i64 (recItem q.r).kind, .int .u64 ((recItem q.r).num : Int), .string (recItem q.r).str, .slice V1 (recItem q.r).kids.length c1], .int .i64 (rchk q.r)]) ?_ rfl ?_
 · exact results_blk_tmp (ty := 95) rfl _ _ (w.heap.size + 1) 95 _ _ _ rfl rfl HEND.out.1 Tryz.underlying95 rfl (by kernel_rfl)
 · exact ⟨V1, c1, rfl, HEND.out.2.1, HEND.out.2.2⟩
end Go.Proofs.YtkejjdoaljoooaaGreatDoor.Sc
/- schema's formOf, header and a record's bytes. -/
namespace Go.Proofs.YtkejjdoaljoooaaGreatDoor.Sc
open Lib (hid)
open Go.RowKit Mem Ids Rk Att Cod
set_option maxHeartbeats 1000000 in
theorem form_one (w : World) : Calls Tryz.prog 18 #[.int .i64 1] w (fun e w' => e = .returned (.tuple #[formV 1, .bool true]) ∧ Below w.heap.size w w') := by
 obtain ⟨h1, hb⟩ := box1 w 61 #[.int .i64 0, .nilFunc, .nilFunc];have HZ := hid (And.intro h1 hb);clear h1 hb;go_enter Tryz.func18, Tryz.ntmps18
 go_wp2_with (with_reducible refine wpList_store_blk rfl 61 (.tmp 2) (.tmp 8) rfl w.heap.size 61 #[.int .i64 0, .nilFunc, .nilFunc] #[.int .i64 1, .func (.func 32) #[] #[], .func (.func 33) #[] #[]] rfl rfl HZ.out.1 (by kernel_rfl) rfl (by kernel_rfl) ?_; intro w1 hblk hg1)
 have HB := hid (And.intro hblk (HZ.out.2.grown hg1 HZ.out.2.size fun k e => by injection e with e; omega));refine bodyPost_ret (v := .tuple #[formV 1, .bool true]) ?_ rfl ?_
 · exact results_blk_tmp (ty := 61) rfl _ _ w.heap.size 61 _ _ _ rfl rfl HB.out.1 Tryz.underlying61 rfl (by kernel_rfl)
 · exact ⟨rfl, HB.out.2⟩
set_option maxHeartbeats 1000000 in
theorem form_two (w : World) : Calls Tryz.prog 18 #[.int .i64 2] w (fun e w' => e = .returned (.tuple #[formV 2, .bool true]) ∧ Below w.heap.size w w') := by
 obtain ⟨h1, hb⟩ := box1 w 61 #[.int .i64 0, .nilFunc, .nilFunc];have HZ := hid (And.intro h1 hb);clear h1 hb;go_enter Tryz.func18, Tryz.ntmps18
 go_wp2_with (with_reducible refine wpList_store_blk rfl 61 (.tmp 2) (.tmp 12) rfl w.heap.size 61 #[.int .i64 0, .nilFunc, .nilFunc] #[.int .i64 2, .func (.func 34) #[] #[], .func (.func 35) #[] #[]] rfl rfl HZ.out.1 (by kernel_rfl) rfl (by kernel_rfl) ?_; intro w1 hblk hg1)
 have HB := hid (And.intro hblk (HZ.out.2.grown hg1 HZ.out.2.size fun k e => by injection e with e; omega));refine bodyPost_ret (v := .tuple #[formV 2, .bool true]) ?_ rfl ?_
 · exact results_blk_tmp (ty := 61) rfl _ _ w.heap.size 61 _ _ _ rfl rfl HB.out.1 Tryz.underlying61 rfl (by kernel_rfl)
 · exact ⟨rfl, HB.out.2⟩
theorem form_any {v : Nat} (hv : v = 1 ∨ v = 2) (w : World) : Calls Tryz.prog 18 #[.int .i64 (v : Int)] w (fun e w' => e = .returned (.tuple #[formV v, .bool true]) ∧ Below w.heap.size w w') := by
 rcases hv with rfl | rfl
 · exact form_one w
 · exact form_two w
set_option maxHeartbeats 1000000 in
theorem form_none (v : Int) (h1 : v ≠ 1) (h2 : v ≠ 2) (w : World) : Calls Tryz.prog 18 #[.int .i64 v] w (fun e w' => e = .returned (.tuple #[.agg #[.int .i64 0, .nilFunc, .nilFunc], .bool false]) ∧ Below w.heap.size w w') := by
 obtain ⟨hk1, hb⟩ := box1 w 61 #[.int .i64 0, .nilFunc, .nilFunc];have HZ := hid (And.intro hk1 hb);have b1 : (v == 1) = false := by simpa using h1
 have b2 : (v == 2) = false := by simpa using h2
 clear hk1 hb;go_enter Tryz.func18, Tryz.ntmps18
 go_wp2_with (with_reducible refine wpList_store_blk rfl 61 (.tmp 2) (.tmp 13) rfl w.heap.size 61 #[.int .i64 0, .nilFunc, .nilFunc] #[.int .i64 0, .nilFunc, .nilFunc] rfl rfl HZ.out.1 (by kernel_rfl) rfl (by kernel_rfl) ?_; intro w1 hblk hg1)
 have HB := hid (And.intro hblk (HZ.out.2.grown hg1 HZ.out.2.size fun k e => by injection e with e; omega));refine bodyPost_ret (v := .tuple #[.agg #[.int .i64 0, .nilFunc, .nilFunc], .bool false]) ?_ rfl ?_
 · exact results_blk_tmp (ty := 61) rfl _ _ w.heap.size 61 _ _ _ rfl rfl HB.out.1 Tryz.underlying61 rfl (by kernel_rfl)
 · exact ⟨rfl, HB.out.2⟩
def HeaderIs (v : Nat) (w : World) (e : Ending) (w' : World) : Prop :=
 ∃ A n c, e = .returned (.slice A n c) ∧ n = (hdr v).length ∧ (∀ ad, A = some ad → w.heap.size ≤ ad.block) ∧ Rd w' A n c (cs (hdr v)) ∧ Below w.heap.size w w'
theorem hdr_row (v : Nat) (hv : v = 1 ∨ v = 2) (w : World) (u : TypeId) :
 Cod.Row (w.alloc (.cells #[.int .i64 1, .int .u64 0, .string mark, .slice none 0 0, .int .i64 0, .int .u64 (v : Int), .string ByteArray.empty, .slice none 0 0] u)) (fun k => k = w.heap.size) (some ⟨w.heap.size, 0, none⟩) 2 2 [.mk 1 0 mark [], .mk 0 v ByteArray.empty []] := by
 refine row_new w (fun k => k = w.heap.size) rfl [⟨.mk 1 0 mark [], none, 0⟩, ⟨.mk 0 v ByteArray.empty [], none, 0⟩] 2 rfl (by decide) _ u rfl ?_;intro x hx;simp only [List.mem_cons, List.not_mem_nil, or_false] at hx;rcases hx with rfl | rfl
 · exact lies_leaf _ _ (by decide) (by decide) (by decide)
 · exact lies_leaf _ _ (by decide) (by omega) (by decide)
set_option maxRecDepth 20000 in
set_option maxHeartbeats 2000000 in
theorem header_any (v : Nat) (hv : v = 1 ∨ v = 2) (w : World) : Calls Tryz.prog 37 #[.int .i64 (v : Int)] w (HeaderIs v w) := by
 have HT := hid (fun u => Cp.text_any mark u);have hw : IntKind.u64.wrap (v : Int) = (v : Int) := u64_in (by omega) (by omega);have HN := hid (fun u => num_any (v : Int) u);have HV := hid hv;clear hv;unfold mark at HT;go_enter Tryz.func37, Tryz.ntmps37
 go_wp2_with fail
 refine (HT.out _).mono ?_;rintro e w1 ⟨rfl, hb1⟩;have HB1 := hid hb1;clear hb1;go_wp2_with fail
 refine (HN.out _).mono ?_;rintro e w2 ⟨rfl, hb2⟩;have HB2 := hid (bel_trans HB1.out hb2);have hr := hdr_row v HV.out w2 95;unfold mark at hr;have hli := list_any (some ⟨w2.heap.size, 0, none⟩) 2 2 (fun k => k = w2.heap.size) _ _ hr (fun b hb => by rw [hb, size_alloc]; omega) (by simp [wts, wt]; decide);have HLI := hid hli;clear hb2 hr hli hw;go_wp2_with fail
 refine HLI.out.mono ?_;rintro e w3 ⟨V, c, rfl, hrow, hb3⟩;have hL := hrow.lies (k := 2) (n := 0) (s := ByteArray.empty) (by decide) (by decide) (by decide)
 have hlen : (Cod.form (hdrIt v)).length ≤ 1000000 := by
  rw [form_hdr (by have := HV.out; omega)];show 15 ≤ _;decide
 have hpu := Cp.put_new (hdrIt v) V c _ w3 hL (fun b hb => hb) hlen;have hb03 := bel_trans (bel_alloc HB2.out _) hb3;have HPU := hid hpu;have HB3 := hid hb03;clear hrow hb3 hL hlen hpu hb03;unfold hdrIt at HPU;unfold mark at HPU;go_wp2_with fail
 refine HPU.out.mono ?_;rintro e w4 ⟨A, n, ac, rfl, hnew, hrd, hb4⟩
 have hck : chk (hdrIt v) 0 = 0 := by
  unfold hdrIt;rw [chk_list _ (by omega)];refine chks_two ?_ ?_
  · exact chk_text mark (by omega)
  · exact chk_num (v : Int) (by omega)
 unfold hdrIt mark at hck;rw [if_pos hck] at hrd;have hfo := form_hdr (v := v) (by have := HV.out; omega);unfold hdrIt mark at hfo;rw [hfo] at hrd;have hn : n = (hdr v).length := by have h := hrd.len; rw [length_cs] at h; exact h.symm
 have HR := hid (And.intro hn (And.intro (fun ad e => by have h1 := hnew ad e; have h2 := HB3.out.size; omega : ∀ ad, A = some ad → w.heap.size ≤ ad.block) (And.intro hrd (bel_trans HB3.out hb4))));clear hnew hrd hb4 hck hfo hn;go_wp2_with fail
 go_ret;exact ⟨A, n, ac, rfl, HR.out.1, HR.out.2.1, HR.out.2.2.1, HR.out.2.2.2⟩
def BytesIs (v : Nat) (r : Rc) (w : World) (e : Ending) (w' : World) : Prop :=
 ∃ A n c, e = .returned (.tuple #[.slice A n c, .int .i64 (put v r).2]) ∧ ((put v r).2 = 0 → Good v r ∧ n = (lay v r).length ∧ (∀ ad, A = some ad → w.heap.size ≤ ad.block) ∧ Rd w' A n c (cs (lay v r))) ∧ Below w.heap.size w w'
theorem bytes_good {v : Nat} {r : Rc} {w w2 w4 : World} {V A : Option Addr} {c n ac : Nat} {S : Nat → Prop} (h0 : (put v r).2 = 0) (hl : Lies w2 S (put v r).1 V c) (hb : Below w.heap.size w w2) (hnew : ∀ ad, A = some ad → w2.heap.size ≤ ad.block) (hrd : Rd w4 A n ac (cs (if chk (put v r).1 0 = 0 then Cod.form (put v r).1 else []))) :
 chk (put v r).1 0 = 0 ∧ Good v r ∧ n = (lay v r).length ∧ (∀ ad, A = some ad → w.heap.size ≤ ad.block) ∧ Rd w4 A n ac (cs (lay v r)) := by
 have hck := put_chk h0;rw [if_pos hck] at hrd;refine ⟨hck, ⟨h0, hl.fit⟩, ?_, fun ad e => ?_, hrd⟩
 · have h := hrd.len
   rw [length_cs] at h;exact h.symm
 · have h1 := hnew ad e
   have h2 := hb.size;omega
set_option maxRecDepth 20000 in
set_option maxHeartbeats 4000000 in
theorem bytes_1 (q : Pt) (w : World) (h : Dep w q) : Calls Tryz.prog 21 #[formV 1, val q] w (BytesIs 1 q.r w) := by
 obtain ⟨W, hW⟩ : ∃ W, (w.alloc (.cells #[.int .i64 1, .func (.func 32) #[] #[], .func (.func 33) #[] #[]] 61)).alloc (.cells #[.int .i64 q.r.id.1, .int .i64 q.r.id.2, .int .i64 q.r.st, .int .i64 q.r.bl.1, .int .i64 q.r.bl.2, .int .i64 q.r.tk.1, .int .i64 q.r.tk.2, .int .i64 q.r.cm.kd, .int .i64 q.r.cm.cl, .int .i64 q.r.cm.sq, .string q.r.cm.ky, .string q.r.cm.vl, .int .i64 q.r.cm.rv, .slice q.V q.n q.c, .int .i64 q.r.at_.sq, .int .i64 q.r.at_.tg] 43) = W := ⟨_, rfl⟩
 obtain ⟨k1, k2, kb, hsW⟩ := Go.Proofs.YtkejjdoaljoooaaGreatDoor.two_kinds w _ _ _ _ W hW;have HK2 := hid k2;have HB0 := hid kb;have c0 := k1.cell 0;have c1 := k1.cell 1;have c2 := k1.cell 2;simp only [List.getElem?_toArray, List.getElem?_cons_succ, List.getElem?_cons_zero] at c0 c1 c2;have hp : Calls Tryz.prog 32 #[val q] W (GivesOld W (put 1 q.r)) := old_pt q W (Rs.below h kb);have HP := hid hp;obtain ⟨x, er, hxe⟩ : ∃ x er, put 1 q.r = (x, er) := ⟨_, _, rfl⟩
 rw [hxe] at HP;have HX := hid hxe;have HW := hid hW;clear k1 k2 kb hsW hp h hxe hW;unfold formV formC val at *;go_enter Tryz.func21, Tryz.ntmps21
 go_upto_region 1 with fail
 rw [HW.out];go_wp2_with (with_reducible refine wpList_load_blk rfl 43 (.tmp 3) rfl (w.heap.size + 1) 43 #[.int .i64 q.r.id.1, .int .i64 q.r.id.2, .int .i64 q.r.st, .int .i64 q.r.bl.1, .int .i64 q.r.bl.2, .int .i64 q.r.tk.1, .int .i64 q.r.tk.2, .int .i64 q.r.cm.kd, .int .i64 q.r.cm.cl, .int .i64 q.r.cm.sq, .string q.r.cm.ky, .string q.r.cm.vl, .int .i64 q.r.cm.rv, .slice q.V q.n q.c, .int .i64 q.r.at_.sq, .int .i64 q.r.at_.tg] _ rfl HK2.out Tryz.underlying43 rfl (by kernel_rfl) ?_)
 refine HP.out.mono ?_;rintro e w1 ⟨V1, vc, rfl, hl1, hb1⟩;simp only at hl1;have HL1 := hid hl1;have HB1 := hid (bel_trans HB0.out hb1);clear hl1 hb1 c0 c1 c2;by_cases h0 : er = 0
 · subst h0
   have hl2 := HL1.out.alloc (.cells #[.int .i64 x.kind, .int .u64 (x.num : Int), .string x.str, .slice V1 x.kids.length vc] 95)
   have hfl : (Cod.form x).length ≤ 1000000 := by
    have h1 := length_form_le x hl2.fit;have h2 := wt_put 1 q.r;rw [HX.out] at h2;simp only at h2;omega
   have hpu := Cp.put_new x V1 vc _ _ hl2 (fun b hb => by rw [size_alloc]; have := hb.2; omega) hfl;have HPU := hid hpu;have HL2 := hid hl2;clear hl2 hfl hpu;go_wp2_with fail
   refine HPU.out.mono ?_;rintro e w4 ⟨A, n, ac, rfl, hnew, hrd, hb4⟩;have hpx : (put 1 q.r).1 = x ∧ (put 1 q.r).2 = 0 := (by rw [HX.out]; exact ⟨rfl, rfl⟩);have hg := bytes_good (v := 1) (r := q.r) (w := w) (V := V1) (c := vc) hpx.2 (by rw [hpx.1]; exact HL2.out) (bel_alloc HB1.out _) hnew (by rw [hpx.1]; exact hrd);have hck : chk x 0 = 0 := (by rw [← hpx.1]; exact hg.1);rw [hck];have HG := hid (And.intro hg.2 (And.intro hpx.2 (bel_trans (bel_alloc HB1.out _) hb4)));clear hnew hrd hb4 hpx hg hck;go_wp2_with fail
   go_ret2
   exact ⟨A, n, ac, by rw [HG.out.2.1]; rfl, fun _ => HG.out.1, HG.out.2.2⟩
 · have b0 : (er != 0) = true := by simpa using h0
   have b1 : (er == 0) = false := (by simpa using h0);have H0 := hid h0;clear h0;go_wp2_with fail
   go_ret2
   refine ⟨none, 0, 0, by rw [HX.out]; rfl, fun h => ?_, bel_alloc HB1.out _⟩;rw [HX.out] at h;exact absurd h H0.out
set_option maxRecDepth 20000 in
set_option maxHeartbeats 4000000 in
theorem bytes_2 (q : Pt) (w : World) (h : Dep w q) : Calls Tryz.prog 21 #[formV 2, val q] w (BytesIs 2 q.r w) := by
 obtain ⟨W, hW⟩ : ∃ W, (w.alloc (.cells #[.int .i64 2, .func (.func 34) #[] #[], .func (.func 35) #[] #[]] 61)).alloc (.cells #[.int .i64 q.r.id.1, .int .i64 q.r.id.2, .int .i64 q.r.st, .int .i64 q.r.bl.1, .int .i64 q.r.bl.2, .int .i64 q.r.tk.1, .int .i64 q.r.tk.2, .int .i64 q.r.cm.kd, .int .i64 q.r.cm.cl, .int .i64 q.r.cm.sq, .string q.r.cm.ky, .string q.r.cm.vl, .int .i64 q.r.cm.rv, .slice q.V q.n q.c, .int .i64 q.r.at_.sq, .int .i64 q.r.at_.tg] 43) = W := ⟨_, rfl⟩
 obtain ⟨k1, k2, kb, hsW⟩ := Go.Proofs.YtkejjdoaljoooaaGreatDoor.two_kinds w _ _ _ _ W hW;have HK2 := hid k2;have HB0 := hid kb;have c0 := k1.cell 0;have c1 := k1.cell 1;have c2 := k1.cell 2;simp only [List.getElem?_toArray, List.getElem?_cons_succ, List.getElem?_cons_zero] at c0 c1 c2;have hp : Calls Tryz.prog 34 #[val q] W (GivesOld W (put 2 q.r)) := sitem_any q W (Rs.below h kb);have HP := hid hp;obtain ⟨x, er, hxe⟩ : ∃ x er, put 2 q.r = (x, er) := ⟨_, _, rfl⟩
 rw [hxe] at HP;have HX := hid hxe;have HW := hid hW;clear k1 k2 kb hsW hp h hxe hW;unfold formV formC val at *;go_enter Tryz.func21, Tryz.ntmps21
 go_upto_region 1 with fail
 rw [HW.out];go_wp2_with (with_reducible refine wpList_load_blk rfl 43 (.tmp 3) rfl (w.heap.size + 1) 43 #[.int .i64 q.r.id.1, .int .i64 q.r.id.2, .int .i64 q.r.st, .int .i64 q.r.bl.1, .int .i64 q.r.bl.2, .int .i64 q.r.tk.1, .int .i64 q.r.tk.2, .int .i64 q.r.cm.kd, .int .i64 q.r.cm.cl, .int .i64 q.r.cm.sq, .string q.r.cm.ky, .string q.r.cm.vl, .int .i64 q.r.cm.rv, .slice q.V q.n q.c, .int .i64 q.r.at_.sq, .int .i64 q.r.at_.tg] _ rfl HK2.out Tryz.underlying43 rfl (by kernel_rfl) ?_)
 refine HP.out.mono ?_;rintro e w1 ⟨V1, vc, rfl, hl1, hb1⟩;simp only at hl1;have HL1 := hid hl1;have HB1 := hid (bel_trans HB0.out hb1);clear hl1 hb1 c0 c1 c2;by_cases h0 : er = 0
 · subst h0
   have hl2 := HL1.out.alloc (.cells #[.int .i64 x.kind, .int .u64 (x.num : Int), .string x.str, .slice V1 x.kids.length vc] 95)
   have hfl : (Cod.form x).length ≤ 1000000 := by
    have h1 := length_form_le x hl2.fit;have h2 := wt_put 2 q.r;rw [HX.out] at h2;simp only at h2;omega
   have hpu := Cp.put_new x V1 vc _ _ hl2 (fun b hb => by rw [size_alloc]; have := hb.2; omega) hfl;have HPU := hid hpu;have HL2 := hid hl2;clear hl2 hfl hpu;go_wp2_with fail
   refine HPU.out.mono ?_;rintro e w4 ⟨A, n, ac, rfl, hnew, hrd, hb4⟩;have hpx : (put 2 q.r).1 = x ∧ (put 2 q.r).2 = 0 := (by rw [HX.out]; exact ⟨rfl, rfl⟩);have hg := bytes_good (v := 2) (r := q.r) (w := w) (V := V1) (c := vc) hpx.2 (by rw [hpx.1]; exact HL2.out) (bel_alloc HB1.out _) hnew (by rw [hpx.1]; exact hrd);have hck : chk x 0 = 0 := (by rw [← hpx.1]; exact hg.1);rw [hck];have HG := hid (And.intro hg.2 (And.intro hpx.2 (bel_trans (bel_alloc HB1.out _) hb4)));clear hnew hrd hb4 hpx hg hck;go_wp2_with fail
   go_ret2
   exact ⟨A, n, ac, by rw [HG.out.2.1]; rfl, fun _ => HG.out.1, HG.out.2.2⟩
 · have b0 : (er != 0) = true := by simpa using h0
   have b1 : (er == 0) = false := (by simpa using h0);have H0 := hid h0;clear h0;go_wp2_with fail
   go_ret2
   refine ⟨none, 0, 0, by rw [HX.out]; rfl, fun h => ?_, bel_alloc HB1.out _⟩;rw [HX.out] at h;exact absurd h H0.out
theorem bytes_any {v : Nat} (hv : v = 1 ∨ v = 2) (q : Pt) (w : World) (h : Dep w q) : Calls Tryz.prog 21 #[formV v, val q] w (BytesIs v q.r w) := by
 rcases hv with rfl | rfl
 · exact bytes_1 q w h
 · exact bytes_2 q w h
end Go.Proofs.YtkejjdoaljoooaaGreatDoor.Sc
