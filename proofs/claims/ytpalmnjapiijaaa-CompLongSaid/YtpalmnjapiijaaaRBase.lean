/-
  Texts of earlier layers, as one.
-/
import Derived.WalkKit
import Derived.Lib.Hide
import Derived.Laws.AppendOwnNone
import Derived.OpenShut
import Derived.Deep.QuietTactic
import Derived.BigQuiet
import Derived.Deep.MidRow
import Derived.Laws.OwnMore
import Derived.Maps.AppendAt
import Derived.Deep.Quiet
import Derived.Deep.RegionHeld
import Derived.Laws.Tables
import Derived.Laws.AppendOwn
/- Words for memory, of no program: a slice value that reads as a list of one-cell values ('Rd'), what keeps that, and an append onto a row of the call's own of whatever source ('wpList_append_rd'). -/
namespace Go.Proofs.Ytpalmnjapiijaaa.Mem
open Go.RowKit

theorem add_block (a : Addr) (n : Nat) : (a.add n).block = a.block := by unfold Addr.add; split <;> rfl
theorem add_add (a : Addr) (i j : Nat) : (a.add i).add j = a.add (i + j) := by
  unfold Addr.add
  by_cases hi : i = 0 <;> by_cases hj : j = 0 <;> simp [hi, hj, Nat.add_assoc]

/-- The cells of a list of bytes, of a list of uint64. -/
def cs (bs : List Nat) : List Value := bs.map fun (b : Nat) => Value.int .u8 (b : Int)
def us (vs : List Nat) : List Value := vs.map fun (b : Nat) => Value.int .u64 (b : Int)

theorem length_cs (bs : List Nat) : (cs bs).length = bs.length := by simp [cs]
theorem length_us (bs : List Nat) : (us bs).length = bs.length := by simp [us]
theorem cs_append (a b : List Nat) : cs (a ++ b) = cs a ++ cs b := by simp [cs]
theorem cs_take (a : List Nat) (k : Nat) : (cs a).take k = cs (a.take k) := by simp [cs, List.map_take]
theorem cs_drop (a : List Nat) (k : Nat) : (cs a).drop k = cs (a.drop k) := by simp [cs, List.map_drop]
theorem cs_one (bs : List Nat) : ∀ u ∈ cs bs, u.oneCell' = true := by
  intro u hu
  obtain ⟨_, _, rfl⟩ := List.mem_map.1 hu
  rfl
theorem cs_at (bs : List Nat) (k : Nat) (h : k < bs.length) : (cs bs)[k]? = some (.int .u8 ((bs[k] : Nat) : Int)) := by
  simp [cs, List.getElem?_eq_getElem h]
theorem us_at (bs : List Nat) (k : Nat) (h : k < bs.length) : (us bs)[k]? = some (.int .u64 ((bs[k] : Nat) : Int)) := by
  simp [us, List.getElem?_eq_getElem h]

/-- The slice value '.slice A n c' holds the one-cell values xs. -/
structure Rd (w : World) (A : Option Addr) (n c : Nat) (xs : List Value) : Prop where
  len : xs.length = n
  le : n ≤ c
  cap : c ≤ maxLen
  nil : A = none → c = 0
  spot : 0 < n → ∃ ad, A = some ad ∧ ad.block < w.heap.size ∧ ∀ j u, xs[j]? = some u → w.cell? (ad.add j) = some u

section
variable {w w' : World} {A : Option Addr} {n c : Nat} {xs : List Value}
theorem Rd.nil_ (w : World) : Rd w none 0 0 [] := ⟨rfl, Nat.le_refl _, by simp [maxLen], fun _ => rfl, fun h => absurd h (by omega)⟩
theorem Rd.at_ {k : Nat} (h : Rd w A n c xs) (hk : k < n) : ∃ ad u, A = some ad ∧ ad.block < w.heap.size ∧ xs[k]? = some u ∧ w.cell? (ad.add k) = some u := by
  obtain ⟨ad, e, hb, hc⟩ := h.spot (by omega)
  have hl : k < xs.length := by have := h.len; omega
  exact ⟨ad, xs[k], e, hb, List.getElem?_eq_getElem hl, hc k _ (List.getElem?_eq_getElem hl)⟩
theorem Rd.keep (h : Rd w A n c xs) (hs : w.heap.size ≤ w'.heap.size) (hk : ∀ p : Addr, p.block < w.heap.size → w'.cell? p = w.cell? p) : Rd w' A n c xs :=
  ⟨h.len, h.le, h.cap, h.nil, fun hn => by
    obtain ⟨ad, e, hb, hc⟩ := h.spot hn
    exact ⟨ad, e, by omega, fun j u hu => (hk _ (by rw [add_block]; exact hb)).trans (hc j u hu)⟩⟩
theorem Rd.below (h : Rd w A n c xs) (hb : Below w.heap.size w w') : Rd w' A n c xs := h.keep hb.size fun _ hp => hb.cell hp
theorem Rd.alloc (h : Rd w A n c xs) (o : Obj) : Rd (w.alloc o) A n c xs := h.keep (by simp) fun p hp => World.cell?_alloc_lt w o p hp
theorem Rd.drewN (h : Rd w A n c xs) (k : Nat) : Rd (w.drewN k) A n c xs := ⟨h.len, h.le, h.cap, h.nil, h.spot⟩
theorem Rd.drew (h : Rd w A n c xs) : Rd w.drew A n c xs := ⟨h.len, h.le, h.cap, h.nil, h.spot⟩
/-- s[:k] -/
theorem Rd.take (h : Rd w A n c xs) {k : Nat} (hk : k ≤ n) : Rd w A k c (xs.take k) :=
  ⟨by rw [List.length_take, h.len]; omega, by have := h.le; omega, h.cap, h.nil, fun hk0 => by
    obtain ⟨ad, e, hb, hc⟩ := h.spot (by omega)
    refine ⟨ad, e, hb, fun j u hu => hc j u ?_⟩
    rw [List.getElem?_take] at hu
    split at hu
    · exact hu
    · cases hu⟩
/-- s[k:] -/
theorem Rd.drop (h : Rd w A n c xs) {k : Nat} (hk : k ≤ n) : Rd w (if c = k then A else A.map (·.add (k * 1))) (n - k) (c - k) (xs.drop k) := by
  have h1 := h.le
  have h2 := h.cap
  refine ⟨by rw [List.length_drop, h.len], by omega, by omega, fun e => ?_, fun hn => ?_⟩
  · split at e
    · have := h.nil e; omega
    · have := h.nil (by simpa using e); omega
  · obtain ⟨ad, rfl, hb, hcell⟩ := h.spot (by omega)
    rw [if_neg (by omega)]
    refine ⟨ad.add (k * 1), rfl, by rw [add_block]; exact hb, fun j u hu => ?_⟩
    rw [add_add]
    exact hcell _ u (by rw [← hu, List.getElem?_drop, Nat.mul_one])
/-- The address of s[k:]. -/
def cutA (A : Option Addr) (c k : Nat) : Option Addr := if c = k then A else A.map (·.add (k * 1))
theorem Rd.cut (h : Rd w A n c xs) {k : Nat} (hk : k ≤ n) : Rd w (cutA A c k) (n - k) (c - k) (xs.drop k) := h.drop hk
/-- What the call owns, it can read. -/
theorem Rd.of_own {base : Nat} {e : TypeId} {v : Value} (h : w.ownsRow base e 1 v n xs) : ∃ A c, v = .slice A n c ∧ Rd w A n c xs := by
  have hl := h.1
  rcases h.2 with ⟨rfl, rfl⟩ | ⟨g, cap, cur, rfl, hb, hg, hnc, hm, hs, ht⟩
  · exact ⟨none, 0, rfl, by simpa using hl, Nat.le_refl _, by simp [maxLen], fun _ => rfl, fun h => absurd h (by omega)⟩
  · exact ⟨some ⟨g, 0, none⟩, cap, rfl, by simpa using hl, hnc, hm, (fun e => by cases e), fun _ => ⟨_, rfl, (Array.getElem?_eq_some_iff.1 hg).1, h.cells (g := g) rfl⟩⟩
end

theorem Rd.none0 {w : World} {A : Option Addr} {n c : Nat} {xs : List Value} (h : Rd w A n c xs) : A = none → n = 0 ∧ c = 0 := fun e => by
  have := h.nil e; have := h.le; omega
theorem Rd.cells {w : World} {A : Option Addr} {n c : Nat} {xs : List Value} (h : Rd w A n c xs) : ∀ ad, A = some ad → ∀ j u, xs[j]? = some u → w.cell? (ad.add j) = some u := by
  intro ad e j u hu
  have hj : j < n := by rw [← h.len]; exact (List.getElem?_eq_some_iff.1 hu).1
  obtain ⟨ad', e', _, hc⟩ := h.spot (by omega)
  cases e.symm.trans e'
  exact hc j u hu
theorem Rd.byte {w : World} {A : Option Addr} {n c k : Nat} {bs : List Nat} (h : Rd w A n c (cs bs)) (hk : k < n) : ∃ ad b, A = some ad ∧ bs[k]? = some b ∧ w.cell? (ad.add k) = some (.int .u8 (b : Int)) := by
  obtain ⟨ad, u, e, _, hx, hc⟩ := h.at_ hk
  have hl := h.len
  rw [length_cs] at hl
  rw [cs_at bs k (by omega)] at hx
  cases hx
  exact ⟨ad, _, e, List.getElem?_eq_getElem (by omega), hc⟩
theorem ownsRow_below {w w' : World} {base : Nat} {e : TypeId} {size : Nat} {v : Value} {n : Nat} {xs : List Value} (h : w.ownsRow base e size v n xs) (hb : Below w.heap.size w w') : w'.ownsRow base e size v n xs := by
  refine ⟨h.1, ?_⟩
  rcases h.2 with h | ⟨g, cap, cur, hv, hg, hh, r⟩
  · exact .inl h
  · exact .inr ⟨g, cap, cur, hv, hg, (hb.block g (Array.getElem?_eq_some_iff.1 hh).1).trans hh, r⟩
theorem below_drewN {B : Nat} {a w : World} (h : Below B a w) (n : Nat) : Below B a (w.drewN n) := ⟨h.os, h.tape, h.output, h.size, h.block⟩
theorem bel_trans {w w1 w2 : World} (h : Below w.heap.size w w1) (k : Below w1.heap.size w1 w2) : Below w.heap.size w w2 := h.trans (k.mono h.size)
theorem bel_alloc {w w1 : World} (h : Below w.heap.size w w1) (o : Obj) : Below w.heap.size w (w1.alloc o) := h.alloc h.size o
theorem bel_grown {w w1 w2 : World} {row : Option Nat} (h : Below w.heap.size w w1) (hg : w1.grownBy w2 row) (hr : ∀ k, row = some k → w.heap.size ≤ k) : Below w.heap.size w w2 := h.grown hg h.size hr

/-- The ending: a slice of n bytes that can be read; what was there stays. -/
def Gives (w : World) (n : Nat) (bs : List Nat) (e : Ending) (w' : World) : Prop :=
  ∃ A c, e = .returned (.slice A n c) ∧ Rd w' A n c (cs bs) ∧ Below w.heap.size w w'

/-- The ending: a bool; what was there stays. -/
def Tells (b : Bool) (w : World) (e : Ending) (w' : World) : Prop := e = .returned (.bool b) ∧ Below w.heap.size w w'

theorem Rd.own {w : World} {base : Nat} {e : TypeId} {V : Option Addr} {n c : Nat} {xs : List Value} (h : w.ownsRow base e 1 (.slice V n c) n xs) : Rd w V n c xs := by
  obtain ⟨A, c', e, hr⟩ := Rd.of_own h
  cases e
  exact hr
/-- A slice literal of n cells, just made. -/
theorem Rd.lit (w : World) (vs : List Value) (t : TypeId) (n : Nat) (hn : vs.length = n) (hm : n ≤ maxLen) : Rd (w.alloc (.cells vs.toArray t)) (some ⟨w.heap.size, 0, none⟩) n n vs :=
  ⟨hn, Nat.le_refl _, hm, (fun e => by cases e), fun _ => ⟨_, rfl, by simp, fun j u hu => by
    rw [Addr.add_lit, Nat.zero_add, cell_of_row _ _ _ _ _ _ (heap_alloc_new w _)]
    simpa using hu⟩⟩
/-- .. with a frozen range (a constant text turned into bytes). -/
theorem Rd.litF (w : World) (vs : List Value) (t : TypeId) (fr : Nat × Nat) (n : Nat) (hn : vs.length = n) (hm : n ≤ maxLen) : Rd (w.alloc (.cells vs.toArray t fr)) (some ⟨w.heap.size, 0, none⟩) n n vs :=
  ⟨hn, Nat.le_refl _, hm, (fun e => by cases e), fun _ => ⟨_, rfl, by simp, fun j u hu => by
    rw [Addr.add_lit, Nat.zero_add, cell_of_row _ _ _ _ _ _ (heap_alloc_new w _)]
    simpa using hu⟩⟩
theorem Rd.one (w : World) (v : Value) (t : TypeId) : Rd (w.alloc (.cells #[v] t)) (some ⟨w.heap.size, 0, none⟩) 1 1 [v] := Rd.lit w [v] t 1 rfl (by simp [maxLen])

/-- 'append(v, x...)' within the capacity, x whatever slice. -/
theorem wpList_append_fits_rd {P : Program} {w : World} {ops : Array Oper} {rest : List Oper} {o : Oper} {a : Act} {Q : Exit → Act → World → Prop}
    (hg : o.guard = none) (s x : Operand) (t : TypeId) (hop : o.op = Op.call { callee := Callee.builtin Builtin.append, args := #[s, x], argTypes := #[t, t] })
    (base : Nat) (e : TypeId) (i : TypeInfo) (h1 : P.underlying t = some (.slice e)) (h2 : P.info? e = some i) (h4 : i.size = 1)
    (g k cap : Nat) (xs : List Value) (hs : a.eval s = .slice (some ⟨g, 0, none⟩) k cap) (hown : w.ownsRow base e 1 (.slice (some ⟨g, 0, none⟩) k cap) k xs)
    (A : Option Addr) (m c : Nat) (news : List Value) (hx : a.eval x = .slice A m c) (hr : Rd w A m c news) (h1c : ∀ u ∈ news, u.oneCell' = true) (b1 : k + m ≤ cap)
    (hK : ∀ w', w'.ownsRow base e 1 (.slice (some ⟨g, 0, none⟩) (k + m) cap) (k + m) (xs ++ news) → w.grownBy w' (some g) → wpList P ops Q rest (a.put o.dst (.slice (some ⟨g, 0, none⟩) (k + m) cap)) w') :
    wpList P ops Q (o :: rest) a w :=
  wpList_append_fits_any w hg s x t hop base e i 1 h1 h2 h4 g k cap xs hs hown A m c news hx (by rw [hr.len, Nat.mul_one]) hr.none0 hr.cells h1c b1 hK

/-- 'append(v, x...)' where v is the call's own (its blocks lie from 'base' on) and x whatever slice: the walk goes on with a slice that the call owns; what lies below 'base' stays. -/
theorem wpList_append_rd {P : Program} {w : World} {ops : Array Oper} {rest : List Oper} {o : Oper} {a : Act} {Q : Exit → Act → World → Prop} (hgd : o.guard = none) (s x : Operand) (t : TypeId)
    (ho : o.op = .call { callee := .builtin .append, args := #[s, x], argTypes := #[t, t] })
    (base : Nat) (e : TypeId) (i : TypeInfo) (z : Value) (bytes : Nat) (ht : P.underlying t = some (.slice e)) (hi : P.info? e = some i) (hz : i.zero = some z)
    (hsize : i.size = 1) (hby : i.bytes = bytes) (hzs : z.cells.size = 1)
    (V : Option Addr) (n cv : Nat) (xs : List Value) (hs : a.eval s = .slice V n cv) (hown : w.ownsRow base e 1 (.slice V n cv) n xs)
    (A : Option Addr) (m c : Nat) (news : List Value) (hx : a.eval x = .slice A m c) (hr : Rd w A m c news) (h1 : ∀ u ∈ news, u.oneCell' = true)
    (h63 : n + m ≤ maxLen) (hbytes : (n + m) * bytes ≤ 140737488355328) (hbase : base ≤ w.heap.size)
    (h : ∀ V' c' w', w'.ownsRow base e 1 (.slice V' (n + m) c') (n + m) (xs ++ news) → Below base w w' → wpList P ops Q rest (a.put o.dst (.slice V' (n + m) c')) w') : wpList P ops Q (o :: rest) a w := by
  rcases A with _ | ad
  · have hc : c = 0 := hr.nil rfl
    have hm : m = 0 := by have := hr.le; omega
    subst hc; subst hm
    have hn : news = [] := List.eq_nil_of_length_eq_zero hr.len
    subst hn
    refine wpList_append_own_none hgd s x t ho base e i 1 ht hi _ n xs hs hown hx ?_
    exact h V cv w (by simpa using hown) (Below.refl _ _)
  · refine wpList_append_own w hgd s x t ho base e i z 1 bytes ht hi hz hsize hby hzs (by omega) _ n xs hs hown ad m c news hx (by rw [hr.len, Nat.mul_one]) (hr.cells _ rfl) h1 h63 hbytes hbase
      fun v' w' hown' hg _ => ?_
    obtain ⟨V', c', rfl, _⟩ := Rd.of_own hown'
    exact h V' c' w' hown' ((Below.refl _ _).grown hg hbase fun k hk => (hown.lt k hk).1)

/-- s[k:] at a slice of one-cell elements, its address under one name. -/
theorem run_cut {P : Program} (t : TypeId) (ht : P.underlying t = some (.slice (P.elem t))) (hsz : ∀ w : World, (sizeOf (P.elem t)).run P w = .ok 1 w) (A : Option Addr) (n c k : Nat) (hk : k ≤ n) (w : World) :
    (Instr.slice t (.slice A n c) (some (.int .i64 (k : Int))) none none).run P w = .ok (.slice (cutA A c k) (n - k) (c - k)) w := by
  rw [run_slice_l w t A n c ht .i64 (k : Int) (by omega) (by omega), hsz]
  simp [Result.andThen, sliced, cutA]

/-- A slice of unsigned integers that came in, as the row's frame opens it, reads as a list of numbers. -/
theorem Rd.of_row_k {w : World} {k : IntKind} {a : Option Addr} {len cap : Nat} {zs : List Int} (hk : ∀ n : Int, (Lit.int k n).wf = true → 0 ≤ n) (h : (a = none ∧ len = 0 ∧ cap = 0 ∧ zs = []) ∨
    ∃ x, a = some x ∧ len ≤ cap ∧ cap ≤ maxLen ∧ zs.length = cap ∧ (∀ i, i < zs.length → w.cell? (x.add i) = some (.int k (zs.getD i 0))) ∧ ∀ n ∈ zs, (Lit.int k n).wf = true) :
    ∃ bs : List Nat, Rd w a len cap (bs.map fun (b : Nat) => Value.int k (b : Int)) ∧ ∀ b ∈ bs, (Lit.int k (b : Int)).wf = true := by
  rcases h with ⟨rfl, rfl, rfl, rfl⟩ | ⟨x, rfl, hl, hm, hz, hcell, hwz⟩
  · exact ⟨[], Rd.nil_ w, by simp⟩
  · have hc : (((zs.take len).map Int.toNat).map fun (b : Nat) => Value.int k (b : Int)) = (zs.take len).map fun z => Value.int k z := by
      rw [List.map_map]
      refine List.map_congr_left fun z hz' => ?_
      have := hk z (hwz z (List.mem_of_mem_take hz'))
      simp only [Function.comp]
      rw [Int.toNat_of_nonneg this]
    refine ⟨(zs.take len).map Int.toNat, ?_, fun b hb => ?_⟩
    · rw [hc]
      refine ⟨by rw [List.length_map, List.length_take]; omega, hl, hm, (fun e => by cases e), fun h0 => ⟨x, rfl, ?_, fun j u hu => ?_⟩⟩
      · have h1 := hcell 0 (by omega)
        have := World.block_lt_of_cell? w _ h1
        rwa [add_block] at this
      · rw [List.getElem?_map, Option.map_eq_some_iff] at hu
        obtain ⟨z, hz', rfl⟩ := hu
        rw [List.getElem?_take] at hz'
        split at hz'
        · have hj : j < zs.length := by omega
          rw [hcell j hj]
          simp [List.getD, hz']
        · cases hz'
    · obtain ⟨z, hz', rfl⟩ := List.mem_map.1 hb
      have := hwz z (List.mem_of_mem_take hz')
      rw [Int.toNat_of_nonneg (hk z this)]
      exact this

theorem Rd.of_bytes {w : World} {a : Option Addr} {len cap : Nat} {zs : List Int} (h : (a = none ∧ len = 0 ∧ cap = 0 ∧ zs = []) ∨
    ∃ x, a = some x ∧ len ≤ cap ∧ cap ≤ maxLen ∧ zs.length = cap ∧ (∀ i, i < zs.length → w.cell? (x.add i) = some (.int .u8 (zs.getD i 0))) ∧ ∀ n ∈ zs, (Lit.int .u8 n).wf = true) :
    ∃ bs : List Nat, Rd w a len cap (cs bs) ∧ ∀ b ∈ bs, b < 256 := by
  obtain ⟨bs, h1, h2⟩ := Rd.of_row_k (fun n h => (bounds_u8 h).1) h
  exact ⟨bs, h1, fun b hb => by have := (bounds_u8 (h2 b hb)).2; omega⟩

theorem size_alloc (w : World) (o : Obj) : (w.alloc o).heap.size = w.heap.size + 1 := by simp
/-- Block g is just these cells, none of them frozen. -/
def Blk (w : World) (g : Nat) (t : TypeId) (vs : Array Value) : Prop := w.heap[g]? = some (.cells vs t (0, 0))
section
variable {w w' : World} {g : Nat} {t : TypeId} {vs : Array Value}
theorem Blk.lt (h : Blk w g t vs) : g < w.heap.size := (Array.getElem?_eq_some_iff.1 h).1
theorem Blk.cell (h : Blk w g t vs) (i : Nat) : w.cell? ⟨g, i, none⟩ = vs[i]? := cell_of_row w g i vs t (0, 0) h
theorem Blk.soft (h : Blk w g t vs) (i : Nat) : w.frozen? ⟨g, i, none⟩ = false := by
  unfold Blk at h
  simp [World.frozen?, h]
theorem Blk.new (w : World) (t : TypeId) (vs : Array Value) : Blk (w.alloc (.cells vs t)) w.heap.size t vs := heap_alloc_new w _
theorem Blk.drew (h : Blk w g t vs) : Blk w.drew g t vs := h
theorem Blk.drewN (h : Blk w g t vs) (k : Nat) : Blk (w.drewN k) g t vs := h
theorem Blk.alloc (h : Blk w g t vs) (o : Obj) : Blk (w.alloc o) g t vs := (Below.heap_alloc w o g h.lt).trans h
theorem Blk.below {B : Nat} (h : Blk w g t vs) (hb : Below B w w') (hg : g < B) : Blk w' g t vs := (hb.block g hg).trans h
theorem Blk.bel (h : Blk w g t vs) (hb : Below w.heap.size w w') : Blk w' g t vs := h.below hb h.lt
theorem Blk.grown {row : Option Nat} (h : Blk w g t vs) (hb : w.grownBy w' row) (hg : some g ≠ row) : Blk w' g t vs := (hb.block g h.lt hg).trans h
theorem Blk.put (h : Blk w g t vs) (i : Nat) (u : Value) : Blk (w.setCell ⟨g, i, none⟩ u) g t (vs.setIfInBounds i u) := by
  unfold Blk at h ⊢
  simp [World.setCell, Array.getElem?_modify, h]
theorem Blk.far (h : Blk w g t vs) {p : Addr} (hp : g ≠ p.block) (u : Value) : Blk (w.setCell p u) g t vs := (Below.heap_setCell w p u g hp).trans h
end

end Go.Proofs.Ytpalmnjapiijaaa.Mem
/- What a call turns in memory, of no program: the blocks of one set, and new ones, alone ('Keeps'); bytes that lie in a set's blocks; a row outside of it; what lasts while one set's blocks are turned ('Frame'). -/
namespace Go.Proofs.Ytpalmnjapiijaaa.Dsk
open Go.RowKit Mem

/-- Only blocks of S, and new ones, are turned. -/
structure Keeps (S : Nat → Prop) (w w' : World) : Prop where
  os : w'.os = w.os
  tape : w'.tape = w.tape
  output : w'.output = w.output
  size : w.heap.size ≤ w'.heap.size
  block : ∀ k, k < w.heap.size → ¬ S k → w'.heap[k]? = w.heap[k]?
/-- Nothing is S's that wasn't, but what is new. -/
def Grew (S S' : Nat → Prop) (w : World) : Prop := ∀ k, S' k → S k ∨ w.heap.size ≤ k
section
variable {S S' T : Nat → Prop} {w w1 w2 w' : World}
theorem Keeps.refl (S : Nat → Prop) (w : World) : Keeps S w w := ⟨rfl, rfl, rfl, Nat.le_refl _, fun _ _ _ => rfl⟩
theorem Keeps.ofBelow (h : Below w.heap.size w w') : Keeps S w w' := ⟨h.os, h.tape, h.output, h.size, fun k hk _ => h.block k hk⟩
theorem Keeps.ofGrown {g : Nat} (h : w.grownBy w' (some g)) (hg : S g) : Keeps S w w' := ⟨h.os, h.tape, h.output, h.size, fun k hk hn => h.block k hk fun e => hn (by injection e with e; rw [e]; exact hg)⟩
theorem Keeps.trans (h : Keeps S w w1) (k : Keeps S' w1 w2) (hg : Grew S S' w) : Keeps S w w2 :=
  ⟨k.os.trans h.os, k.tape.trans h.tape, k.output.trans h.output, Nat.le_trans h.size k.size, fun i hi hn => (k.block i (by have := h.size; omega) fun hs => (hg i hs).elim hn fun e => by omega).trans (h.block i hi hn)⟩
theorem Keeps.below (h : Keeps S w w') {B : Nat} (hB : B ≤ w.heap.size) (hS : ∀ k, S k → B ≤ k) : Below B w w' :=
  ⟨h.os, h.tape, h.output, h.size, fun i hi => h.block i (by omega) fun hs => by have := hS i hs; omega⟩
theorem Keeps.cell (h : Keeps S w w') {p : Addr} (hp : p.block < w.heap.size) (hn : ¬ S p.block) : w'.cell? p = w.cell? p := World.cell?_of_block (h.block _ hp hn)
theorem Grew.refl (S : Nat → Prop) (w : World) : Grew S S w := fun _ h => .inl h
theorem Grew.trans {S2 : Nat → Prop} (h : Grew S S' w) (k : Grew S' S2 w1) (hs : w.heap.size ≤ w1.heap.size) : Grew S S2 w := fun i hi => (k i hi).elim (fun h' => h i h') fun e => .inr (by omega)
end
/-- Bytes that can be read, in blocks of S. -/
def RdS (S : Nat → Prop) (w : World) (A : Option Addr) (n c : Nat) (bs : List Nat) : Prop := Rd w A n c (cs bs) ∧ (0 < n → ∃ ad, A = some ad ∧ S ad.block)
theorem RdS.keep {S S' : Nat → Prop} {w w' : World} {A : Option Addr} {n c : Nat} {bs : List Nat} (h : RdS S w A n c bs) (hs : w.heap.size ≤ w'.heap.size) (hS : ∀ b, S b → b < w.heap.size → S' b ∧ w'.heap[b]? = w.heap[b]?) : RdS S' w' A n c bs := by
  obtain ⟨h1, h2⟩ := h
  refine ⟨⟨h1.len, h1.le, h1.cap, h1.nil, fun hn => ?_⟩, fun hn => ?_⟩
  · obtain ⟨ad, e, hb, hc⟩ := h1.spot hn
    obtain ⟨ad', e', hs'⟩ := h2 hn
    cases e.symm.trans e'
    refine ⟨ad, e, by omega, fun j u hu => ?_⟩
    have hb' : w'.heap[(ad.add j).block]? = w.heap[(ad.add j).block]? := by rw [add_block]; exact (hS _ hs' hb).2
    exact (World.cell?_of_block hb').trans (hc j u hu)
  · obtain ⟨ad, e, hb, _⟩ := h1.spot hn
    obtain ⟨ad', e', hs'⟩ := h2 hn
    cases e.symm.trans e'
    exact ⟨ad, e, (hS _ hs' hb).1⟩
theorem RdS.new {S : Nat → Prop} {w' : World} {base : Nat} {e : TypeId} {V : Option Addr} {n c : Nat} {bs : List Nat} (h : w'.ownsRow base e 1 (.slice V n c) n (cs bs)) (hS : ∀ b, base ≤ b → b < w'.heap.size → S b) : RdS S w' V n c bs := by
  refine ⟨Rd.own h, fun hn => ?_⟩
  rcases h.2 with ⟨_, h0⟩ | ⟨g, cap, cur, ev, hb, hg, _⟩
  · omega
  · injection ev with ev _ _
    exact ⟨_, ev, hS g hb (Array.getElem?_eq_some_iff.1 hg).1⟩
/-- A row lies outside a set's blocks. -/
def Outs (S : Nat → Prop) (n : Nat) (A : Option Addr) : Prop := 0 < n → ∀ ad, A = some ad → ¬ S ad.block
/-- What lasts while the blocks of one set alone are turned. -/
structure Frame (F : World → (Nat → Prop) → Prop) : Prop where
  go : ∀ {w w' : World} {S S' : Nat → Prop}, F w S → Keeps S w w' → Grew S S' w → F w' S'
/-- All that was turned is new. -/
def FNew (w0 : World) (w : World) (S : Nat → Prop) : Prop := (∀ k, S k → w0.heap.size ≤ k) ∧ Below w0.heap.size w0 w
/-- Values can be read, outside the disk. -/
def FRd (A : Option Addr) (n c : Nat) (xs : List Value) (w : World) (S : Nat → Prop) : Prop := Rd w A n c xs ∧ Outs S n A
theorem frame_new (w0 : World) : Frame (FNew w0) := by
  refine ⟨fun {w w' S S'} h hk hg => ?_⟩
  have hs := h.2.size
  refine ⟨fun k hk' => ?_, h.2.trans (hk.below hs h.1)⟩
  rcases hg k hk' with h' | h'
  · exact h.1 k h'
  · omega
theorem frame_rd (A : Option Addr) (n c : Nat) (xs : List Value) : Frame (FRd A n c xs) := by
  refine ⟨fun {w w' S S'} h hk hg => ?_⟩
  obtain ⟨h1, h2⟩ := h
  refine ⟨⟨h1.len, h1.le, h1.cap, h1.nil, fun h0 => ?_⟩, fun h0 ad e hs => ?_⟩
  · obtain ⟨ad, e, hlt, hc⟩ := h1.spot h0
    refine ⟨ad, e, Nat.lt_of_lt_of_le hlt hk.size, fun j v hv => ?_⟩
    have hb : (ad.add j).block = ad.block := add_block _ _
    exact (World.cell?_of_block (by rw [hb]; exact hk.block _ hlt (h2 h0 ad e))).trans (hc j v hv)
  · obtain ⟨ad', e', hlt, _⟩ := h1.spot h0
    cases e.symm.trans e'
    rcases hg _ hs with h' | h'
    · exact h2 h0 ad e h'
    · omega
theorem Frame.and {F G : World → (Nat → Prop) → Prop} (hF : Frame F) (hG : Frame G) : Frame (fun w S => F w S ∧ G w S) := ⟨fun h hk hg => ⟨hF.go h.1 hk hg, hG.go h.2 hk hg⟩⟩
section
variable {w w' : World} {S : Nat → Prop}
/-- With what is new. -/
def Plus (S : Nat → Prop) (w w' : World) (k : Nat) : Prop := S k ∨ (w.heap.size ≤ k ∧ k < w'.heap.size)
theorem plus_grew : Grew S (Plus S w w') w := fun _ h => h.imp id fun h => h.1
theorem plus_lt (h : ∀ k, S k → k < w.heap.size) (hs : w.heap.size ≤ w'.heap.size) : ∀ k, Plus S w w' k → k < w'.heap.size := fun k hk => hk.elim (fun h' => Nat.lt_of_lt_of_le (h k h') hs) fun h' => h'.2
end
end Go.Proofs.Ytpalmnjapiijaaa.Dsk
/- Rows of values of many cells, of no program: how an element lies in memory ('Lay'), what a slice of such elements reads as ('Rw'), a row that is the call's own and is written over ('Hdr'), what keeps them, an append. -/
namespace Go.Proofs.Ytpalmnjapiijaaa.Mem
open Go.RowKit Dsk

/-- How an element lies in memory: in so many cells. -/
structure Lay (α : Type) where
  enc : α → List Value
  s : Nat
  len : ∀ x, (enc x).length = s
  one : ∀ x, ∀ u ∈ enc x, u.oneCell' = true
  pos : 0 < s
variable {α : Type} {L : Lay α}
/-- The cells of a row. -/
def Lay.flat (L : Lay α) (l : List α) : List Value := l.flatMap L.enc
theorem length_flat (L : Lay α) (l : List α) : (L.flat l).length = l.length * L.s := by
  induction l with
  | nil => simp [Lay.flat]
  | cons a l ih => rw [Lay.flat, List.flatMap_cons, List.length_append, L.len]; rw [Lay.flat] at ih; rw [ih, List.length_cons, Nat.add_mul]; omega
theorem flat_append (L : Lay α) (a b : List α) : L.flat (a ++ b) = L.flat a ++ L.flat b := by simp [Lay.flat]
theorem flat_one (L : Lay α) (x : α) : L.flat [x] = L.enc x := by simp [Lay.flat]
theorem flat_cells (L : Lay α) (l : List α) : ∀ u ∈ L.flat l, u.oneCell' = true := by
  intro u hu
  obtain ⟨x, _, hx⟩ := List.mem_flatMap.1 hu
  exact L.one x u hx
theorem flat_at (L : Lay α) : ∀ (l : List α) (k : Nat) (x : α), l[k]? = some x → ∀ i u, (L.enc x)[i]? = some u → (L.flat l)[k * L.s + i]? = some u
  | [], k, x, h => by simp at h
  | y :: l, 0, x, h => fun i u hu => by
    simp at h
    subst h
    have hi : i < (L.enc y).length := (List.getElem?_eq_some_iff.1 hu).1
    rw [Lay.flat, List.flatMap_cons, Nat.zero_mul, Nat.zero_add, List.getElem?_append_left hi]
    exact hu
  | y :: l, k + 1, x, h => fun i u hu => by
    have := flat_at L l k x (by simpa using h) i u hu
    have hs := Nat.add_mul k 1 L.s
    rw [Lay.flat, List.flatMap_cons, List.getElem?_append_right (by rw [L.len]; omega), L.len, show (k + 1) * L.s + i - L.s = k * L.s + i by omega]
    exact this
theorem flat_of (L : Lay α) : ∀ (l : List α) (j : Nat) (u : Value), (L.flat l)[j]? = some u → ∃ k i x, j = k * L.s + i ∧ l[k]? = some x ∧ (L.enc x)[i]? = some u
  | [], j, u, h => by simp [Lay.flat] at h
  | y :: l, j, u, h => by
    rw [Lay.flat, List.flatMap_cons] at h
    by_cases hj : j < L.s
    · rw [List.getElem?_append_left (by rw [L.len]; exact hj)] at h
      exact ⟨0, j, y, by omega, rfl, h⟩
    · rw [List.getElem?_append_right (by rw [L.len]; omega), L.len] at h
      obtain ⟨k, i, x, e, hx, hu⟩ := flat_of L l _ u h
      have hs := Nat.add_mul k 1 L.s
      exact ⟨k + 1, i, x, by omega, by simpa using hx, hu⟩
theorem flat_take (L : Lay α) : ∀ (l : List α) (k : Nat), (L.flat l).take (k * L.s) = L.flat (l.take k)
  | [], k => by simp [Lay.flat]
  | y :: l, 0 => by simp [Lay.flat]
  | y :: l, k + 1 => by
    have ih := flat_take L l k
    rw [Lay.flat] at ih
    rw [Lay.flat, List.flatMap_cons, Nat.add_mul, Nat.one_mul, List.take_append, L.len, List.take_of_length_le (by rw [L.len]; omega), Nat.add_sub_cancel, ih]
    simp [Lay.flat]
/-- The slice value '.slice A n c' holds these elements. -/
structure Rw (L : Lay α) (w : World) (A : Option Addr) (n c : Nat) (l : List α) : Prop where
  len : l.length = n
  le : n ≤ c
  cap : c ≤ maxLen
  nil : A = none → c = 0
  spot : 0 < n → ∃ g o, A = some ⟨g, o, none⟩ ∧ g < w.heap.size ∧ ∀ j x, l[j]? = some x → w.rangeAt g (o + j * L.s) (L.enc x)
section
variable {w w' : World} {A : Option Addr} {n c : Nat} {l : List α}
theorem Rw.nil_ (w : World) : Rw L w none 0 0 [] := ⟨rfl, Nat.le_refl _, by simp [maxLen], fun _ => rfl, fun h => absurd h (by omega)⟩
theorem Rw.keep (h : Rw L w A n c l) (hs : w.heap.size ≤ w'.heap.size) (hk : ∀ p : Addr, p.block < w.heap.size → w'.cell? p = w.cell? p) : Rw L w' A n c l :=
  ⟨h.len, h.le, h.cap, h.nil, fun hn => by
    obtain ⟨g, o, e, hb, hc⟩ := h.spot hn
    exact ⟨g, o, e, by omega, fun j x hx i u hu => (hk ⟨g, o + j * L.s + i, none⟩ hb).trans (hc j x hx i u hu)⟩⟩
theorem Rw.below (h : Rw L w A n c l) (hb : Below w.heap.size w w') : Rw L w' A n c l := h.keep hb.size fun _ hp => hb.cell hp
theorem Rw.alloc (h : Rw L w A n c l) (o : Obj) : Rw L (w.alloc o) A n c l := h.keep (by simp) fun p hp => World.cell?_alloc_lt w o p hp
theorem Rw.drewN (h : Rw L w A n c l) (k : Nat) : Rw L (w.drewN k) A n c l := ⟨h.len, h.le, h.cap, h.nil, h.spot⟩
theorem Rw.drew (h : Rw L w A n c l) : Rw L w.drew A n c l := ⟨h.len, h.le, h.cap, h.nil, h.spot⟩
theorem Rw.at_ {k : Nat} (h : Rw L w A n c l) (hk : k < n) : ∃ g o x, A = some ⟨g, o, none⟩ ∧ g < w.heap.size ∧ l[k]? = some x ∧ w.rangeAt g (o + k * L.s) (L.enc x) := by
  obtain ⟨g, o, e, hb, hc⟩ := h.spot (by omega)
  have hl : k < l.length := by have := h.len; omega
  exact ⟨g, o, l[k], e, hb, List.getElem?_eq_getElem hl, hc k _ (List.getElem?_eq_getElem hl)⟩
theorem Rw.none0 (h : Rw L w A n c l) : A = none → n = 0 ∧ c = 0 := fun e => by have := h.nil e; have := h.le; omega
theorem Rw.raw (h : Rw L w A n c l) : ∀ ad, A = some ad → ∀ j u, (L.flat l)[j]? = some u → w.cell? (ad.add j) = some u := by
  intro ad e j u hu
  obtain ⟨k, i, x, rfl, hx, h2⟩ := flat_of L l j u hu
  have hk : k < n := by rw [← h.len]; exact (List.getElem?_eq_some_iff.1 hx).1
  obtain ⟨g, o, e', _, hc⟩ := h.spot (by omega)
  cases e.symm.trans e'
  rw [Addr.add_lit]
  have := hc _ x hx i u h2
  rwa [Nat.add_assoc] at this
/-- s[:k] -/
theorem Rw.take (h : Rw L w A n c l) {k : Nat} (hk : k ≤ n) : Rw L w A k c (l.take k) :=
  ⟨by rw [List.length_take, h.len]; omega, by have := h.le; omega, h.cap, h.nil, fun hk0 => by
    obtain ⟨g, o, e, hb, hc⟩ := h.spot (by omega)
    refine ⟨g, o, e, hb, fun j x hx => hc j x ?_⟩
    rw [List.getElem?_take] at hx
    split at hx
    · exact hx
    · cases hx⟩
/-- The address of s[k:]. -/
def cutS (s : Nat) (A : Option Addr) (c k : Nat) : Option Addr := if c = k then A else A.map (·.add (k * s))
theorem Rw.cut (h : Rw L w A n c l) {k : Nat} (hk : k ≤ n) : Rw L w (cutS L.s A c k) (n - k) (c - k) (l.drop k) := by
  have h1 := h.le
  have h2 := h.cap
  refine ⟨by rw [List.length_drop, h.len], by omega, by omega, fun e => ?_, fun hn => ?_⟩
  · unfold cutS at e
    split at e
    · have := h.nil e; omega
    · have := h.nil (by simpa using e); omega
  · obtain ⟨g, o, rfl, hb, hcell⟩ := h.spot (by omega)
    unfold cutS
    rw [if_neg (by omega)]
    refine ⟨g, o + k * L.s, by rw [Option.map_some, Addr.add_lit], hb, fun j x hx => ?_⟩
    have := hcell (k + j) x (by rw [← hx, List.getElem?_drop])
    rwa [Nat.add_mul, ← Nat.add_assoc] at this
/-- What the call owns, it can read. -/
theorem Rw.of_own {base : Nat} {e : TypeId} {v : Value} (h : w.ownsRow base e L.s v n (L.flat l)) : ∃ A c, v = .slice A n c ∧ Rw L w A n c l := by
  have hl := h.1
  rw [length_flat] at hl
  have hl' : l.length = n := Nat.eq_of_mul_eq_mul_right L.pos hl
  rcases h.2 with ⟨rfl, rfl⟩ | ⟨g, cap, cur, rfl, hb, hg, hnc, hm, hs, ht⟩
  · exact ⟨none, 0, rfl, hl', Nat.le_refl _, by simp [maxLen], fun _ => rfl, fun h => absurd h (by omega)⟩
  · refine ⟨some ⟨g, 0, none⟩, cap, rfl, hl', hnc, hm, (fun e => by cases e), fun _ => ⟨g, 0, rfl, (Array.getElem?_eq_some_iff.1 hg).1, fun j x hx i u hu => ?_⟩⟩
    have k1 := h.cells (g := g) rfl _ _ (flat_at L l j x hx i u hu)
    rw [Addr.add_lit] at k1
    rw [Nat.zero_add]
    rwa [Nat.zero_add] at k1
theorem Rw.own {base : Nat} {e : TypeId} {V : Option Addr} (h : w.ownsRow base e L.s (.slice V n c) n (L.flat l)) : Rw L w V n c l := by
  obtain ⟨A, c', e, hr⟩ := Rw.of_own h
  cases e
  exact hr
/-- A slice literal of one element, just made. -/
theorem Rw.lit (w : World) (x : α) (t : TypeId) : Rw L (w.alloc (.cells (L.enc x).toArray t)) (some ⟨w.heap.size, 0, none⟩) 1 1 [x] := by
  refine ⟨rfl, Nat.le_refl _, by simp [maxLen], (fun e => by cases e), fun _ => ⟨_, _, rfl, by simp, fun j y hy i u hu => ?_⟩⟩
  cases j with
  | zero =>
    simp only [List.getElem?_cons_zero, Option.some.injEq] at hy
    subst hy
    rw [cell_of_row _ _ _ _ _ _ (heap_alloc_new w _)]
    simp only [Nat.zero_mul, Nat.zero_add]
    simpa using hu
  | succ j => simp at hy
end
/-- 'append(v, x...)', v the call's own, x whatever slice: a slice that the call owns. -/
theorem wpList_append_rw {P : Program} {w : World} {ops : Array Oper} {rest : List Oper} {o : Oper} {a : Act} {Q : Exit → Act → World → Prop} (hgd : o.guard = none) (s x : Operand) (t : TypeId)
    (ho : o.op = .call { callee := .builtin .append, args := #[s, x], argTypes := #[t, t] })
    (base : Nat) (e : TypeId) (i : TypeInfo) (z : Value) (bytes : Nat) (ht : P.underlying t = some (.slice e)) (hi : P.info? e = some i) (hz : i.zero = some z)
    (hsize : i.size = L.s) (hby : i.bytes = bytes) (hzs : z.cells.size = L.s)
    (V : Option Addr) (n cv : Nat) (xs : List α) (hs : a.eval s = .slice V n cv) (hown : w.ownsRow base e L.s (.slice V n cv) n (L.flat xs))
    (A : Option Addr) (m c : Nat) (news : List α) (hx : a.eval x = .slice A m c) (hr : Rw L w A m c news)
    (h63 : n + m ≤ maxLen) (hbytes : (n + m) * bytes ≤ 140737488355328) (hbase : base ≤ w.heap.size)
    (h : ∀ V' c' w', w'.ownsRow base e L.s (.slice V' (n + m) c') (n + m) (L.flat (xs ++ news)) → w.grownBy w' (Value.slice V n cv).ownBlock → Below base w w' → wpList P ops Q rest (a.put o.dst (.slice V' (n + m) c')) w') : wpList P ops Q (o :: rest) a w := by
  rcases A with _ | ad
  · have hc : c = 0 := hr.nil rfl
    have hm : m = 0 := by have := hr.le; omega
    subst hc; subst hm
    have hn : news = [] := List.eq_nil_of_length_eq_zero hr.len
    subst hn
    refine wpList_append_own_none hgd s x t ho base e i L.s ht hi _ n (L.flat xs) hs hown hx ?_
    exact h V cv w (by simpa using hown) (World.grownBy.refl _ _) (Below.refl _ _)
  · refine wpList_append_own w hgd s x t ho base e i z L.s bytes ht hi hz hsize hby hzs L.pos _ n (L.flat xs) hs hown ad m c (L.flat news) hx (by rw [length_flat, hr.len]) (hr.raw _ rfl) (flat_cells L _) h63 hbytes hbase
      fun v' w' hown' hg _ => ?_
    rw [← flat_append] at hown'
    obtain ⟨V', c', rfl, _⟩ := Rw.of_own hown'
    exact h V' c' w' hown' hg ((Below.refl _ _).grown hg hbase fun k hk => (hown.lt k hk).1)
/-- .. as an equation, for a region that draws. -/
theorem run_append_rw {P : Program} {t ty e : TypeId} {i : TypeInfo} {z : Value} {bytes : Nat} (ht : P.underlying t = some (.slice e)) (hi : P.info? e = some i) (hz : i.zero = some z) (hsize : i.size = L.s) (hby : i.bytes = bytes) (hzs : z.cells.size = L.s)
    {w : World} {base n cv m c : Nat} {V A : Option Addr} {xs news : List α} (hown : w.ownsRow base e L.s (.slice V n cv) n (L.flat xs)) (hr : Rw L w A m c news) (h63 : n + m ≤ maxLen) (hbytes : (n + m) * bytes ≤ 140737488355328) (hbase : base ≤ w.heap.size) :
    ∃ V' c' w', (Builtin.append_ #[t, t] ty #[.slice V n cv, .slice A m c]).run P w = .ok (.slice V' (n + m) c') w' ∧ w'.ownsRow base e L.s (.slice V' (n + m) c') (n + m) (L.flat (xs ++ news)) ∧ w.grownBy w' (Value.slice V n cv).ownBlock ∧
      ((Value.slice V' (n + m) c').ownBlock = (Value.slice V n cv).ownBlock ∨ (Value.slice V' (n + m) c').ownBlock = some w.heap.size) := by
  rcases A with _ | ad
  · have hc : c = 0 := hr.nil rfl
    have hm : m = 0 := by have := hr.le; omega
    subst hc; subst hm
    have hn : news = [] := List.eq_nil_of_length_eq_zero hr.len
    subst hn
    exact ⟨V, cv, w, run_append_owned_none w base t ty e i L.s ht hi _ n (L.flat xs) hown, by simpa using hown, World.grownBy.refl _ _, .inl rfl⟩
  · obtain ⟨v', w', hrun, ho, hg, _, hloc⟩ := run_append_own_at (P := P) w base t ty e i z L.s bytes ht hi hz hsize hby hzs L.pos _ n (L.flat xs) hown ad m c (L.flat news) (by rw [length_flat, hr.len]) (hr.raw _ rfl) (flat_cells L _) h63 hbytes hbase
    rw [← flat_append] at ho
    obtain ⟨V', c', rfl, _⟩ := Rw.of_own ho
    exact ⟨V', c', w', hrun, ho, hg, hloc⟩
/-- .. of one-cell elements. -/
theorem run_append_one {P : Program} {t ty e : TypeId} {i : TypeInfo} {z : Value} {bytes : Nat} (ht : P.underlying t = some (.slice e)) (hi : P.info? e = some i) (hz : i.zero = some z) (hsize : i.size = 1) (hby : i.bytes = bytes) (hzs : z.cells.size = 1)
    {w : World} {base n cv m c : Nat} {V A : Option Addr} {xs news : List Value} (hown : w.ownsRow base e 1 (.slice V n cv) n xs) (hr : Rd w A m c news) (h1 : ∀ u ∈ news, u.oneCell' = true) (h63 : n + m ≤ maxLen) (hbytes : (n + m) * bytes ≤ 140737488355328) (hbase : base ≤ w.heap.size) :
    ∃ V' c' w', (Builtin.append_ #[t, t] ty #[.slice V n cv, .slice A m c]).run P w = .ok (.slice V' (n + m) c') w' ∧ w'.ownsRow base e 1 (.slice V' (n + m) c') (n + m) (xs ++ news) ∧ w.grownBy w' (Value.slice V n cv).ownBlock ∧
      ((Value.slice V' (n + m) c').ownBlock = (Value.slice V n cv).ownBlock ∨ (Value.slice V' (n + m) c').ownBlock = some w.heap.size) := by
  rcases A with _ | ad
  · have hc : c = 0 := hr.nil rfl
    have hm : m = 0 := by have := hr.le; omega
    subst hc; subst hm
    have hn : news = [] := List.eq_nil_of_length_eq_zero hr.len
    subst hn
    exact ⟨V, cv, w, run_append_owned_none w base t ty e i 1 ht hi _ n xs hown, by simpa using hown, World.grownBy.refl _ _, .inl rfl⟩
  · obtain ⟨v', w', hrun, ho, hg, _, hloc⟩ := run_append_own_at (P := P) w base t ty e i z 1 bytes ht hi hz hsize hby hzs (by omega) _ n xs hown ad m c news (by rw [hr.len, Nat.mul_one]) (hr.cells _ rfl) h1 h63 hbytes hbase
    obtain ⟨V', c', rfl, _⟩ := Rd.of_own ho
    exact ⟨V', c', w', hrun, ho, hg, hloc⟩
/-- .. its step there. -/
theorem step_append_row {P : Program} {w w' : World} {ops : Array Oper} {o : Oper} {a : Act} {K : Act → World → Prop} {Q : Exit → Act → World → Prop} {E : Prop} {t : TypeId} {v : Value} (hgd : o.guard = none) (s x : Operand)
    (ho : o.op = .call { callee := .builtin .append, args := #[s, x], argTypes := #[t, t] }) (hrun : (Builtin.append_ #[t, t] o.type #[a.eval s, a.eval x]).run P w = .ok v w')
    (h : K (a.put o.dst v) w') : if Region.wanted o (yielded ops a.tmps) = true then Oper.wp P o a w K Q else E := by
  have hw : Region.wanted o (yielded ops a.tmps) = true := by simp [Region.wanted, hgd]
  rw [if_pos hw]
  unfold Oper.wp
  simp [execOp, ho, resolve, invoke, builtin, hrun, Result.andThen]
  exact h
/-- .. its step in a region that is taken in the text's order. -/
theorem wpList_append_row {P : Program} {w w' : World} {ops : Array Oper} {rest : List Oper} {o : Oper} {a : Act} {Q : Exit → Act → World → Prop} {t : TypeId} {v : Value} (hgd : o.guard = none) (s x : Operand)
    (ho : o.op = .call { callee := .builtin .append, args := #[s, x], argTypes := #[t, t] }) (hrun : (Builtin.append_ #[t, t] o.type #[a.eval s, a.eval x]).run P w = .ok v w')
    (h : wpList P ops Q rest (a.put o.dst v) w') : wpList P ops Q (o :: rest) a w :=
  wpList_plain hgd fun _ hK => by
    unfold Oper.wp
    simp [execOp, ho, resolve, invoke, builtin, hrun, Result.andThen]
    exact hK _ _ h
/-- A value of many cells loaded out of the middle of a row, in a region that draws its order. -/
theorem run_load_row {P : Program} {oi : Oper} {a : Act} {S : World → Prop} (ty : TypeId) (x : Operand) (ho : oi.op = .load ty x) (g o : Nat) (cs : List Value) (d : TypeDesc) (hx : a.eval x = .pointer (some ⟨g, o, none⟩)) (hS : ∀ w, S w → w.rangeAt g o cs) (hu : P.underlying ty = some d) (hd : d.isRow = true) (hi : (P.info? ty).map (·.size) = some cs.length) :
    ∀ w, S w → (execOp a.eval oi).run P w = .ok (.value (.agg cs.toArray)) w := fun w hw => by
  unfold execOp
  simp only [ho, hx, Instr.loadAt, Instr.sureAddr, Sem.run_bind, Sem.run_pure, Result.andThen_ok, run_loadVar_mid w g o ty cs d (hS w hw) hu hd hi]
/-- Block g is a row of c elements of which the first are d. -/
def Hdr (L : Lay α) (w : World) (g : Nat) (t : TypeId) (c : Nat) (d : List α) : Prop :=
  ∃ vs, Blk w g t vs ∧ vs.size = c * L.s ∧ c ≤ maxLen ∧ d.length ≤ c ∧ ∀ j x, d[j]? = some x → ∀ i u, (L.enc x)[i]? = some u → vs[j * L.s + i]? = some u
theorem blk_cells {g : Nat} {t : TypeId} : ∀ (us : List Value) (o : Nat) (w : World) (vs : Array Value), Blk w g t vs → o + us.length ≤ vs.size →
    ∃ vs', Blk (w.setCells g o us) g t vs' ∧ vs'.size = vs.size ∧ (∀ i, (i < o ∨ o + us.length ≤ i) → vs'[i]? = vs[i]?) ∧ ∀ i u, us[i]? = some u → vs'[o + i]? = some u
  | [], o, w, vs, h, hs => ⟨vs, h, rfl, fun _ _ => rfl, fun i u hu => by simp at hu⟩
  | u :: us, o, w, vs, h, hs => by
    rw [List.length_cons] at hs
    obtain ⟨vs', h1, h2, h3, h4⟩ := blk_cells us (o + 1) _ _ (h.put o u) (by rw [Array.size_setIfInBounds]; omega)
    rw [Array.size_setIfInBounds] at h2
    refine ⟨vs', h1, h2, fun i hi => ?_, fun i x hx => ?_⟩
    · rw [List.length_cons] at hi
      rw [h3 i (by omega), Array.getElem?_setIfInBounds, if_neg (by omega)]
    · cases i with
      | zero =>
        rw [h3 (o + 0) (by omega), Array.getElem?_setIfInBounds, if_pos (by omega), if_pos (by omega)]
        simpa using hx
      | succ i =>
        have := h4 i x (by simpa using hx)
        rwa [show o + (i + 1) = o + 1 + i by omega]
theorem keeps_cells {g : Nat} : ∀ (us : List Value) (o : Nat) (w : World), Keeps (fun k => k = g) w (w.setCells g o us)
  | [], _, w => Keeps.refl _ w
  | u :: us, o, w => (show Keeps (fun k => k = g) w (w.setCell ⟨g, o, none⟩ u) from ⟨rfl, rfl, rfl, by simp, fun k _ hn => Below.heap_setCell w ⟨g, o, none⟩ u k hn⟩).trans (keeps_cells us (o + 1) _) (Grew.refl _ _)
section
variable {w w' : World} {g : Nat} {t : TypeId} {c : Nat} {d : List α}
theorem Hdr.keep (h : Hdr L w g t c d) (hk : w'.heap[g]? = w.heap[g]?) : Hdr L w' g t c d := by
  obtain ⟨vs, h1, h2⟩ := h
  exact ⟨vs, hk.trans h1, h2⟩
theorem Hdr.lt (h : Hdr L w g t c d) : g < w.heap.size := by
  obtain ⟨vs, h1, _⟩ := h
  exact h1.lt
theorem Hdr.bel (h : Hdr L w g t c d) (hb : Below w.heap.size w w') : Hdr L w' g t c d := h.keep (hb.block g h.lt)
theorem Hdr.at_ (h : Hdr L w g t c d) {j : Nat} {x : α} (hx : d[j]? = some x) : w.rangeAt g (j * L.s) (L.enc x) := fun i u hu => by
  obtain ⟨vs, h1, _, _, _, h5⟩ := h
  rw [h1.cell]
  exact h5 j x hx i u hu
theorem Hdr.there (h : Hdr L w g t c d) {o n : Nat} (hn : o + n ≤ c * L.s) : w.there g o n := fun j hj => by
  obtain ⟨vs, h1, h2, _⟩ := h
  refine ⟨?_, h1.soft _⟩
  rw [h1.cell, Array.getElem?_eq_getElem (by omega)]
  rfl
theorem Hdr.rw_ (h : Hdr L w g t c d) {n : Nat} (hn : d.length = n) : Rw L w (some ⟨g, 0, none⟩) n c d := by
  have hlt := h.lt
  have hat := fun j x (hx : d[j]? = some x) => h.at_ hx
  obtain ⟨vs, _, _, h3, h4, _⟩ := h
  exact ⟨hn, by omega, h3, (fun e => by cases e), fun _ => ⟨g, 0, rfl, hlt, fun j x hx => by rw [Nat.zero_add]; exact hat j x hx⟩⟩
theorem Hdr.own (h : Hdr L w g t c d) {n : Nat} (hn : d.length = n) (B : Nat) (hB : B ≤ g) : w.ownsRow B t L.s (.slice (some ⟨g, 0, none⟩) n c) n (L.flat d) := by
  obtain ⟨vs, h1, h2, h3, h4, h5⟩ := h
  refine ⟨by rw [length_flat, hn], .inr ⟨g, c, vs, rfl, hB, h1, by omega, h3, h2, ?_⟩⟩
  have hnc : n * L.s ≤ c * L.s := Nat.mul_le_mul_right _ (by omega)
  apply List.ext_getElem?
  intro j
  rw [List.getElem?_take]
  split
  · rename_i hj
    have hj2 : j < (L.flat d).length := by rw [length_flat, hn]; exact hj
    obtain ⟨k, i, x, rfl, hx, hu⟩ := flat_of L d j _ (List.getElem?_eq_getElem hj2)
    rw [List.getElem?_eq_getElem hj2]
    simpa using h5 k x hx i _ hu
  · rename_i hj
    rw [List.getElem?_eq_none (by rw [length_flat, hn]; omega)]
theorem Hdr.of_own {B n : Nat} {v : Value} (h : w.ownsRow B t L.s v n (L.flat d)) (hn : 0 < n) : ∃ g c, v = .slice (some ⟨g, 0, none⟩) n c ∧ B ≤ g ∧ d.length = n ∧ n ≤ c ∧ Hdr L w g t c d := by
  have hl := h.1
  rw [length_flat] at hl
  have hl' : d.length = n := Nat.eq_of_mul_eq_mul_right L.pos hl
  rcases h.2 with ⟨_, h0⟩ | ⟨g, cap, cur, rfl, hb, hg, hnc, hm, hs, ht⟩
  · omega
  · refine ⟨g, cap, rfl, hb, hl', hnc, cur, hg, hs, hm, by omega, fun j x hx i u hu => ?_⟩
    have k1 := h.cells (g := g) rfl _ _ (flat_at L d j x hx i u hu)
    rw [Addr.add_lit, cell_of_row w g _ cur t (0, 0) hg, Nat.zero_add] at k1
    exact k1
/-- s[k] = y -/
theorem Hdr.put (h : Hdr L w g t c d) {k : Nat} (hk : k < d.length) (y : α) : Hdr L (w.setCells g (k * L.s) (L.enc y)) g t c (d.set k y) := by
  obtain ⟨vs, h1, h2, h3, h4, h5⟩ := h
  have hkc : (k + 1) * L.s ≤ c * L.s := Nat.mul_le_mul_right _ (by omega)
  have hk1 := Nat.add_mul k 1 L.s
  obtain ⟨vs', g1, g2, g3, g4⟩ := blk_cells (L.enc y) (k * L.s) w vs h1 (by rw [L.len, h2]; omega)
  rw [L.len] at g3
  refine ⟨vs', g1, by rw [g2, h2], h3, by rw [List.length_set]; exact h4, fun j x hx i u hu => ?_⟩
  have hi : i < L.s := by rw [← L.len x]; exact (List.getElem?_eq_some_iff.1 hu).1
  rw [List.getElem?_set] at hx
  by_cases e : k = j
  · subst e
    rw [if_pos rfl, if_pos hk] at hx
    injection hx with hx
    subst hx
    exact g4 i u hu
  · rw [if_neg e] at hx
    have hjk : j * L.s + i < k * L.s ∨ k * L.s + L.s ≤ j * L.s + i := by
      rcases Nat.lt_or_gt_of_ne e with h' | h'
      · have h6 := Nat.mul_le_mul_right L.s (show k + 1 ≤ j by omega)
        omega
      · have h6 := Nat.mul_le_mul_right L.s (show j + 1 ≤ k by omega)
        have h7 := Nat.add_mul j 1 L.s
        omega
    rw [g3 _ hjk]
    exact h5 j x hx i u hu
/-- What lies ahead of cells that are written over. -/
theorem Hdr.low (h : Hdr L w g t c d) {k : Nat} (us : List Value) (hu : k * L.s + us.length ≤ c * L.s) : Hdr L (w.setCells g (k * L.s) us) g t c (d.take k) := by
  obtain ⟨vs, h1, h2, h3, h4, h5⟩ := h
  obtain ⟨vs', g1, g2, g3, g4⟩ := blk_cells us (k * L.s) w vs h1 (by rw [h2]; exact hu)
  refine ⟨vs', g1, by rw [g2, h2], h3, by rw [List.length_take]; omega, fun j x hx i u hu => ?_⟩
  have hi : i < L.s := by rw [← L.len x]; exact (List.getElem?_eq_some_iff.1 hu).1
  rw [List.getElem?_take] at hx
  split at hx
  · rename_i hj
    have h6 := Nat.mul_le_mul_right L.s (show j + 1 ≤ k by omega)
    have h7 := Nat.add_mul j 1 L.s
    rw [g3 _ (.inl (by omega))]
    exact h5 j x hx i u hu
  · cases hx
end
/-- 'clear(s)' of m elements. -/
theorem run_clear_row {P : Program} (w : World) (t e ty : TypeId) (g o m c : Nat) (z : Array Value) (zs : List Value) (ht : P.underlying t = some (.slice e)) (hz : ∀ w, (zeroValue e).run P w = .ok (.agg z) w) (hm : 0 < m)
    (hzc : (Builtin.zeroCells (Value.agg z).cells m).toList = zs) (hth : w.there g o zs.length) (h1 : ∀ u ∈ zs, u.oneCell' = true) :
    (Builtin.clear_ #[t] ty #[.slice (some ⟨g, o, none⟩) m c]).run P w = .ok (.tuple #[]) (w.setCells g o zs) := by
  have hst := run_storeCells_cells (P := P) g o zs 0 w (by simpa using fun j hj => (hth j hj).1) (by simpa using fun j hj => (hth j hj).2) h1
  simp only [Nat.add_zero] at hst
  obtain ⟨k, rfl⟩ : ∃ k, m = k + 1 := ⟨m - 1, by omega⟩
  simp [Builtin.clear_, run_underlying ht, hz, hzc, hst]
/-- Elements that can be read, outside a set's blocks. -/
def FRw (L : Lay α) (A : Option Addr) (n c : Nat) (l : List α) (w : World) (S : Nat → Prop) : Prop := Rw L w A n c l ∧ Outs S n A
theorem frame_rw (L : Lay α) (A : Option Addr) (n c : Nat) (l : List α) : Dsk.Frame (FRw L A n c l) := by
  refine ⟨fun {w w' S S'} h hk hg => ?_⟩
  obtain ⟨h1, h2⟩ := h
  refine ⟨⟨h1.len, h1.le, h1.cap, h1.nil, fun h0 => ?_⟩, fun h0 ad e hs => ?_⟩
  · obtain ⟨g, o, e, hlt, hc⟩ := h1.spot h0
    have hb := hk.block g hlt (h2 h0 _ e)
    exact ⟨g, o, e, Nat.lt_of_lt_of_le hlt hk.size, fun j x hx i u hu => (World.cell?_of_block hb).trans (hc j x hx i u hu)⟩
  · obtain ⟨g, o, e', hlt, _⟩ := h1.spot h0
    cases e.symm.trans e'
    rcases hg _ hs with h' | h'
    · exact h2 h0 _ e h'
    · have h'' : w.heap.size ≤ g := h'
      omega
end Go.Proofs.Ytpalmnjapiijaaa.Mem
/- A region that draws its order and only reads, beside calls that keep all that lay in the world when it began, of no program: one walk, in the text's order. -/
namespace Go.Proofs.Ytpalmnjapiijaaa
open Go.RowKit Mem

/-- A world in which all that lay in w lies as it did. -/
structure BelBy (w : World) where
  W : World
  h : Below w.heap.size w W
instance (w : World) : Inhabited (BelBy w) := ⟨⟨w, Below.refl _ _⟩⟩
theorem wp_region_bel {P : Program} {id : Nat} {Q : Exit → Act → World → Prop} {a : Act} {w : World} {l : List Oper} (hm : P.follows .mixedOrders = true) (hB : Region.lexB .any l.toArray = true)
    (h : wpQuiet P l.toArray (fun w' => ∃ p : BelBy w, w' = p.W) (fun a' => ∀ w', (∃ p : BelBy w, w' = p.W) → Q .normal a' w') l a) : (Code.region id l.toArray true).wp P Q a w :=
  wp_region_quiet (C := fun w' => ∃ p : BelBy w, w' = p.W) hm hB ⟨⟨w.drewN 1, below_drewN (Below.refl _ _) 1⟩, rfl⟩ (by simpa using h)
theorem Calls.bel_of {P : Program} {f : FuncId} {args : Array Value} {w : World} {p : BelBy w} {v : Value} (h : Calls P f args p.W fun e w' => e = .returned v ∧ Below p.W.heap.size p.W w') :
    Calls P f args p.W fun e w'' => e = .returned v ∧ ∃ p' : BelBy w, w'' = p'.W :=
  h.mono fun _ w' ⟨he, hb⟩ => ⟨he, ⟨w', bel_trans p.h hb⟩, rfl⟩
theorem Calls.bel_tells {P : Program} {f : FuncId} {args : Array Value} {w : World} {p : BelBy w} {b : Bool} (h : Calls P f args p.W (Tells b p.W)) :
    Calls P f args p.W fun e w'' => e = .returned (.bool b) ∧ ∃ p' : BelBy w, w'' = p'.W := Calls.bel_of h
theorem BelBy.cell {w : World} (p : BelBy w) {a : Addr} {v : Value} (hb : a.block < w.heap.size) (h : w.cell? a = some v) : p.W.cell? a = some v := (p.h.cell hb).trans h
/-- An operation of a region whose guard doesn't want it. -/
theorem wpQuiet_skip {P : Program} {ops : Array Oper} {C : World → Prop} {Q : Act → Prop} {a : Act} {o : Oper} {rest : List Oper} (hw : Region.wanted o (yielded ops a.tmps) = false) (h : wpQuiet P ops C Q rest (a.put o.dst undef)) : wpQuiet P ops C Q (o :: rest) a := by
  unfold wpQuiet
  rw [if_neg (by rw [hw]; simp)]
  exact h
end Go.Proofs.Ytpalmnjapiijaaa
/- A region that draws its order, under a condition on the world, of no program: an operation that is taken first, its temporary by its number; one that its guard doesn't want. -/
namespace Go.Proofs.Ytpalmnjapiijaaa

/-- Take number i first: what it leaves in temporary d. -/
theorem held_take {P : Program} {ops : Array Oper} {Q : Exit → Act → World → Prop} {md : Region.Mode} {S : World → Prop} {i d : Nat} {oi : Oper} {v : Value} {fuel : Nat} {listed : Array Bool} {a : Act} {w : World} (hi : ops[i]? = some oi) (hd : oi.dst = some d)
    (hs : Region.noSelect ops = true) (hf : Region.free md ops listed i = true) (hr : (Region.ready md ops listed).contains i = true)
    (hQ : ∀ c a w, Q (.panic c) (a.put oi.dst v) w → Q (.panic c) a w) (hw : Region.wanted oi (yielded ops a.tmps) = true) (hy : ∀ w, S w → (execOp a.eval oi).run P w = .ok (.value v) w) (hS : S w)
    (h : wpAnyH P md ops Q S fuel (listed.setIfInBounds i true) { a with tmps := a.tmps.setIfInBounds d v } w) : wpAnyH P md ops Q S (fuel + 1) listed a w :=
  wpAnyH_take hi hs hf hr hQ (Or.inl ⟨hw, hy⟩) hS (by rw [hd]; exact h)
/-- .. whose guard doesn't want it. -/
theorem held_skip {P : Program} {ops : Array Oper} {Q : Exit → Act → World → Prop} {md : Region.Mode} {S : World → Prop} {i d : Nat} {oi : Oper} {fuel : Nat} {listed : Array Bool} {a : Act} {w : World} (hi : ops[i]? = some oi) (hd : oi.dst = some d)
    (hs : Region.noSelect ops = true) (hf : Region.free md ops listed i = true) (hr : (Region.ready md ops listed).contains i = true)
    (hQ : ∀ c a w, Q (.panic c) (a.put oi.dst undef) w → Q (.panic c) a w) (hw : Region.wanted oi (yielded ops a.tmps) = false) (hS : S w)
    (h : wpAnyH P md ops Q S fuel (listed.setIfInBounds i true) { a with tmps := a.tmps.setIfInBounds d undef } w) : wpAnyH P md ops Q S (fuel + 1) listed a w :=
  wpAnyH_take hi hs hf hr hQ (Or.inr ⟨hw, rfl⟩) hS (by rw [hd]; exact h)
/-- The same, said shorter: what the kernel reckons in one test. -/
theorem hs_take {P : Program} {ops : Array Oper} {Q : Exit → Act → World → Prop} {md : Region.Mode} {S : World → Prop} (i d : Nat) {oi : Oper} (v : Value) {fuel : Nat} {listed : Array Bool} {a : Act} {w : World} (hi : ops[i]? = some oi) (hd : oi.dst = some d)
    (hk : (Region.noSelect ops && (Region.free md ops listed i && ((Region.ready md ops listed).contains i && Region.wanted oi (yielded ops a.tmps)))) = true)
    (hQ : ∀ c a w, Q (.panic c) (a.put oi.dst v) w → Q (.panic c) a w) (hy : ∀ w, S w → (execOp a.eval oi).run P w = .ok (.value v) w) (hS : S w)
    (h : wpAnyH P md ops Q S fuel (listed.setIfInBounds i true) { a with tmps := a.tmps.setIfInBounds d v } w) : wpAnyH P md ops Q S (fuel + 1) listed a w := by
  rw [Bool.and_eq_true, Bool.and_eq_true, Bool.and_eq_true] at hk
  exact held_take hi hd hk.1 hk.2.1 hk.2.2.1 hQ hk.2.2.2 hy hS h
theorem n0 {α : Type} (l : List α) (i : Nat) (a : α) : l.toArray.setIfInBounds i a = (l.set i a).toArray := List.setIfInBounds_toArray ..
theorem n1 {α : Type} (x a : α) (l : List α) : (x :: l).set 0 a = a :: l := rfl
theorem n2 {α : Type} (x a : α) (l : List α) (i : Nat) : (x :: l).set (i + 1) a = x :: l.set i a := rfl
end Go.Proofs.Ytpalmnjapiijaaa
/- A value of many cells stored over a block that is known whole, in one step: the world behind it is a new one, of which the block and all others are known; of no program. -/
namespace Go.Proofs.Ytpalmnjapiijaaa.Mem
open Go.RowKit

theorem blk_setRow {w : World} {g : Nat} {t : TypeId} {old : Array Value} (h : Blk w g t old) (cells : Array Value) : Blk (w.setRow g cells) g t cells ∧ w.grownBy (w.setRow g cells) (some g) := by
  unfold Blk at *
  refine ⟨by simp [World.setRow, Array.getElem?_modify, h], rfl, rfl, rfl, by simp [World.setRow], fun k hk hne => ?_⟩
  simp only [World.setRow, Array.getElem?_modify]
  rw [if_neg (fun e => hne (by rw [e]))]
theorem wp_store_blk {P : Program} {o : Oper} {a : Act} {w : World} {K : Act → World → Prop} {Q : Exit → Act → World → Prop} (ty : TypeId) (x y : Operand) (ho : o.op = .store ty x y)
    (g : Nat) (t : TypeId) (old cells : Array Value) (hx : a.eval x = .pointer (some ⟨g, 0, none⟩)) (hy : a.eval y = .agg cells) (hb : Blk w g t old) (hi : (P.info? ty).map (·.size) = some cells.size)
    (hold : old.size = cells.size) (h1 : cells.all (·.oneCell') = true)
    (h : ∀ w', Blk w' g t cells → w.grownBy w' (some g) → K (a.put o.dst undef) w') : o.wp P a w K Q :=
  wp_store_row ty x y ho g cells hx hy t old hb hi hold h1 (h _ (blk_setRow hb cells).1 (blk_setRow hb cells).2)
theorem wpList_store_blk {P : Program} {ops : Array Oper} {rest : List Oper} {o : Oper} {a : Act} {w : World} {Q : Exit → Act → World → Prop} (hgd : o.guard = none) (ty : TypeId) (x y : Operand) (ho : o.op = .store ty x y)
    (g : Nat) (t : TypeId) (old cells : Array Value) (hx : a.eval x = .pointer (some ⟨g, 0, none⟩)) (hy : a.eval y = .agg cells) (hb : Blk w g t old) (hi : (P.info? ty).map (·.size) = some cells.size)
    (hold : old.size = cells.size) (h1 : cells.all (·.oneCell') = true)
    (h : ∀ w', Blk w' g t cells → w.grownBy w' (some g) → wpList P ops Q rest (a.put o.dst undef) w') : wpList P ops Q (o :: rest) a w :=
  wpList_plain hgd fun _ hK => wp_store_blk ty x y ho g t old cells hx hy hb hi hold h1 fun w' h2 h3 => hK _ _ (h w' h2 h3)
theorem step_store_blk {P : Program} {ops : Array Oper} {o : Oper} {a : Act} {w : World} {K : Act → World → Prop} {Q : Exit → Act → World → Prop} {E : Prop} (hgd : o.guard = none) (ty : TypeId) (x y : Operand) (ho : o.op = .store ty x y)
    (g : Nat) (t : TypeId) (old cells : Array Value) (hx : a.eval x = .pointer (some ⟨g, 0, none⟩)) (hy : a.eval y = .agg cells) (hb : Blk w g t old) (hi : (P.info? ty).map (·.size) = some cells.size)
    (hold : old.size = cells.size) (h1 : cells.all (·.oneCell') = true)
    (h : ∀ w', Blk w' g t cells → w.grownBy w' (some g) → K (a.put o.dst undef) w') : if Region.wanted o (yielded ops a.tmps) = true then Oper.wp P o a w K Q else E := by
  have hw : Region.wanted o (yielded ops a.tmps) = true := by simp [Region.wanted, hgd]
  rw [if_pos hw]
  exact wp_store_blk ty x y ho g t old cells hx hy hb hi hold h1 h
/-- A value of many cells loaded from a block that is known whole, in one step. -/
theorem wpList_load_blk {P : Program} {ops : Array Oper} {rest : List Oper} {o : Oper} {a : Act} {w : World} {Q : Exit → Act → World → Prop} (hgd : o.guard = none) (ty : TypeId) (x : Operand) (ho : o.op = .load ty x)
    (g : Nat) (t : TypeId) (vs : Array Value) (d : TypeDesc) (hx : a.eval x = .pointer (some ⟨g, 0, none⟩)) (hb : Blk w g t vs) (hu : P.underlying ty = some d) (hd : (match d with | .struct _ | .array _ _ => true | _ => false) = true) (hi : (P.info? ty).map (·.size) = some vs.size)
    (h : wpList P ops Q rest (a.put o.dst (.agg vs)) w) : wpList P ops Q (o :: rest) a w :=
  wpList_plain hgd fun _ hK => by
    unfold Oper.wp execOp
    simp only [ho, hx, Instr.loadAt, Instr.sureAddr, Sem.run_bind, Sem.run_pure, Result.andThen_ok, run_loadVar_row w g t ty vs (0, 0) d hb hu hd hi]
    exact hK _ _ h
/-- .. where a guard wants it. -/
theorem wpList_load_blk_w {P : Program} {ops : Array Oper} {rest : List Oper} {o : Oper} {a : Act} {w : World} {Q : Exit → Act → World → Prop} (ty : TypeId) (x : Operand) (ho : o.op = .load ty x)
    (g : Nat) (t : TypeId) (vs : Array Value) (d : TypeDesc) (hx : a.eval x = .pointer (some ⟨g, 0, none⟩)) (hw : Region.wanted o (yielded ops a.tmps) = true) (hb : Blk w g t vs) (hu : P.underlying ty = some d) (hd : (match d with | .struct _ | .array _ _ => true | _ => false) = true) (hi : (P.info? ty).map (·.size) = some vs.size)
    (h : wpList P ops Q rest (a.put o.dst (.agg vs)) w) : wpList P ops Q (o :: rest) a w :=
  wpList_step fun _ hK => by
    rw [if_pos hw]
    unfold Oper.wp execOp
    simp only [ho, hx, Instr.loadAt, Instr.sureAddr, Sem.run_bind, Sem.run_pure, Result.andThen_ok, run_loadVar_row w g t ty vs (0, 0) d hb hu hd hi]
    exact hK _ _ h
theorem run_load_blk {P : Program} {oi : Oper} {a : Act} {S : World → Prop} (ty : TypeId) (x : Operand) (ho : oi.op = .load ty x)
    (g : Nat) (t : TypeId) (vs : Array Value) (d : TypeDesc) (hx : a.eval x = .pointer (some ⟨g, 0, none⟩)) (hS : ∀ w, S w → Blk w g t vs) (hu : P.underlying ty = some d) (hd : (match d with | .struct _ | .array _ _ => true | _ => false) = true) (hi : (P.info? ty).map (·.size) = some vs.size) :
    ∀ w, S w → (execOp a.eval oi).run P w = .ok (.value (.agg vs)) w := fun w hw => by
  unfold execOp
  simp only [ho, hx, Instr.loadAt, Instr.sureAddr, Sem.run_bind, Sem.run_pure, Result.andThen_ok, run_loadVar_row w g t ty vs (0, 0) d (hS w hw) hu hd hi]
/-- .. as the walk's own steps meet it. -/
theorem run_cells_blk {P : Program} {w : World} {g : Nat} {t : TypeId} {vs : Array Value} (h : Blk w g t vs) (n : Nat) (hn : vs.size = n) : (loadCellsFrom ⟨g, 0, none⟩ 0 n #[]).run P w = .ok vs w := by
  subst hn
  have := run_loadCells_list (P := P) w ⟨g, 0, none⟩ vs.toList (fun j v hv => by
    have hadd : (⟨g, 0, none⟩ : Addr).add j = ⟨g, j, none⟩ := by unfold Addr.add; split <;> simp_all
    rw [hadd, h.cell j]
    simpa using hv)
  simpa [loadCells] using this
/-- What a function answers out of such a block. -/
theorem results_blk {P : Program} {fn : Func} {t : Tmp} {ty : TypeId} (h : fn.results = #[.cell t ty]) (tmps : Array Value) (w : World) (g : Nat) (t' : TypeId) (vs : Array Value) (d : TypeDesc) (hp : tmps.getD t undef = .pointer (some ⟨g, 0, none⟩)) (hb : Blk w g t' vs)
    (hu : P.underlying ty = some d) (hd : (match d with | .struct _ | .array _ _ => true | _ => false) = true) (hi : (P.info? ty).map (·.size) = some vs.size) : (results fn tmps).run P w = .ok (.agg vs) w := by
  have hl := run_loadVar_row w g t' ty vs (0, 0) d hb hu hd hi
  have hp' : tmps[t]?.getD undef = .pointer (some ⟨g, 0, none⟩) := by simpa [Array.getD_eq_getD_getElem?] using hp
  simp [results, h, hp', hl, asAddr]
theorem results_blk_tmp {P : Program} {fn : Func} {t u : Tmp} {ty : TypeId} (h : fn.results = #[.cell t ty, .tmp u]) (tmps : Array Value) (w : World) (g : Nat) (t' : TypeId) (vs : Array Value) (d : TypeDesc) (v : Value) (hp : tmps.getD t undef = .pointer (some ⟨g, 0, none⟩)) (hv : tmps.getD u undef = v) (hb : Blk w g t' vs)
    (hu : P.underlying ty = some d) (hd : (match d with | .struct _ | .array _ _ => true | _ => false) = true) (hi : (P.info? ty).map (·.size) = some vs.size) : (results fn tmps).run P w = .ok (.tuple #[.agg vs, v]) w := by
  have hl := run_loadVar_row w g t' ty vs (0, 0) d hb hu hd hi
  have hp' : tmps[t]?.getD undef = .pointer (some ⟨g, 0, none⟩) := by simpa [Array.getD_eq_getD_getElem?] using hp
  have hv' : tmps[u]?.getD undef = v := by simpa [Array.getD_eq_getD_getElem?] using hv
  simp [results, h, hp', hv', hl, asAddr]
end Go.Proofs.Ytpalmnjapiijaaa.Mem
