/-
  Texts of earlier layers, as one.
-/
import Derived.WalkKit
import Derived.Lib.Hide
import Derived.Laws.AppendOwnNone
import Derived.OpenShut
import Derived.Deep.QuietTactic
import Derived.BigQuiet
import Derived.Lib.ConvBytes
import Derived.Lib.AppendStr
import Derived.Laws.BytesArg
import Derived.Lib.Strings
import Derived.Deep.Quiet
import Derived.Deep.RegionHeld
import Derived.Laws.Tables
import Derived.Laws.AppendOwn
import Derived.Deep.AppendLies
/- Words for memory, of no program: a slice value that reads as a list of one-cell values ('Rd'), what keeps that, and an append onto a row of the call's own of whatever source ('wpList_append_rd'). -/
namespace Go.Proofs.YthkbmmebfkaphaaDoor.Mem
open Go.RowKit

theorem add_block (a : Addr) (n : Nat) : (a.add n).block = a.block := by unfold Addr.add; split <;> rfl
theorem add_add (a : Addr) (i j : Nat) : (a.add i).add j = a.add (i + j) := by
  unfold Addr.add
  by_cases hi : i = 0 <;> by_cases hj : j = 0 <;> simp [hi, hj, Nat.add_assoc]

/-- The cells of a list of bytes, of a list of uint64. -/
def cs (bs : List Nat) : List Value := bs.map fun (b : Nat) => Value.int .u8 (b : Int)
def us (vs : List Nat) : List Value := vs.map fun (b : Nat) => Value.int .u64 (b : Int)

theorem length_cs (bs : List Nat) : (cs bs).length = bs.length := by simp [cs]
theorem length_us (bs : List Nat) : (us bs).length = bs.length := by simp [us]
theorem cs_append (a b : List Nat) : cs (a ++ b) = cs a ++ cs b := by simp [cs]
theorem cs_take (a : List Nat) (k : Nat) : (cs a).take k = cs (a.take k) := by simp [cs, List.map_take]
theorem cs_drop (a : List Nat) (k : Nat) : (cs a).drop k = cs (a.drop k) := by simp [cs, List.map_drop]
theorem cs_one (bs : List Nat) : ∀ u ∈ cs bs, u.oneCell' = true := by
  intro u hu
  obtain ⟨_, _, rfl⟩ := List.mem_map.1 hu
  rfl
theorem cs_at (bs : List Nat) (k : Nat) (h : k < bs.length) : (cs bs)[k]? = some (.int .u8 ((bs[k] : Nat) : Int)) := by
  simp [cs, List.getElem?_eq_getElem h]
theorem us_at (bs : List Nat) (k : Nat) (h : k < bs.length) : (us bs)[k]? = some (.int .u64 ((bs[k] : Nat) : Int)) := by
  simp [us, List.getElem?_eq_getElem h]

/-- The slice value '.slice A n c' holds the one-cell values xs. -/
structure Rd (w : World) (A : Option Addr) (n c : Nat) (xs : List Value) : Prop where
  len : xs.length = n
  le : n ≤ c
  cap : c ≤ maxLen
  nil : A = none → c = 0
  spot : 0 < n → ∃ ad, A = some ad ∧ ad.block < w.heap.size ∧ ∀ j u, xs[j]? = some u → w.cell? (ad.add j) = some u

section
variable {w w' : World} {A : Option Addr} {n c : Nat} {xs : List Value}
theorem Rd.nil_ (w : World) : Rd w none 0 0 [] := ⟨rfl, Nat.le_refl _, by simp [maxLen], fun _ => rfl, fun h => absurd h (by omega)⟩
theorem Rd.at_ {k : Nat} (h : Rd w A n c xs) (hk : k < n) : ∃ ad u, A = some ad ∧ ad.block < w.heap.size ∧ xs[k]? = some u ∧ w.cell? (ad.add k) = some u := by
  obtain ⟨ad, e, hb, hc⟩ := h.spot (by omega)
  have hl : k < xs.length := by have := h.len; omega
  exact ⟨ad, xs[k], e, hb, List.getElem?_eq_getElem hl, hc k _ (List.getElem?_eq_getElem hl)⟩
theorem Rd.keep (h : Rd w A n c xs) (hs : w.heap.size ≤ w'.heap.size) (hk : ∀ p : Addr, p.block < w.heap.size → w'.cell? p = w.cell? p) : Rd w' A n c xs :=
  ⟨h.len, h.le, h.cap, h.nil, fun hn => by
    obtain ⟨ad, e, hb, hc⟩ := h.spot hn
    exact ⟨ad, e, by omega, fun j u hu => (hk _ (by rw [add_block]; exact hb)).trans (hc j u hu)⟩⟩
theorem Rd.below (h : Rd w A n c xs) (hb : Below w.heap.size w w') : Rd w' A n c xs := h.keep hb.size fun _ hp => hb.cell hp
theorem Rd.alloc (h : Rd w A n c xs) (o : Obj) : Rd (w.alloc o) A n c xs := h.keep (by simp) fun p hp => World.cell?_alloc_lt w o p hp
theorem Rd.drewN (h : Rd w A n c xs) (k : Nat) : Rd (w.drewN k) A n c xs := ⟨h.len, h.le, h.cap, h.nil, h.spot⟩
theorem Rd.drew (h : Rd w A n c xs) : Rd w.drew A n c xs := ⟨h.len, h.le, h.cap, h.nil, h.spot⟩
/-- s[:k] -/
theorem Rd.take (h : Rd w A n c xs) {k : Nat} (hk : k ≤ n) : Rd w A k c (xs.take k) :=
  ⟨by rw [List.length_take, h.len]; omega, by have := h.le; omega, h.cap, h.nil, fun hk0 => by
    obtain ⟨ad, e, hb, hc⟩ := h.spot (by omega)
    refine ⟨ad, e, hb, fun j u hu => hc j u ?_⟩
    rw [List.getElem?_take] at hu
    split at hu
    · exact hu
    · cases hu⟩
/-- s[k:] -/
theorem Rd.drop (h : Rd w A n c xs) {k : Nat} (hk : k ≤ n) : Rd w (if c = k then A else A.map (·.add (k * 1))) (n - k) (c - k) (xs.drop k) := by
  have h1 := h.le
  have h2 := h.cap
  refine ⟨by rw [List.length_drop, h.len], by omega, by omega, fun e => ?_, fun hn => ?_⟩
  · split at e
    · have := h.nil e; omega
    · have := h.nil (by simpa using e); omega
  · obtain ⟨ad, rfl, hb, hcell⟩ := h.spot (by omega)
    rw [if_neg (by omega)]
    refine ⟨ad.add (k * 1), rfl, by rw [add_block]; exact hb, fun j u hu => ?_⟩
    rw [add_add]
    exact hcell _ u (by rw [← hu, List.getElem?_drop, Nat.mul_one])
/-- The address of s[k:]. -/
def cutA (A : Option Addr) (c k : Nat) : Option Addr := if c = k then A else A.map (·.add (k * 1))
theorem Rd.cut (h : Rd w A n c xs) {k : Nat} (hk : k ≤ n) : Rd w (cutA A c k) (n - k) (c - k) (xs.drop k) := h.drop hk
/-- What the call owns, it can read. -/
theorem Rd.of_own {base : Nat} {e : TypeId} {v : Value} (h : w.ownsRow base e 1 v n xs) : ∃ A c, v = .slice A n c ∧ Rd w A n c xs := by
  have hl := h.1
  rcases h.2 with ⟨rfl, rfl⟩ | ⟨g, cap, cur, rfl, hb, hg, hnc, hm, hs, ht⟩
  · exact ⟨none, 0, rfl, by simpa using hl, Nat.le_refl _, by simp [maxLen], fun _ => rfl, fun h => absurd h (by omega)⟩
  · exact ⟨some ⟨g, 0, none⟩, cap, rfl, by simpa using hl, hnc, hm, (fun e => by cases e), fun _ => ⟨_, rfl, (Array.getElem?_eq_some_iff.1 hg).1, h.cells (g := g) rfl⟩⟩
end

theorem Rd.none0 {w : World} {A : Option Addr} {n c : Nat} {xs : List Value} (h : Rd w A n c xs) : A = none → n = 0 ∧ c = 0 := fun e => by
  have := h.nil e; have := h.le; omega
theorem Rd.cells {w : World} {A : Option Addr} {n c : Nat} {xs : List Value} (h : Rd w A n c xs) : ∀ ad, A = some ad → ∀ j u, xs[j]? = some u → w.cell? (ad.add j) = some u := by
  intro ad e j u hu
  have hj : j < n := by rw [← h.len]; exact (List.getElem?_eq_some_iff.1 hu).1
  obtain ⟨ad', e', _, hc⟩ := h.spot (by omega)
  cases e.symm.trans e'
  exact hc j u hu
theorem Rd.byte {w : World} {A : Option Addr} {n c k : Nat} {bs : List Nat} (h : Rd w A n c (cs bs)) (hk : k < n) : ∃ ad b, A = some ad ∧ bs[k]? = some b ∧ w.cell? (ad.add k) = some (.int .u8 (b : Int)) := by
  obtain ⟨ad, u, e, _, hx, hc⟩ := h.at_ hk
  have hl := h.len
  rw [length_cs] at hl
  rw [cs_at bs k (by omega)] at hx
  cases hx
  exact ⟨ad, _, e, List.getElem?_eq_getElem (by omega), hc⟩
theorem ownsRow_below {w w' : World} {base : Nat} {e : TypeId} {size : Nat} {v : Value} {n : Nat} {xs : List Value} (h : w.ownsRow base e size v n xs) (hb : Below w.heap.size w w') : w'.ownsRow base e size v n xs := by
  refine ⟨h.1, ?_⟩
  rcases h.2 with h | ⟨g, cap, cur, hv, hg, hh, r⟩
  · exact .inl h
  · exact .inr ⟨g, cap, cur, hv, hg, (hb.block g (Array.getElem?_eq_some_iff.1 hh).1).trans hh, r⟩
theorem below_drewN {B : Nat} {a w : World} (h : Below B a w) (n : Nat) : Below B a (w.drewN n) := ⟨h.os, h.tape, h.output, h.size, h.block⟩
theorem bel_trans {w w1 w2 : World} (h : Below w.heap.size w w1) (k : Below w1.heap.size w1 w2) : Below w.heap.size w w2 := h.trans (k.mono h.size)
theorem bel_alloc {w w1 : World} (h : Below w.heap.size w w1) (o : Obj) : Below w.heap.size w (w1.alloc o) := h.alloc h.size o
theorem bel_grown {w w1 w2 : World} {row : Option Nat} (h : Below w.heap.size w w1) (hg : w1.grownBy w2 row) (hr : ∀ k, row = some k → w.heap.size ≤ k) : Below w.heap.size w w2 := h.grown hg h.size hr

/-- The ending: a slice of n bytes that can be read; what was there stays. -/
def Gives (w : World) (n : Nat) (bs : List Nat) (e : Ending) (w' : World) : Prop :=
  ∃ A c, e = .returned (.slice A n c) ∧ Rd w' A n c (cs bs) ∧ Below w.heap.size w w'

/-- The ending: a bool; what was there stays. -/
def Tells (b : Bool) (w : World) (e : Ending) (w' : World) : Prop := e = .returned (.bool b) ∧ Below w.heap.size w w'

theorem Rd.own {w : World} {base : Nat} {e : TypeId} {V : Option Addr} {n c : Nat} {xs : List Value} (h : w.ownsRow base e 1 (.slice V n c) n xs) : Rd w V n c xs := by
  obtain ⟨A, c', e, hr⟩ := Rd.of_own h
  cases e
  exact hr
/-- A slice literal of n cells, just made. -/
theorem Rd.lit (w : World) (vs : List Value) (t : TypeId) (n : Nat) (hn : vs.length = n) (hm : n ≤ maxLen) : Rd (w.alloc (.cells vs.toArray t)) (some ⟨w.heap.size, 0, none⟩) n n vs :=
  ⟨hn, Nat.le_refl _, hm, (fun e => by cases e), fun _ => ⟨_, rfl, by simp, fun j u hu => by
    rw [Addr.add_lit, Nat.zero_add, cell_of_row _ _ _ _ _ _ (heap_alloc_new w _)]
    simpa using hu⟩⟩
/-- .. with a frozen range (a constant text turned into bytes). -/
theorem Rd.litF (w : World) (vs : List Value) (t : TypeId) (fr : Nat × Nat) (n : Nat) (hn : vs.length = n) (hm : n ≤ maxLen) : Rd (w.alloc (.cells vs.toArray t fr)) (some ⟨w.heap.size, 0, none⟩) n n vs :=
  ⟨hn, Nat.le_refl _, hm, (fun e => by cases e), fun _ => ⟨_, rfl, by simp, fun j u hu => by
    rw [Addr.add_lit, Nat.zero_add, cell_of_row _ _ _ _ _ _ (heap_alloc_new w _)]
    simpa using hu⟩⟩
theorem Rd.one (w : World) (v : Value) (t : TypeId) : Rd (w.alloc (.cells #[v] t)) (some ⟨w.heap.size, 0, none⟩) 1 1 [v] := Rd.lit w [v] t 1 rfl (by simp [maxLen])

/-- 'append(v, x...)' within the capacity, x whatever slice. -/
theorem wpList_append_fits_rd {P : Program} {w : World} {ops : Array Oper} {rest : List Oper} {o : Oper} {a : Act} {Q : Exit → Act → World → Prop}
    (hg : o.guard = none) (s x : Operand) (t : TypeId) (hop : o.op = Op.call { callee := Callee.builtin Builtin.append, args := #[s, x], argTypes := #[t, t] })
    (base : Nat) (e : TypeId) (i : TypeInfo) (h1 : P.underlying t = some (.slice e)) (h2 : P.info? e = some i) (h4 : i.size = 1)
    (g k cap : Nat) (xs : List Value) (hs : a.eval s = .slice (some ⟨g, 0, none⟩) k cap) (hown : w.ownsRow base e 1 (.slice (some ⟨g, 0, none⟩) k cap) k xs)
    (A : Option Addr) (m c : Nat) (news : List Value) (hx : a.eval x = .slice A m c) (hr : Rd w A m c news) (h1c : ∀ u ∈ news, u.oneCell' = true) (b1 : k + m ≤ cap)
    (hK : ∀ w', w'.ownsRow base e 1 (.slice (some ⟨g, 0, none⟩) (k + m) cap) (k + m) (xs ++ news) → w.grownBy w' (some g) → wpList P ops Q rest (a.put o.dst (.slice (some ⟨g, 0, none⟩) (k + m) cap)) w') :
    wpList P ops Q (o :: rest) a w :=
  wpList_append_fits_any w hg s x t hop base e i 1 h1 h2 h4 g k cap xs hs hown A m c news hx (by rw [hr.len, Nat.mul_one]) hr.none0 hr.cells h1c b1 hK

/-- 'append(v, x...)' where v is the call's own (its blocks lie from 'base' on) and x whatever slice: the walk goes on with a slice that the call owns; what lies below 'base' stays. -/
theorem wpList_append_rd {P : Program} {w : World} {ops : Array Oper} {rest : List Oper} {o : Oper} {a : Act} {Q : Exit → Act → World → Prop} (hgd : o.guard = none) (s x : Operand) (t : TypeId)
    (ho : o.op = .call { callee := .builtin .append, args := #[s, x], argTypes := #[t, t] })
    (base : Nat) (e : TypeId) (i : TypeInfo) (z : Value) (bytes : Nat) (ht : P.underlying t = some (.slice e)) (hi : P.info? e = some i) (hz : i.zero = some z)
    (hsize : i.size = 1) (hby : i.bytes = bytes) (hzs : z.cells.size = 1)
    (V : Option Addr) (n cv : Nat) (xs : List Value) (hs : a.eval s = .slice V n cv) (hown : w.ownsRow base e 1 (.slice V n cv) n xs)
    (A : Option Addr) (m c : Nat) (news : List Value) (hx : a.eval x = .slice A m c) (hr : Rd w A m c news) (h1 : ∀ u ∈ news, u.oneCell' = true)
    (h63 : n + m ≤ maxLen) (hbytes : (n + m) * bytes ≤ 140737488355328) (hbase : base ≤ w.heap.size)
    (h : ∀ V' c' w', w'.ownsRow base e 1 (.slice V' (n + m) c') (n + m) (xs ++ news) → Below base w w' → wpList P ops Q rest (a.put o.dst (.slice V' (n + m) c')) w') : wpList P ops Q (o :: rest) a w := by
  rcases A with _ | ad
  · have hc : c = 0 := hr.nil rfl
    have hm : m = 0 := by have := hr.le; omega
    subst hc; subst hm
    have hn : news = [] := List.eq_nil_of_length_eq_zero hr.len
    subst hn
    refine wpList_append_own_none hgd s x t ho base e i 1 ht hi _ n xs hs hown hx ?_
    exact h V cv w (by simpa using hown) (Below.refl _ _)
  · refine wpList_append_own w hgd s x t ho base e i z 1 bytes ht hi hz hsize hby hzs (by omega) _ n xs hs hown ad m c news hx (by rw [hr.len, Nat.mul_one]) (hr.cells _ rfl) h1 h63 hbytes hbase
      fun v' w' hown' hg _ => ?_
    obtain ⟨V', c', rfl, _⟩ := Rd.of_own hown'
    exact h V' c' w' hown' ((Below.refl _ _).grown hg hbase fun k hk => (hown.lt k hk).1)

/-- s[k:] at a slice of one-cell elements, its address under one name. -/
theorem run_cut {P : Program} (t : TypeId) (ht : P.underlying t = some (.slice (P.elem t))) (hsz : ∀ w : World, (sizeOf (P.elem t)).run P w = .ok 1 w) (A : Option Addr) (n c k : Nat) (hk : k ≤ n) (w : World) :
    (Instr.slice t (.slice A n c) (some (.int .i64 (k : Int))) none none).run P w = .ok (.slice (cutA A c k) (n - k) (c - k)) w := by
  rw [run_slice_l w t A n c ht .i64 (k : Int) (by omega) (by omega), hsz]
  simp [Result.andThen, sliced, cutA]

/-- A slice of unsigned integers that came in, as the row's frame opens it, reads as a list of numbers. -/
theorem Rd.of_row_k {w : World} {k : IntKind} {a : Option Addr} {len cap : Nat} {zs : List Int} (hk : ∀ n : Int, (Lit.int k n).wf = true → 0 ≤ n) (h : (a = none ∧ len = 0 ∧ cap = 0 ∧ zs = []) ∨
    ∃ x, a = some x ∧ len ≤ cap ∧ cap ≤ maxLen ∧ zs.length = cap ∧ (∀ i, i < zs.length → w.cell? (x.add i) = some (.int k (zs.getD i 0))) ∧ ∀ n ∈ zs, (Lit.int k n).wf = true) :
    ∃ bs : List Nat, Rd w a len cap (bs.map fun (b : Nat) => Value.int k (b : Int)) ∧ ∀ b ∈ bs, (Lit.int k (b : Int)).wf = true := by
  rcases h with ⟨rfl, rfl, rfl, rfl⟩ | ⟨x, rfl, hl, hm, hz, hcell, hwz⟩
  · exact ⟨[], Rd.nil_ w, by simp⟩
  · have hc : (((zs.take len).map Int.toNat).map fun (b : Nat) => Value.int k (b : Int)) = (zs.take len).map fun z => Value.int k z := by
      rw [List.map_map]
      refine List.map_congr_left fun z hz' => ?_
      have := hk z (hwz z (List.mem_of_mem_take hz'))
      simp only [Function.comp]
      rw [Int.toNat_of_nonneg this]
    refine ⟨(zs.take len).map Int.toNat, ?_, fun b hb => ?_⟩
    · rw [hc]
      refine ⟨by rw [List.length_map, List.length_take]; omega, hl, hm, (fun e => by cases e), fun h0 => ⟨x, rfl, ?_, fun j u hu => ?_⟩⟩
      · have h1 := hcell 0 (by omega)
        have := World.block_lt_of_cell? w _ h1
        rwa [add_block] at this
      · rw [List.getElem?_map, Option.map_eq_some_iff] at hu
        obtain ⟨z, hz', rfl⟩ := hu
        rw [List.getElem?_take] at hz'
        split at hz'
        · have hj : j < zs.length := by omega
          rw [hcell j hj]
          simp [List.getD, hz']
        · cases hz'
    · obtain ⟨z, hz', rfl⟩ := List.mem_map.1 hb
      have := hwz z (List.mem_of_mem_take hz')
      rw [Int.toNat_of_nonneg (hk z this)]
      exact this

theorem Rd.of_bytes {w : World} {a : Option Addr} {len cap : Nat} {zs : List Int} (h : (a = none ∧ len = 0 ∧ cap = 0 ∧ zs = []) ∨
    ∃ x, a = some x ∧ len ≤ cap ∧ cap ≤ maxLen ∧ zs.length = cap ∧ (∀ i, i < zs.length → w.cell? (x.add i) = some (.int .u8 (zs.getD i 0))) ∧ ∀ n ∈ zs, (Lit.int .u8 n).wf = true) :
    ∃ bs : List Nat, Rd w a len cap (cs bs) ∧ ∀ b ∈ bs, b < 256 := by
  obtain ⟨bs, h1, h2⟩ := Rd.of_row_k (fun n h => (bounds_u8 h).1) h
  exact ⟨bs, h1, fun b hb => by have := (bounds_u8 (h2 b hb)).2; omega⟩

theorem size_alloc (w : World) (o : Obj) : (w.alloc o).heap.size = w.heap.size + 1 := by simp
/-- Block g is just these cells, none of them frozen. -/
def Blk (w : World) (g : Nat) (t : TypeId) (vs : Array Value) : Prop := w.heap[g]? = some (.cells vs t (0, 0))
section
variable {w w' : World} {g : Nat} {t : TypeId} {vs : Array Value}
theorem Blk.lt (h : Blk w g t vs) : g < w.heap.size := (Array.getElem?_eq_some_iff.1 h).1
theorem Blk.cell (h : Blk w g t vs) (i : Nat) : w.cell? ⟨g, i, none⟩ = vs[i]? := cell_of_row w g i vs t (0, 0) h
theorem Blk.soft (h : Blk w g t vs) (i : Nat) : w.frozen? ⟨g, i, none⟩ = false := by
  unfold Blk at h
  simp [World.frozen?, h]
theorem Blk.new (w : World) (t : TypeId) (vs : Array Value) : Blk (w.alloc (.cells vs t)) w.heap.size t vs := heap_alloc_new w _
theorem Blk.drew (h : Blk w g t vs) : Blk w.drew g t vs := h
theorem Blk.drewN (h : Blk w g t vs) (k : Nat) : Blk (w.drewN k) g t vs := h
theorem Blk.alloc (h : Blk w g t vs) (o : Obj) : Blk (w.alloc o) g t vs := (Below.heap_alloc w o g h.lt).trans h
theorem Blk.below {B : Nat} (h : Blk w g t vs) (hb : Below B w w') (hg : g < B) : Blk w' g t vs := (hb.block g hg).trans h
theorem Blk.bel (h : Blk w g t vs) (hb : Below w.heap.size w w') : Blk w' g t vs := h.below hb h.lt
theorem Blk.grown {row : Option Nat} (h : Blk w g t vs) (hb : w.grownBy w' row) (hg : some g ≠ row) : Blk w' g t vs := (hb.block g h.lt hg).trans h
theorem Blk.put (h : Blk w g t vs) (i : Nat) (u : Value) : Blk (w.setCell ⟨g, i, none⟩ u) g t (vs.setIfInBounds i u) := by
  unfold Blk at h ⊢
  simp [World.setCell, Array.getElem?_modify, h]
theorem Blk.far (h : Blk w g t vs) {p : Addr} (hp : g ≠ p.block) (u : Value) : Blk (w.setCell p u) g t vs := (Below.heap_setCell w p u g hp).trans h
end

end Go.Proofs.YthkbmmebfkaphaaDoor.Mem
/- Texts as lists of bytes, of no program: what is joined, cut, compared and turned of a text, in words of its bytes. -/
namespace Go.Proofs.YthkbmmebfkaphaaDoor.Mem
open Go.RowKit

/-- The bytes of a text; a text of bytes. -/
def bts (s : ByteArray) : List Nat := s.data.toList.map (·.toNat)
def txt (l : List Nat) : ByteArray := ⟨(l.map UInt8.ofNat).toArray⟩
theorem length_bts (s : ByteArray) : (bts s).length = s.size := by simp [bts]
theorem size_txt (l : List Nat) : (txt l).size = l.length := by
  show (txt l).data.size = _
  simp [txt]
theorem bts_lt (s : ByteArray) : ∀ b ∈ bts s, b < 256 := by
  intro b hb
  obtain ⟨u, _, rfl⟩ := List.mem_map.1 hb
  exact u.toNat_lt
theorem txt_bts (s : ByteArray) : txt (bts s) = s := by
  cases s with
  | mk d =>
    have e : ((UInt8.ofNat ∘ fun x : UInt8 => x.toNat) : UInt8 → UInt8) = id := by funext u; simp [Function.comp]
    simp only [txt, bts, List.map_map]
    rw [e, List.map_id]
theorem bts_txt (l : List Nat) (h : ∀ b ∈ l, b < 256) : bts (txt l) = l := by
  simp only [bts, txt, List.map_map]
  conv => rhs; rw [← List.map_id l]
  refine List.map_congr_left fun b hb => ?_
  have := h b hb
  simp [Function.comp, UInt8.toNat_ofNat', Nat.mod_eq_of_lt this]
theorem bts_inj {a b : ByteArray} (h : bts a = bts b) : a = b := by rw [← txt_bts a, ← txt_bts b, h]
theorem bts_append (a b : ByteArray) : bts (a ++ b) = bts a ++ bts b := by
  simp [bts, ByteArray.data_append]
theorem bts_extract (s : ByteArray) (i j : Nat) : bts (s.extract i j) = ((bts s).drop i).take (j - i) := by
  simp only [bts, Lib.extract_data, List.map_take, List.map_drop]
theorem bts_tail (s : ByteArray) (i : Nat) : bts (s.extract i s.size) = (bts s).drop i := by
  rw [bts_extract, List.take_of_length_le]
  rw [List.length_drop, length_bts]
  exact Nat.le_refl _
theorem eq_tell (a b : ByteArray) : (a.toList == b.toList) = decide (bts a = bts b) := by
  rw [Lib.toList_data, Lib.toList_data]
  by_cases h : bts a = bts b
  · cases bts_inj h
    simp
  · simp only [h, decide_false]
    rw [beq_eq_false_iff_ne]
    intro e
    exact h (by simp only [bts, e])
theorem size_bts {s : ByteArray} {l : List Nat} (h : bts s = l) : s.size = l.length := by rw [← h, length_bts]
theorem at_bts (s : ByteArray) (i : Nat) (h : i < s.size) : (s[i]'h).toNat = (bts s).getD i 0 := by
  have h' : i < s.data.size := h
  have e : s.data[i]? = some s.data[i] := Array.getElem?_eq_getElem h'
  simp [bts, List.getD, ByteArray.getElem_eq_getElem_data, e]
theorem get_bts (s : ByteArray) (i : Nat) : (s.get! i).toNat = (bts s).getD i 0 := by
  by_cases h : i < s.size
  · rw [← at_bts s i h]
    simp [ByteArray.get!, getElem!_pos, h]
    rfl
  · simp [ByteArray.get!, bts, List.getD, getElem!_neg, h]
    rfl
theorem strCells_bts (s : ByteArray) : Lib.strCells s = cs (bts s) := by
  simp [Lib.strCells, cs, bts, List.map_map, Function.comp_def]

/-- '[]byte(s)': what it reads as, and that all else stays. -/
theorem Rd.ofText (w : World) (e : TypeId) (s : ByteArray) (hs : s.size ≤ maxLen) : Rd (Lib.bytesWorld w e s) (some ⟨w.heap.size, 0, none⟩) s.size (grownCap w s.size 0 e) (cs (bts s)) := by
  refine ⟨by rw [length_cs, length_bts], grownCap_ge _ _ _ _, grownCap_le_maxLen _ _ _ _ hs, (fun e => by cases e), fun _ => ⟨_, rfl, by rw [Lib.bytesWorld_size]; exact Nat.lt_succ_self _, fun j u hu => ?_⟩⟩
  have hj : j < s.size := by
    have := (List.getElem?_eq_some_iff.1 hu).1
    rwa [length_cs, length_bts] at this
  rw [Addr.add_lit, Nat.zero_add, Lib.bytesWorld_cell w e s j hj]
  simp only [cs, bts, List.map_map, List.getElem?_map, Option.map_eq_some_iff] at hu
  obtain ⟨b, hb, rfl⟩ := hu
  simp [List.getD, hb]
theorem below_ofText (w : World) (e : TypeId) (s : ByteArray) : Below w.heap.size w (Lib.bytesWorld w e s) :=
  ⟨rfl, rfl, rfl, by rw [Lib.bytesWorld_size]; omega, fun i hi => Lib.bytesWorld_at_old w e s i hi⟩

/-- 'string(b)'. -/
theorem run_text {P : Program} {w : World} (src dst e : TypeId) (hs : P.underlying src = some (.slice e)) (he : P.underlying e = some (.int .u8)) (hd : P.underlying dst = some .string)
    {A : Option Addr} {n c : Nat} {bs : List Nat} (hr : Rd w A n c (cs bs)) : (convert src dst (.slice A n c)).run P w = .ok (.string (txt bs)) w := by
  have hl := hr.len
  rw [length_cs] at hl
  rcases A with _ | ad
  · have h0 := hr.none0 rfl
    have hb : bs = [] := List.eq_nil_of_length_eq_zero (by omega)
    subst hb
    rw [run_convert_bytes_nil w src e hs he _ _ dst hd]
    rfl
  · have hcs : cs bs = (bs.map fun b => ((b : Nat) : Int)).map (Value.int .u8) := by simp [cs, List.map_map, Function.comp_def]
    have h1 := run_loadCells_list (P := P) w ad (cs bs) (hr.cells ad rfl)
    rw [length_cs, hl, hcs] at h1
    rw [run_convert_bytes_string w src dst e _ n c hs he hd, run_bytesToString w _ n c _ h1, foldl_push_bytes]
    simp [txt, List.map_map, Function.comp_def, ByteArray.empty, ByteArray.emptyWithCapacity]
    rfl

end Go.Proofs.YthkbmmebfkaphaaDoor.Mem
/- A region that draws its order and only reads, beside calls that keep all that lay in the world when it began, of no program: one walk, in the text's order. -/
namespace Go.Proofs.YthkbmmebfkaphaaDoor
open Go.RowKit Mem

/-- A world in which all that lay in w lies as it did. -/
structure BelBy (w : World) where
  W : World
  h : Below w.heap.size w W
instance (w : World) : Inhabited (BelBy w) := ⟨⟨w, Below.refl _ _⟩⟩
theorem wp_region_bel {P : Program} {id : Nat} {Q : Exit → Act → World → Prop} {a : Act} {w : World} {l : List Oper} (hm : P.follows .mixedOrders = true) (hB : Region.lexB .any l.toArray = true)
    (h : wpQuiet P l.toArray (fun w' => ∃ p : BelBy w, w' = p.W) (fun a' => ∀ w', (∃ p : BelBy w, w' = p.W) → Q .normal a' w') l a) : (Code.region id l.toArray true).wp P Q a w :=
  wp_region_quiet (C := fun w' => ∃ p : BelBy w, w' = p.W) hm hB ⟨⟨w.drewN 1, below_drewN (Below.refl _ _) 1⟩, rfl⟩ (by simpa using h)
theorem Calls.bel_of {P : Program} {f : FuncId} {args : Array Value} {w : World} {p : BelBy w} {v : Value} (h : Calls P f args p.W fun e w' => e = .returned v ∧ Below p.W.heap.size p.W w') :
    Calls P f args p.W fun e w'' => e = .returned v ∧ ∃ p' : BelBy w, w'' = p'.W :=
  h.mono fun _ w' ⟨he, hb⟩ => ⟨he, ⟨w', bel_trans p.h hb⟩, rfl⟩
theorem Calls.bel_tells {P : Program} {f : FuncId} {args : Array Value} {w : World} {p : BelBy w} {b : Bool} (h : Calls P f args p.W (Tells b p.W)) :
    Calls P f args p.W fun e w'' => e = .returned (.bool b) ∧ ∃ p' : BelBy w, w'' = p'.W := Calls.bel_of h
theorem BelBy.cell {w : World} (p : BelBy w) {a : Addr} {v : Value} (hb : a.block < w.heap.size) (h : w.cell? a = some v) : p.W.cell? a = some v := (p.h.cell hb).trans h
/-- An operation of a region whose guard doesn't want it. -/
theorem wpQuiet_skip {P : Program} {ops : Array Oper} {C : World → Prop} {Q : Act → Prop} {a : Act} {o : Oper} {rest : List Oper} (hw : Region.wanted o (yielded ops a.tmps) = false) (h : wpQuiet P ops C Q rest (a.put o.dst undef)) : wpQuiet P ops C Q (o :: rest) a := by
  unfold wpQuiet
  rw [if_neg (by rw [hw]; simp)]
  exact h
end Go.Proofs.YthkbmmebfkaphaaDoor
/- A region that draws its order, under a condition on the world, of no program: an operation that is taken first, its temporary by its number; one that its guard doesn't want. -/
namespace Go.Proofs.YthkbmmebfkaphaaDoor

/-- Take number i first: what it leaves in temporary d. -/
theorem held_take {P : Program} {ops : Array Oper} {Q : Exit → Act → World → Prop} {md : Region.Mode} {S : World → Prop} {i d : Nat} {oi : Oper} {v : Value} {fuel : Nat} {listed : Array Bool} {a : Act} {w : World} (hi : ops[i]? = some oi) (hd : oi.dst = some d)
    (hs : Region.noSelect ops = true) (hf : Region.free md ops listed i = true) (hr : (Region.ready md ops listed).contains i = true)
    (hQ : ∀ c a w, Q (.panic c) (a.put oi.dst v) w → Q (.panic c) a w) (hw : Region.wanted oi (yielded ops a.tmps) = true) (hy : ∀ w, S w → (execOp a.eval oi).run P w = .ok (.value v) w) (hS : S w)
    (h : wpAnyH P md ops Q S fuel (listed.setIfInBounds i true) { a with tmps := a.tmps.setIfInBounds d v } w) : wpAnyH P md ops Q S (fuel + 1) listed a w :=
  wpAnyH_take hi hs hf hr hQ (Or.inl ⟨hw, hy⟩) hS (by rw [hd]; exact h)
/-- .. whose guard doesn't want it. -/
theorem held_skip {P : Program} {ops : Array Oper} {Q : Exit → Act → World → Prop} {md : Region.Mode} {S : World → Prop} {i d : Nat} {oi : Oper} {fuel : Nat} {listed : Array Bool} {a : Act} {w : World} (hi : ops[i]? = some oi) (hd : oi.dst = some d)
    (hs : Region.noSelect ops = true) (hf : Region.free md ops listed i = true) (hr : (Region.ready md ops listed).contains i = true)
    (hQ : ∀ c a w, Q (.panic c) (a.put oi.dst undef) w → Q (.panic c) a w) (hw : Region.wanted oi (yielded ops a.tmps) = false) (hS : S w)
    (h : wpAnyH P md ops Q S fuel (listed.setIfInBounds i true) { a with tmps := a.tmps.setIfInBounds d undef } w) : wpAnyH P md ops Q S (fuel + 1) listed a w :=
  wpAnyH_take hi hs hf hr hQ (Or.inr ⟨hw, rfl⟩) hS (by rw [hd]; exact h)
/-- The same, said shorter: what the kernel reckons in one test. -/
theorem hs_take {P : Program} {ops : Array Oper} {Q : Exit → Act → World → Prop} {md : Region.Mode} {S : World → Prop} (i d : Nat) {oi : Oper} (v : Value) {fuel : Nat} {listed : Array Bool} {a : Act} {w : World} (hi : ops[i]? = some oi) (hd : oi.dst = some d)
    (hk : (Region.noSelect ops && (Region.free md ops listed i && ((Region.ready md ops listed).contains i && Region.wanted oi (yielded ops a.tmps)))) = true)
    (hQ : ∀ c a w, Q (.panic c) (a.put oi.dst v) w → Q (.panic c) a w) (hy : ∀ w, S w → (execOp a.eval oi).run P w = .ok (.value v) w) (hS : S w)
    (h : wpAnyH P md ops Q S fuel (listed.setIfInBounds i true) { a with tmps := a.tmps.setIfInBounds d v } w) : wpAnyH P md ops Q S (fuel + 1) listed a w := by
  rw [Bool.and_eq_true, Bool.and_eq_true, Bool.and_eq_true] at hk
  exact held_take hi hd hk.1 hk.2.1 hk.2.2.1 hQ hk.2.2.2 hy hS h
theorem n0 {α : Type} (l : List α) (i : Nat) (a : α) : l.toArray.setIfInBounds i a = (l.set i a).toArray := List.setIfInBounds_toArray ..
theorem n1 {α : Type} (x a : α) (l : List α) : (x :: l).set 0 a = a :: l := rfl
theorem n2 {α : Type} (x a : α) (l : List α) (i : Nat) : (x :: l).set (i + 1) a = x :: l.set i a := rfl
end Go.Proofs.YthkbmmebfkaphaaDoor
/- A value of many cells stored over a block that is known whole, in one step: the world behind it is a new one, of which the block and all others are known; of no program. -/
namespace Go.Proofs.YthkbmmebfkaphaaDoor.Mem
open Go.RowKit

theorem blk_setRow {w : World} {g : Nat} {t : TypeId} {old : Array Value} (h : Blk w g t old) (cells : Array Value) : Blk (w.setRow g cells) g t cells ∧ w.grownBy (w.setRow g cells) (some g) := by
  unfold Blk at *
  refine ⟨by simp [World.setRow, Array.getElem?_modify, h], rfl, rfl, rfl, by simp [World.setRow], fun k hk hne => ?_⟩
  simp only [World.setRow, Array.getElem?_modify]
  rw [if_neg (fun e => hne (by rw [e]))]
theorem wp_store_blk {P : Program} {o : Oper} {a : Act} {w : World} {K : Act → World → Prop} {Q : Exit → Act → World → Prop} (ty : TypeId) (x y : Operand) (ho : o.op = .store ty x y)
    (g : Nat) (t : TypeId) (old cells : Array Value) (hx : a.eval x = .pointer (some ⟨g, 0, none⟩)) (hy : a.eval y = .agg cells) (hb : Blk w g t old) (hi : (P.info? ty).map (·.size) = some cells.size)
    (hold : old.size = cells.size) (h1 : cells.all (·.oneCell') = true)
    (h : ∀ w', Blk w' g t cells → w.grownBy w' (some g) → K (a.put o.dst undef) w') : o.wp P a w K Q :=
  wp_store_row ty x y ho g cells hx hy t old hb hi hold h1 (h _ (blk_setRow hb cells).1 (blk_setRow hb cells).2)
theorem wpList_store_blk {P : Program} {ops : Array Oper} {rest : List Oper} {o : Oper} {a : Act} {w : World} {Q : Exit → Act → World → Prop} (hgd : o.guard = none) (ty : TypeId) (x y : Operand) (ho : o.op = .store ty x y)
    (g : Nat) (t : TypeId) (old cells : Array Value) (hx : a.eval x = .pointer (some ⟨g, 0, none⟩)) (hy : a.eval y = .agg cells) (hb : Blk w g t old) (hi : (P.info? ty).map (·.size) = some cells.size)
    (hold : old.size = cells.size) (h1 : cells.all (·.oneCell') = true)
    (h : ∀ w', Blk w' g t cells → w.grownBy w' (some g) → wpList P ops Q rest (a.put o.dst undef) w') : wpList P ops Q (o :: rest) a w :=
  wpList_plain hgd fun _ hK => wp_store_blk ty x y ho g t old cells hx hy hb hi hold h1 fun w' h2 h3 => hK _ _ (h w' h2 h3)
theorem step_store_blk {P : Program} {ops : Array Oper} {o : Oper} {a : Act} {w : World} {K : Act → World → Prop} {Q : Exit → Act → World → Prop} {E : Prop} (hgd : o.guard = none) (ty : TypeId) (x y : Operand) (ho : o.op = .store ty x y)
    (g : Nat) (t : TypeId) (old cells : Array Value) (hx : a.eval x = .pointer (some ⟨g, 0, none⟩)) (hy : a.eval y = .agg cells) (hb : Blk w g t old) (hi : (P.info? ty).map (·.size) = some cells.size)
    (hold : old.size = cells.size) (h1 : cells.all (·.oneCell') = true)
    (h : ∀ w', Blk w' g t cells → w.grownBy w' (some g) → K (a.put o.dst undef) w') : if Region.wanted o (yielded ops a.tmps) = true then Oper.wp P o a w K Q else E := by
  have hw : Region.wanted o (yielded ops a.tmps) = true := by simp [Region.wanted, hgd]
  rw [if_pos hw]
  exact wp_store_blk ty x y ho g t old cells hx hy hb hi hold h1 h
/-- A value of many cells loaded from a block that is known whole, in one step. -/
theorem wpList_load_blk {P : Program} {ops : Array Oper} {rest : List Oper} {o : Oper} {a : Act} {w : World} {Q : Exit → Act → World → Prop} (hgd : o.guard = none) (ty : TypeId) (x : Operand) (ho : o.op = .load ty x)
    (g : Nat) (t : TypeId) (vs : Array Value) (d : TypeDesc) (hx : a.eval x = .pointer (some ⟨g, 0, none⟩)) (hb : Blk w g t vs) (hu : P.underlying ty = some d) (hd : (match d with | .struct _ | .array _ _ => true | _ => false) = true) (hi : (P.info? ty).map (·.size) = some vs.size)
    (h : wpList P ops Q rest (a.put o.dst (.agg vs)) w) : wpList P ops Q (o :: rest) a w :=
  wpList_plain hgd fun _ hK => by
    unfold Oper.wp execOp
    simp only [ho, hx, Instr.loadAt, Instr.sureAddr, Sem.run_bind, Sem.run_pure, Result.andThen_ok, run_loadVar_row w g t ty vs (0, 0) d hb hu hd hi]
    exact hK _ _ h
/-- .. where a guard wants it. -/
theorem wpList_load_blk_w {P : Program} {ops : Array Oper} {rest : List Oper} {o : Oper} {a : Act} {w : World} {Q : Exit → Act → World → Prop} (ty : TypeId) (x : Operand) (ho : o.op = .load ty x)
    (g : Nat) (t : TypeId) (vs : Array Value) (d : TypeDesc) (hx : a.eval x = .pointer (some ⟨g, 0, none⟩)) (hw : Region.wanted o (yielded ops a.tmps) = true) (hb : Blk w g t vs) (hu : P.underlying ty = some d) (hd : (match d with | .struct _ | .array _ _ => true | _ => false) = true) (hi : (P.info? ty).map (·.size) = some vs.size)
    (h : wpList P ops Q rest (a.put o.dst (.agg vs)) w) : wpList P ops Q (o :: rest) a w :=
  wpList_step fun _ hK => by
    rw [if_pos hw]
    unfold Oper.wp execOp
    simp only [ho, hx, Instr.loadAt, Instr.sureAddr, Sem.run_bind, Sem.run_pure, Result.andThen_ok, run_loadVar_row w g t ty vs (0, 0) d hb hu hd hi]
    exact hK _ _ h
theorem run_load_blk {P : Program} {oi : Oper} {a : Act} {S : World → Prop} (ty : TypeId) (x : Operand) (ho : oi.op = .load ty x)
    (g : Nat) (t : TypeId) (vs : Array Value) (d : TypeDesc) (hx : a.eval x = .pointer (some ⟨g, 0, none⟩)) (hS : ∀ w, S w → Blk w g t vs) (hu : P.underlying ty = some d) (hd : (match d with | .struct _ | .array _ _ => true | _ => false) = true) (hi : (P.info? ty).map (·.size) = some vs.size) :
    ∀ w, S w → (execOp a.eval oi).run P w = .ok (.value (.agg vs)) w := fun w hw => by
  unfold execOp
  simp only [ho, hx, Instr.loadAt, Instr.sureAddr, Sem.run_bind, Sem.run_pure, Result.andThen_ok, run_loadVar_row w g t ty vs (0, 0) d (hS w hw) hu hd hi]
/-- .. as the walk's own steps meet it. -/
theorem run_cells_blk {P : Program} {w : World} {g : Nat} {t : TypeId} {vs : Array Value} (h : Blk w g t vs) (n : Nat) (hn : vs.size = n) : (loadCellsFrom ⟨g, 0, none⟩ 0 n #[]).run P w = .ok vs w := by
  subst hn
  have := run_loadCells_list (P := P) w ⟨g, 0, none⟩ vs.toList (fun j v hv => by
    have hadd : (⟨g, 0, none⟩ : Addr).add j = ⟨g, j, none⟩ := by unfold Addr.add; split <;> simp_all
    rw [hadd, h.cell j]
    simpa using hv)
  simpa [loadCells] using this
/-- What a function answers out of such a block. -/
theorem results_blk {P : Program} {fn : Func} {t : Tmp} {ty : TypeId} (h : fn.results = #[.cell t ty]) (tmps : Array Value) (w : World) (g : Nat) (t' : TypeId) (vs : Array Value) (d : TypeDesc) (hp : tmps.getD t undef = .pointer (some ⟨g, 0, none⟩)) (hb : Blk w g t' vs)
    (hu : P.underlying ty = some d) (hd : (match d with | .struct _ | .array _ _ => true | _ => false) = true) (hi : (P.info? ty).map (·.size) = some vs.size) : (results fn tmps).run P w = .ok (.agg vs) w := by
  have hl := run_loadVar_row w g t' ty vs (0, 0) d hb hu hd hi
  have hp' : tmps[t]?.getD undef = .pointer (some ⟨g, 0, none⟩) := by simpa [Array.getD_eq_getD_getElem?] using hp
  simp [results, h, hp', hl, asAddr]
theorem results_blk_tmp {P : Program} {fn : Func} {t u : Tmp} {ty : TypeId} (h : fn.results = #[.cell t ty, .tmp u]) (tmps : Array Value) (w : World) (g : Nat) (t' : TypeId) (vs : Array Value) (d : TypeDesc) (v : Value) (hp : tmps.getD t undef = .pointer (some ⟨g, 0, none⟩)) (hv : tmps.getD u undef = v) (hb : Blk w g t' vs)
    (hu : P.underlying ty = some d) (hd : (match d with | .struct _ | .array _ _ => true | _ => false) = true) (hi : (P.info? ty).map (·.size) = some vs.size) : (results fn tmps).run P w = .ok (.tuple #[.agg vs, v]) w := by
  have hl := run_loadVar_row w g t' ty vs (0, 0) d hb hu hd hi
  have hp' : tmps[t]?.getD undef = .pointer (some ⟨g, 0, none⟩) := by simpa [Array.getD_eq_getD_getElem?] using hp
  have hv' : tmps[u]?.getD undef = v := by simpa [Array.getD_eq_getD_getElem?] using hv
  simp [results, h, hp', hv', hl, asAddr]
end Go.Proofs.YthkbmmebfkaphaaDoor.Mem
/- Worlds that have kept all blocks but one. -/
namespace Go.Proofs.YthkbmmebfkaphaaDoor.Cod
open Go.RowKit Mem

section
variable {a w w' : World} {r : Option Nat} {g : Nat}
theorem gr_refl (w : World) (r : Option Nat) : w.grownBy w r := ⟨rfl, rfl, rfl, Nat.le_refl _, fun _ _ _ => rfl⟩
theorem gr_alloc (h : a.grownBy w r) (o : Obj) : a.grownBy (w.alloc o) r :=
  ⟨h.os, h.tape, h.output, Nat.le_trans h.size (by simp), fun i hi hne => (Below.heap_alloc w o i (Nat.lt_of_lt_of_le hi h.size)).trans (h.block i hi hne)⟩
theorem gr_drew (h : a.grownBy w r) : a.grownBy w.drew r := ⟨h.os, h.tape, h.output, h.size, h.block⟩
theorem gr_drewN (h : a.grownBy w r) (n : Nat) : a.grownBy (w.drewN n) r := ⟨h.os, h.tape, h.output, h.size, h.block⟩
/-- A step that touches at most one block, which is the one that may be touched, or new. -/
theorem gr_step {q : Option Nat} (h : a.grownBy w r) (k : w.grownBy w' q) (hq : ∀ b, q = some b → a.heap.size ≤ b ∨ r = some b) : a.grownBy w' r :=
  ⟨k.os.trans h.os, k.tape.trans h.tape, k.output.trans h.output, Nat.le_trans h.size k.size, fun i hi hne => (k.block i (Nat.lt_of_lt_of_le hi h.size) (fun e => by
    rcases hq i e.symm with h1 | h1
    · omega
    · exact hne h1.symm)).trans (h.block i hi hne)⟩
theorem gr_bel (h : a.grownBy w r) (k : Below w.heap.size w w') : a.grownBy w' r :=
  ⟨k.os.trans h.os, k.tape.trans h.tape, k.output.trans h.output, Nat.le_trans h.size k.size, fun i hi hne => (k.block i (Nat.lt_of_lt_of_le hi h.size)).trans (h.block i hi hne)⟩
theorem gr_set (h : a.grownBy w r) {p : Addr} (hp : some p.block = r ∨ a.heap.size ≤ p.block) (u : Value) : a.grownBy (w.setCell p u) r :=
  ⟨h.os, h.tape, h.output, by simpa [World.setCell] using h.size, fun i hi hne => (Below.heap_setCell w p u i (by
    rintro rfl
    rcases hp with hp | hp
    · exact hne hp
    · omega)).trans (h.block i hi hne)⟩
theorem gr_below {B : Nat} (h : w.grownBy w' r) (hB : B ≤ w.heap.size) (hr : ∀ b, r = some b → B ≤ b) : Below B w w' :=
  ⟨h.os, h.tape, h.output, h.size, fun i hi => h.block i (by omega) (fun e => by have := hr i e.symm; omega)⟩
theorem below_gr (h : Below w.heap.size w w') (r : Option Nat) : w.grownBy w' r := ⟨h.os, h.tape, h.output, h.size, fun i hi _ => h.block i hi⟩
end

end Go.Proofs.YthkbmmebfkaphaaDoor.Cod
