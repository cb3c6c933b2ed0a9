/-
  Texts of earlier layers, as one.
-/
import Derived.WalkKit
import Derived.Lib.Hide
import Derived.Laws.AppendOwnNone
import Derived.OpenShut
import Derived.Deep.QuietTactic
import Derived.BigQuiet
import Derived.Lib.ConvBytes
import Derived.Lib.AppendStr
import Derived.Laws.BytesArg
import Derived.Lib.Strings
import Derived.Deep.Quiet
import Derived.Deep.RegionHeld
/- Words for memory, of no program: a slice value that reads as a list of one-cell values ('Rd'), what keeps that, and an append onto a row of the call's own of whatever source ('wpList_append_rd'). -/
namespace Go.Proofs.YthlhchaoedcdbaaGreatDoor.Mem
open Go.RowKit
theorem add_block (a : Addr) (n : Nat) : (a.add n).block = a.block := by unfold Addr.add; split <;> rfl
theorem add_add (a : Addr) (i j : Nat) : (a.add i).add j = a.add (i + j) := by
 unfold Addr.add;by_cases hi : i = 0 <;> by_cases hj : j = 0 <;> simp [hi, hj, Nat.add_assoc]
def cs (bs : List Nat) : List Value := bs.map fun (b : Nat) => Value.int .u8 (b : Int)
def us (vs : List Nat) : List Value := vs.map fun (b : Nat) => Value.int .u64 (b : Int)
theorem length_cs (bs : List Nat) : (cs bs).length = bs.length := by simp [cs]
theorem cs_append (a b : List Nat) : cs (a ++ b) = cs a ++ cs b := by simp [cs]
theorem cs_take (a : List Nat) (k : Nat) : (cs a).take k = cs (a.take k) := by simp [cs, List.map_take]
theorem cs_drop (a : List Nat) (k : Nat) : (cs a).drop k = cs (a.drop k) := by simp [cs, List.map_drop]
theorem cs_one (bs : List Nat) : ∀ u ∈ cs bs, u.oneCell' = true := by
 intro u hu;obtain ⟨_, _, rfl⟩ := List.mem_map.1 hu;rfl
theorem cs_at (bs : List Nat) (k : Nat) (h : k < bs.length) : (cs bs)[k]? = some (.int .u8 ((bs[k] : Nat) : Int)) := by
 simp [cs, List.getElem?_eq_getElem h]
structure Rd (w : World) (A : Option Addr) (n c : Nat) (xs : List Value) : Prop where
 len : xs.length = n
 le : n ≤ c
 cap : c ≤ maxLen
 nil : A = none → c = 0
 spot : 0 < n → ∃ ad, A = some ad ∧ ad.block < w.heap.size ∧ ∀ j u, xs[j]? = some u → w.cell? (ad.add j) = some u
section
variable {w w' : World} {A : Option Addr} {n c : Nat} {xs : List Value}
theorem Rd.nil_ (w : World) : Rd w none 0 0 [] := ⟨rfl, Nat.le_refl _, by simp [maxLen], fun _ => rfl, fun h => absurd h (by omega)⟩
theorem Rd.at_ {k : Nat} (h : Rd w A n c xs) (hk : k < n) : ∃ ad u, A = some ad ∧ ad.block < w.heap.size ∧ xs[k]? = some u ∧ w.cell? (ad.add k) = some u := by
 obtain ⟨ad, e, hb, hc⟩ := h.spot (by omega);have hl : k < xs.length := by have := h.len; omega
 exact ⟨ad, xs[k], e, hb, List.getElem?_eq_getElem hl, hc k _ (List.getElem?_eq_getElem hl)⟩
theorem Rd.keep (h : Rd w A n c xs) (hs : w.heap.size ≤ w'.heap.size) (hk : ∀ p : Addr, p.block < w.heap.size → w'.cell? p = w.cell? p) : Rd w' A n c xs :=
 ⟨h.len, h.le, h.cap, h.nil, fun hn => by
  obtain ⟨ad, e, hb, hc⟩ := h.spot hn;exact ⟨ad, e, by omega, fun j u hu => (hk _ (by rw [add_block]; exact hb)).trans (hc j u hu)⟩⟩
theorem Rd.below (h : Rd w A n c xs) (hb : Below w.heap.size w w') : Rd w' A n c xs := h.keep hb.size fun _ hp => hb.cell hp
theorem Rd.alloc (h : Rd w A n c xs) (o : Obj) : Rd (w.alloc o) A n c xs := h.keep (by simp) fun p hp => World.cell?_alloc_lt w o p hp
theorem Rd.drewN (h : Rd w A n c xs) (k : Nat) : Rd (w.drewN k) A n c xs := ⟨h.len, h.le, h.cap, h.nil, h.spot⟩
theorem Rd.drew (h : Rd w A n c xs) : Rd w.drew A n c xs := ⟨h.len, h.le, h.cap, h.nil, h.spot⟩
theorem Rd.take (h : Rd w A n c xs) {k : Nat} (hk : k ≤ n) : Rd w A k c (xs.take k) :=
 ⟨by rw [List.length_take, h.len]; omega, by have := h.le; omega, h.cap, h.nil, fun hk0 => by
  obtain ⟨ad, e, hb, hc⟩ := h.spot (by omega);refine ⟨ad, e, hb, fun j u hu => hc j u ?_⟩;rw [List.getElem?_take] at hu;split at hu
  · exact hu
  · cases hu⟩
theorem Rd.drop (h : Rd w A n c xs) {k : Nat} (hk : k ≤ n) : Rd w (if c = k then A else A.map (·.add (k * 1))) (n - k) (c - k) (xs.drop k) := by
 have h1 := h.le;have h2 := h.cap;refine ⟨by rw [List.length_drop, h.len], by omega, by omega, fun e => ?_, fun hn => ?_⟩
 · split at e
   · have := h.nil e; omega
   · have := h.nil (by simpa using e); omega
 · obtain ⟨ad, rfl, hb, hcell⟩ := h.spot (by omega)
   rw [if_neg (by omega)];refine ⟨ad.add (k * 1), rfl, by rw [add_block]; exact hb, fun j u hu => ?_⟩;rw [add_add];exact hcell _ u (by rw [← hu, List.getElem?_drop, Nat.mul_one])
def cutA (A : Option Addr) (c k : Nat) : Option Addr := if c = k then A else A.map (·.add (k * 1))
theorem Rd.cut (h : Rd w A n c xs) {k : Nat} (hk : k ≤ n) : Rd w (cutA A c k) (n - k) (c - k) (xs.drop k) := h.drop hk
theorem Rd.of_own {base : Nat} {e : TypeId} {v : Value} (h : w.ownsRow base e 1 v n xs) : ∃ A c, v = .slice A n c ∧ Rd w A n c xs := by
 have hl := h.1;rcases h.2 with ⟨rfl, rfl⟩ | ⟨g, cap, cur, rfl, hb, hg, hnc, hm, hs, ht⟩
 · exact ⟨none, 0, rfl, by simpa using hl, Nat.le_refl _, by simp [maxLen], fun _ => rfl, fun h => absurd h (by omega)⟩
 · exact ⟨some ⟨g, 0, none⟩, cap, rfl, by simpa using hl, hnc, hm, (fun e => by cases e), fun _ => ⟨_, rfl, (Array.getElem?_eq_some_iff.1 hg).1, h.cells (g := g) rfl⟩⟩
end
theorem Rd.none0 {w : World} {A : Option Addr} {n c : Nat} {xs : List Value} (h : Rd w A n c xs) : A = none → n = 0 ∧ c = 0 := fun e => by
 have := h.nil e; have := h.le; omega
theorem Rd.cells {w : World} {A : Option Addr} {n c : Nat} {xs : List Value} (h : Rd w A n c xs) : ∀ ad, A = some ad → ∀ j u, xs[j]? = some u → w.cell? (ad.add j) = some u := by
 intro ad e j u hu;have hj : j < n := by rw [← h.len]; exact (List.getElem?_eq_some_iff.1 hu).1
 obtain ⟨ad', e', _, hc⟩ := h.spot (by omega);cases e.symm.trans e';exact hc j u hu
theorem Rd.byte {w : World} {A : Option Addr} {n c k : Nat} {bs : List Nat} (h : Rd w A n c (cs bs)) (hk : k < n) : ∃ ad b, A = some ad ∧ bs[k]? = some b ∧ w.cell? (ad.add k) = some (.int .u8 (b : Int)) := by
 obtain ⟨ad, u, e, _, hx, hc⟩ := h.at_ hk;have hl := h.len;rw [length_cs] at hl;rw [cs_at bs k (by omega)] at hx;cases hx;exact ⟨ad, _, e, List.getElem?_eq_getElem (by omega), hc⟩
theorem ownsRow_below {w w' : World} {base : Nat} {e : TypeId} {size : Nat} {v : Value} {n : Nat} {xs : List Value} (h : w.ownsRow base e size v n xs) (hb : Below w.heap.size w w') : w'.ownsRow base e size v n xs := by
 refine ⟨h.1, ?_⟩;rcases h.2 with h | ⟨g, cap, cur, hv, hg, hh, r⟩
 · exact .inl h
 · exact .inr ⟨g, cap, cur, hv, hg, (hb.block g (Array.getElem?_eq_some_iff.1 hh).1).trans hh, r⟩
theorem below_drewN {B : Nat} {a w : World} (h : Below B a w) (n : Nat) : Below B a (w.drewN n) := ⟨h.os, h.tape, h.output, h.size, h.block⟩
theorem bel_trans {w w1 w2 : World} (h : Below w.heap.size w w1) (k : Below w1.heap.size w1 w2) : Below w.heap.size w w2 := h.trans (k.mono h.size)
theorem bel_alloc {w w1 : World} (h : Below w.heap.size w w1) (o : Obj) : Below w.heap.size w (w1.alloc o) := h.alloc h.size o
theorem bel_grown {w w1 w2 : World} {row : Option Nat} (h : Below w.heap.size w w1) (hg : w1.grownBy w2 row) (hr : ∀ k, row = some k → w.heap.size ≤ k) : Below w.heap.size w w2 := h.grown hg h.size hr
def Gives (w : World) (n : Nat) (bs : List Nat) (e : Ending) (w' : World) : Prop :=
 ∃ A c, e = .returned (.slice A n c) ∧ Rd w' A n c (cs bs) ∧ Below w.heap.size w w'
def Tells (b : Bool) (w : World) (e : Ending) (w' : World) : Prop := e = .returned (.bool b) ∧ Below w.heap.size w w'
theorem Rd.own {w : World} {base : Nat} {e : TypeId} {V : Option Addr} {n c : Nat} {xs : List Value} (h : w.ownsRow base e 1 (.slice V n c) n xs) : Rd w V n c xs := by
 obtain ⟨A, c', e, hr⟩ := Rd.of_own h;cases e;exact hr
theorem Rd.lit (w : World) (vs : List Value) (t : TypeId) (n : Nat) (hn : vs.length = n) (hm : n ≤ maxLen) : Rd (w.alloc (.cells vs.toArray t)) (some ⟨w.heap.size, 0, none⟩) n n vs :=
 ⟨hn, Nat.le_refl _, hm, (fun e => by cases e), fun _ => ⟨_, rfl, by simp, fun j u hu => by
  rw [Addr.add_lit, Nat.zero_add, cell_of_row _ _ _ _ _ _ (heap_alloc_new w _)];simpa using hu⟩⟩
theorem Rd.one (w : World) (v : Value) (t : TypeId) : Rd (w.alloc (.cells #[v] t)) (some ⟨w.heap.size, 0, none⟩) 1 1 [v] := Rd.lit w [v] t 1 rfl (by simp [maxLen])
theorem wpList_append_fits_rd {P : Program} {w : World} {ops : Array Oper} {rest : List Oper} {o : Oper} {a : Act} {Q : Exit → Act → World → Prop}
 (hg : o.guard = none) (s x : Operand) (t : TypeId) (hop : o.op = Op.call { callee := Callee.builtin Builtin.append, args := #[s, x], argTypes := #[t, t] })
 (base : Nat) (e : TypeId) (i : TypeInfo) (h1 : P.underlying t = some (.slice e)) (h2 : P.info? e = some i) (h4 : i.size = 1)
 (g k cap : Nat) (xs : List Value) (hs : a.eval s = .slice (some ⟨g, 0, none⟩) k cap) (hown : w.ownsRow base e 1 (.slice (some ⟨g, 0, none⟩) k cap) k xs)
 (A : Option Addr) (m c : Nat) (news : List Value) (hx : a.eval x = .slice A m c) (hr : Rd w A m c news) (h1c : ∀ u ∈ news, u.oneCell' = true) (b1 : k + m ≤ cap)
 (hK : ∀ w', w'.ownsRow base e 1 (.slice (some ⟨g, 0, none⟩) (k + m) cap) (k + m) (xs ++ news) → w.grownBy w' (some g) → wpList P ops Q rest (a.put o.dst (.slice (some ⟨g, 0, none⟩) (k + m) cap)) w') :
 wpList P ops Q (o :: rest) a w :=
 wpList_append_fits_any w hg s x t hop base e i 1 h1 h2 h4 g k cap xs hs hown A m c news hx (by rw [hr.len, Nat.mul_one]) hr.none0 hr.cells h1c b1 hK
theorem wpList_append_rd {P : Program} {w : World} {ops : Array Oper} {rest : List Oper} {o : Oper} {a : Act} {Q : Exit → Act → World → Prop} (hgd : o.guard = none) (s x : Operand) (t : TypeId)
 (ho : o.op = .call { callee := .builtin .append, args := #[s, x], argTypes := #[t, t] })
 (base : Nat) (e : TypeId) (i : TypeInfo) (z : Value) (bytes : Nat) (ht : P.underlying t = some (.slice e)) (hi : P.info? e = some i) (hz : i.zero = some z)
 (hsize : i.size = 1) (hby : i.bytes = bytes) (hzs : z.cells.size = 1)
 (V : Option Addr) (n cv : Nat) (xs : List Value) (hs : a.eval s = .slice V n cv) (hown : w.ownsRow base e 1 (.slice V n cv) n xs)
 (A : Option Addr) (m c : Nat) (news : List Value) (hx : a.eval x = .slice A m c) (hr : Rd w A m c news) (h1 : ∀ u ∈ news, u.oneCell' = true)
 (h63 : n + m ≤ maxLen) (hbytes : (n + m) * bytes ≤ 140737488355328) (hbase : base ≤ w.heap.size)
 (h : ∀ V' c' w', w'.ownsRow base e 1 (.slice V' (n + m) c') (n + m) (xs ++ news) → Below base w w' → wpList P ops Q rest (a.put o.dst (.slice V' (n + m) c')) w') : wpList P ops Q (o :: rest) a w := by
 rcases A with _ | ad
 · have hc : c = 0 := hr.nil rfl
   have hm : m = 0 := (by have := hr.le; omega);subst hc; subst hm;have hn : news = [] := List.eq_nil_of_length_eq_zero hr.len;subst hn;refine wpList_append_own_none hgd s x t ho base e i 1 ht hi _ n xs hs hown hx ?_;exact h V cv w (by simpa using hown) (Below.refl _ _)
 · refine wpList_append_own w hgd s x t ho base e i z 1 bytes ht hi hz hsize hby hzs (by omega) _ n xs hs hown ad m c news hx (by rw [hr.len, Nat.mul_one]) (hr.cells _ rfl) h1 h63 hbytes hbase
    fun v' w' hown' hg _ => ?_
   obtain ⟨V', c', rfl, _⟩ := Rd.of_own hown';exact h V' c' w' hown' ((Below.refl _ _).grown hg hbase fun k hk => (hown.lt k hk).1)
theorem run_cut {P : Program} (t : TypeId) (ht : P.underlying t = some (.slice (P.elem t))) (hsz : ∀ w : World, (sizeOf (P.elem t)).run P w = .ok 1 w) (A : Option Addr) (n c k : Nat) (hk : k ≤ n) (w : World) :
 (Instr.slice t (.slice A n c) (some (.int .i64 (k : Int))) none none).run P w = .ok (.slice (cutA A c k) (n - k) (c - k)) w := by
 rw [run_slice_l w t A n c ht .i64 (k : Int) (by omega) (by omega), hsz];simp [Result.andThen, sliced, cutA]
theorem Rd.of_row_k {w : World} {k : IntKind} {a : Option Addr} {len cap : Nat} {zs : List Int} (hk : ∀ n : Int, (Lit.int k n).wf = true → 0 ≤ n) (h : (a = none ∧ len = 0 ∧ cap = 0 ∧ zs = []) ∨
 ∃ x, a = some x ∧ len ≤ cap ∧ cap ≤ maxLen ∧ zs.length = cap ∧ (∀ i, i < zs.length → w.cell? (x.add i) = some (.int k (zs.getD i 0))) ∧ ∀ n ∈ zs, (Lit.int k n).wf = true) :
 ∃ bs : List Nat, Rd w a len cap (bs.map fun (b : Nat) => Value.int k (b : Int)) ∧ ∀ b ∈ bs, (Lit.int k (b : Int)).wf = true := by
 rcases h with ⟨rfl, rfl, rfl, rfl⟩ | ⟨x, rfl, hl, hm, hz, hcell, hwz⟩
 · exact ⟨[], Rd.nil_ w, by simp⟩
 · have hc : (((zs.take len).map Int.toNat).map fun (b : Nat) => Value.int k (b : Int)) = (zs.take len).map fun z => Value.int k z := by
    rw [List.map_map];refine List.map_congr_left fun z hz' => ?_;have := hk z (hwz z (List.mem_of_mem_take hz'));simp only [Function.comp];rw [Int.toNat_of_nonneg this]
   refine ⟨(zs.take len).map Int.toNat, ?_, fun b hb => ?_⟩
   · rw [hc]
     refine ⟨by rw [List.length_map, List.length_take]; omega, hl, hm, (fun e => by cases e), fun h0 => ⟨x, rfl, ?_, fun j u hu => ?_⟩⟩
     · have h1 := hcell 0 (by omega)
       have := World.block_lt_of_cell? w _ h1;rwa [add_block] at this
     · rw [List.getElem?_map, Option.map_eq_some_iff] at hu
       obtain ⟨z, hz', rfl⟩ := hu;rw [List.getElem?_take] at hz';split at hz'
       · have hj : j < zs.length := by omega
         rw [hcell j hj];simp [List.getD, hz']
       · cases hz'
   · obtain ⟨z, hz', rfl⟩ := List.mem_map.1 hb
     have := hwz z (List.mem_of_mem_take hz');rw [Int.toNat_of_nonneg (hk z this)];exact this
theorem Rd.of_bytes {w : World} {a : Option Addr} {len cap : Nat} {zs : List Int} (h : (a = none ∧ len = 0 ∧ cap = 0 ∧ zs = []) ∨
 ∃ x, a = some x ∧ len ≤ cap ∧ cap ≤ maxLen ∧ zs.length = cap ∧ (∀ i, i < zs.length → w.cell? (x.add i) = some (.int .u8 (zs.getD i 0))) ∧ ∀ n ∈ zs, (Lit.int .u8 n).wf = true) :
 ∃ bs : List Nat, Rd w a len cap (cs bs) ∧ ∀ b ∈ bs, b < 256 := by
 obtain ⟨bs, h1, h2⟩ := Rd.of_row_k (fun n h => (bounds_u8 h).1) h;exact ⟨bs, h1, fun b hb => by have := (bounds_u8 (h2 b hb)).2; omega⟩
theorem size_alloc (w : World) (o : Obj) : (w.alloc o).heap.size = w.heap.size + 1 := by simp
def Blk (w : World) (g : Nat) (t : TypeId) (vs : Array Value) : Prop := w.heap[g]? = some (.cells vs t (0, 0))
section
variable {w w' : World} {g : Nat} {t : TypeId} {vs : Array Value}
theorem Blk.lt (h : Blk w g t vs) : g < w.heap.size := (Array.getElem?_eq_some_iff.1 h).1
theorem Blk.cell (h : Blk w g t vs) (i : Nat) : w.cell? ⟨g, i, none⟩ = vs[i]? := cell_of_row w g i vs t (0, 0) h
theorem Blk.soft (h : Blk w g t vs) (i : Nat) : w.frozen? ⟨g, i, none⟩ = false := by
 unfold Blk at h;simp [World.frozen?, h]
theorem Blk.new (w : World) (t : TypeId) (vs : Array Value) : Blk (w.alloc (.cells vs t)) w.heap.size t vs := heap_alloc_new w _
theorem Blk.drew (h : Blk w g t vs) : Blk w.drew g t vs := h
theorem Blk.drewN (h : Blk w g t vs) (k : Nat) : Blk (w.drewN k) g t vs := h
theorem Blk.alloc (h : Blk w g t vs) (o : Obj) : Blk (w.alloc o) g t vs := (Below.heap_alloc w o g h.lt).trans h
theorem Blk.below {B : Nat} (h : Blk w g t vs) (hb : Below B w w') (hg : g < B) : Blk w' g t vs := (hb.block g hg).trans h
theorem Blk.bel (h : Blk w g t vs) (hb : Below w.heap.size w w') : Blk w' g t vs := h.below hb h.lt
theorem Blk.grown {row : Option Nat} (h : Blk w g t vs) (hb : w.grownBy w' row) (hg : some g ≠ row) : Blk w' g t vs := (hb.block g h.lt hg).trans h
theorem Blk.put (h : Blk w g t vs) (i : Nat) (u : Value) : Blk (w.setCell ⟨g, i, none⟩ u) g t (vs.setIfInBounds i u) := by
 unfold Blk at h ⊢;simp [World.setCell, Array.getElem?_modify, h]
theorem Blk.far (h : Blk w g t vs) {p : Addr} (hp : g ≠ p.block) (u : Value) : Blk (w.setCell p u) g t vs := (Below.heap_setCell w p u g hp).trans h
end
end Go.Proofs.YthlhchaoedcdbaaGreatDoor.Mem
/- Texts as lists of bytes, of no program: what is joined, cut, compared and turned of a text, in words of its bytes. -/
namespace Go.Proofs.YthlhchaoedcdbaaGreatDoor.Mem
open Go.RowKit
def bts (s : ByteArray) : List Nat := s.data.toList.map (·.toNat)
def txt (l : List Nat) : ByteArray := ⟨(l.map UInt8.ofNat).toArray⟩
theorem length_bts (s : ByteArray) : (bts s).length = s.size := by simp [bts]
theorem txt_bts (s : ByteArray) : txt (bts s) = s := by
 cases s with
 | mk d =>
   have e : ((UInt8.ofNat ∘ fun x : UInt8 => x.toNat) : UInt8 → UInt8) = id := (by funext u; simp [Function.comp]);simp only [txt, bts, List.map_map];rw [e, List.map_id]
theorem bts_txt (l : List Nat) (h : ∀ b ∈ l, b < 256) : bts (txt l) = l := by
 simp only [bts, txt, List.map_map]
 conv => rhs; rw [← List.map_id l]
 refine List.map_congr_left fun b hb => ?_;have := h b hb;simp [Function.comp, UInt8.toNat_ofNat', Nat.mod_eq_of_lt this]
theorem bts_inj {a b : ByteArray} (h : bts a = bts b) : a = b := by rw [← txt_bts a, ← txt_bts b, h]
theorem bts_extract (s : ByteArray) (i j : Nat) : bts (s.extract i j) = ((bts s).drop i).take (j - i) := by
 simp only [bts, Lib.extract_data, List.map_take, List.map_drop]
theorem bts_tail (s : ByteArray) (i : Nat) : bts (s.extract i s.size) = (bts s).drop i := by
 rw [bts_extract, List.take_of_length_le];rw [List.length_drop, length_bts];exact Nat.le_refl _
theorem eq_tell (a b : ByteArray) : (a.toList == b.toList) = decide (bts a = bts b) := by
 rw [Lib.toList_data, Lib.toList_data];by_cases h : bts a = bts b
 · cases bts_inj h
   simp
 · simp only [h, decide_false]
   rw [beq_eq_false_iff_ne];intro e;exact h (by simp only [bts, e])
theorem at_bts (s : ByteArray) (i : Nat) (h : i < s.size) : (s[i]'h).toNat = (bts s).getD i 0 := by
 have h' : i < s.data.size := h;have e : s.data[i]? = some s.data[i] := Array.getElem?_eq_getElem h';simp [bts, List.getD, ByteArray.getElem_eq_getElem_data, e]
theorem get_bts (s : ByteArray) (i : Nat) : (s.get! i).toNat = (bts s).getD i 0 := by
 by_cases h : i < s.size
 · rw [← at_bts s i h]
   simp [ByteArray.get!, getElem!_pos, h];rfl
 · simp [ByteArray.get!, bts, List.getD, getElem!_neg, h]
   rfl
theorem run_text {P : Program} {w : World} (src dst e : TypeId) (hs : P.underlying src = some (.slice e)) (he : P.underlying e = some (.int .u8)) (hd : P.underlying dst = some .string)
 {A : Option Addr} {n c : Nat} {bs : List Nat} (hr : Rd w A n c (cs bs)) : (convert src dst (.slice A n c)).run P w = .ok (.string (txt bs)) w := by
 have hl := hr.len;rw [length_cs] at hl;rcases A with _ | ad
 · have h0 := hr.none0 rfl
   have hb : bs = [] := List.eq_nil_of_length_eq_zero (by omega);subst hb;rw [run_convert_bytes_nil w src e hs he _ _ dst hd];rfl
 · have hcs : cs bs = (bs.map fun b => ((b : Nat) : Int)).map (Value.int .u8) := by simp [cs, List.map_map, Function.comp_def]
   have h1 := run_loadCells_list (P := P) w ad (cs bs) (hr.cells ad rfl);rw [length_cs, hl, hcs] at h1;rw [run_convert_bytes_string w src dst e _ n c hs he hd, run_bytesToString w _ n c _ h1, foldl_push_bytes];simp [txt, List.map_map, Function.comp_def, ByteArray.empty, ByteArray.emptyWithCapacity];rfl
end Go.Proofs.YthlhchaoedcdbaaGreatDoor.Mem
/- A region that draws its order and only reads, beside calls that keep all that lay in the world when it began, of no program: one walk, in the text's order. -/
namespace Go.Proofs.YthlhchaoedcdbaaGreatDoor
open Go.RowKit Mem
structure BelBy (w : World) where
 W : World
 h : Below w.heap.size w W
instance (w : World) : Inhabited (BelBy w) := ⟨⟨w, Below.refl _ _⟩⟩
theorem wp_region_bel {P : Program} {id : Nat} {Q : Exit → Act → World → Prop} {a : Act} {w : World} {l : List Oper} (hm : P.follows .mixedOrders = true) (hB : Region.lexB .any l.toArray = true)
 (h : wpQuiet P l.toArray (fun w' => ∃ p : BelBy w, w' = p.W) (fun a' => ∀ w', (∃ p : BelBy w, w' = p.W) → Q .normal a' w') l a) : (Code.region id l.toArray true).wp P Q a w :=
 wp_region_quiet (C := fun w' => ∃ p : BelBy w, w' = p.W) hm hB ⟨⟨w.drewN 1, below_drewN (Below.refl _ _) 1⟩, rfl⟩ (by simpa using h)
theorem Calls.bel_of {P : Program} {f : FuncId} {args : Array Value} {w : World} {p : BelBy w} {v : Value} (h : Calls P f args p.W fun e w' => e = .returned v ∧ Below p.W.heap.size p.W w') :
 Calls P f args p.W fun e w'' => e = .returned v ∧ ∃ p' : BelBy w, w'' = p'.W :=
 h.mono fun _ w' ⟨he, hb⟩ => ⟨he, ⟨w', bel_trans p.h hb⟩, rfl⟩
theorem BelBy.cell {w : World} (p : BelBy w) {a : Addr} {v : Value} (hb : a.block < w.heap.size) (h : w.cell? a = some v) : p.W.cell? a = some v := (p.h.cell hb).trans h
theorem wpQuiet_skip {P : Program} {ops : Array Oper} {C : World → Prop} {Q : Act → Prop} {a : Act} {o : Oper} {rest : List Oper} (hw : Region.wanted o (yielded ops a.tmps) = false) (h : wpQuiet P ops C Q rest (a.put o.dst undef)) : wpQuiet P ops C Q (o :: rest) a := by
 unfold wpQuiet;rw [if_neg (by rw [hw]; simp)];exact h
end Go.Proofs.YthlhchaoedcdbaaGreatDoor
/- A region that draws its order, under a condition on the world, of no program: an operation that is taken first, its temporary by its number; one that its guard doesn't want. -/
namespace Go.Proofs.YthlhchaoedcdbaaGreatDoor
theorem held_take {P : Program} {ops : Array Oper} {Q : Exit → Act → World → Prop} {md : Region.Mode} {S : World → Prop} {i d : Nat} {oi : Oper} {v : Value} {fuel : Nat} {listed : Array Bool} {a : Act} {w : World} (hi : ops[i]? = some oi) (hd : oi.dst = some d)
 (hs : Region.noSelect ops = true) (hf : Region.free md ops listed i = true) (hr : (Region.ready md ops listed).contains i = true)
 (hQ : ∀ c a w, Q (.panic c) (a.put oi.dst v) w → Q (.panic c) a w) (hw : Region.wanted oi (yielded ops a.tmps) = true) (hy : ∀ w, S w → (execOp a.eval oi).run P w = .ok (.value v) w) (hS : S w)
 (h : wpAnyH P md ops Q S fuel (listed.setIfInBounds i true) { a with tmps := a.tmps.setIfInBounds d v } w) : wpAnyH P md ops Q S (fuel + 1) listed a w :=
 wpAnyH_take hi hs hf hr hQ (Or.inl ⟨hw, hy⟩) hS (by rw [hd]; exact h)
theorem held_skip {P : Program} {ops : Array Oper} {Q : Exit → Act → World → Prop} {md : Region.Mode} {S : World → Prop} {i d : Nat} {oi : Oper} {fuel : Nat} {listed : Array Bool} {a : Act} {w : World} (hi : ops[i]? = some oi) (hd : oi.dst = some d)
 (hs : Region.noSelect ops = true) (hf : Region.free md ops listed i = true) (hr : (Region.ready md ops listed).contains i = true)
 (hQ : ∀ c a w, Q (.panic c) (a.put oi.dst undef) w → Q (.panic c) a w) (hw : Region.wanted oi (yielded ops a.tmps) = false) (hS : S w)
 (h : wpAnyH P md ops Q S fuel (listed.setIfInBounds i true) { a with tmps := a.tmps.setIfInBounds d undef } w) : wpAnyH P md ops Q S (fuel + 1) listed a w :=
 wpAnyH_take hi hs hf hr hQ (Or.inr ⟨hw, rfl⟩) hS (by rw [hd]; exact h)
theorem hs_take {P : Program} {ops : Array Oper} {Q : Exit → Act → World → Prop} {md : Region.Mode} {S : World → Prop} (i d : Nat) {oi : Oper} (v : Value) {fuel : Nat} {listed : Array Bool} {a : Act} {w : World} (hi : ops[i]? = some oi) (hd : oi.dst = some d)
 (hk : (Region.noSelect ops && (Region.free md ops listed i && ((Region.ready md ops listed).contains i && Region.wanted oi (yielded ops a.tmps)))) = true)
 (hQ : ∀ c a w, Q (.panic c) (a.put oi.dst v) w → Q (.panic c) a w) (hy : ∀ w, S w → (execOp a.eval oi).run P w = .ok (.value v) w) (hS : S w)
 (h : wpAnyH P md ops Q S fuel (listed.setIfInBounds i true) { a with tmps := a.tmps.setIfInBounds d v } w) : wpAnyH P md ops Q S (fuel + 1) listed a w := by
 rw [Bool.and_eq_true, Bool.and_eq_true, Bool.and_eq_true] at hk;exact held_take hi hd hk.1 hk.2.1 hk.2.2.1 hQ hk.2.2.2 hy hS h
theorem n0 {α : Type} (l : List α) (i : Nat) (a : α) : l.toArray.setIfInBounds i a = (l.set i a).toArray := List.setIfInBounds_toArray ..
theorem n1 {α : Type} (x a : α) (l : List α) : (x :: l).set 0 a = a :: l := rfl
theorem n2 {α : Type} (x a : α) (l : List α) (i : Nat) : (x :: l).set (i + 1) a = x :: l.set i a := rfl
end Go.Proofs.YthlhchaoedcdbaaGreatDoor
