/-
  Texts of earlier layers, as one.
-/
import Derived.WalkKit
import Derived.Lib.Hide
import Derived.Laws.AppendOwnNone
import Derived.OpenShut
import Derived.Deep.QuietTactic
import Derived.BigQuiet
import Derived.Lib.ConvBytes
import Derived.Lib.AppendStr
import Derived.Laws.BytesArg
import Derived.Lib.Strings
import Derived.Deep.Quiet
import Derived.Deep.RegionHeld
import Derived.Laws.Tables
import Derived.Laws.AppendOwn
import Derived.Lib.BitFns
import Derived.Deep.AppendLies
/- Words for memory, of no program: a slice value that reads as a list of one-cell values ('Rd'), what keeps that, and an append onto a row of the call's own of whatever source ('wpList_append_rd'). -/
namespace Go.Proofs.YtkejjdoaljoooaaGreatDoor.Mem
open Go.RowKit
theorem add_block (a : Addr) (n : Nat) : (a.add n).block = a.block := by unfold Addr.add; split <;> rfl
theorem add_add (a : Addr) (i j : Nat) : (a.add i).add j = a.add (i + j) := by
 unfold Addr.add;by_cases hi : i = 0 <;> by_cases hj : j = 0 <;> simp [hi, hj, Nat.add_assoc]
def cs (bs : List Nat) : List Value := bs.map fun (b : Nat) => Value.int .u8 (b : Int)
def us (vs : List Nat) : List Value := vs.map fun (b : Nat) => Value.int .u64 (b : Int)
theorem length_cs (bs : List Nat) : (cs bs).length = bs.length := by simp [cs]
theorem cs_append (a b : List Nat) : cs (a ++ b) = cs a ++ cs b := by simp [cs]
theorem cs_take (a : List Nat) (k : Nat) : (cs a).take k = cs (a.take k) := by simp [cs, List.map_take]
theorem cs_drop (a : List Nat) (k : Nat) : (cs a).drop k = cs (a.drop k) := by simp [cs, List.map_drop]
theorem cs_one (bs : List Nat) : ∀ u ∈ cs bs, u.oneCell' = true := by
 intro u hu;obtain ⟨_, _, rfl⟩ := List.mem_map.1 hu;rfl
theorem cs_at (bs : List Nat) (k : Nat) (h : k < bs.length) : (cs bs)[k]? = some (.int .u8 ((bs[k] : Nat) : Int)) := by
 simp [cs, List.getElem?_eq_getElem h]
structure Rd (w : World) (A : Option Addr) (n c : Nat) (xs : List Value) : Prop where
 len : xs.length = n
 le : n ≤ c
 cap : c ≤ maxLen
 nil : A = none → c = 0
 spot : 0 < n → ∃ ad, A = some ad ∧ ad.block < w.heap.size ∧ ∀ j u, xs[j]? = some u → w.cell? (ad.add j) = some u
section
variable {w w' : World} {A : Option Addr} {n c : Nat} {xs : List Value}
theorem Rd.nil_ (w : World) : Rd w none 0 0 [] := ⟨rfl, Nat.le_refl _, by simp [maxLen], fun _ => rfl, fun h => absurd h (by omega)⟩
theorem Rd.at_ {k : Nat} (h : Rd w A n c xs) (hk : k < n) : ∃ ad u, A = some ad ∧ ad.block < w.heap.size ∧ xs[k]? = some u ∧ w.cell? (ad.add k) = some u := by
 obtain ⟨ad, e, hb, hc⟩ := h.spot (by omega);have hl : k < xs.length := by have := h.len; omega
 exact ⟨ad, xs[k], e, hb, List.getElem?_eq_getElem hl, hc k _ (List.getElem?_eq_getElem hl)⟩
theorem Rd.keep (h : Rd w A n c xs) (hs : w.heap.size ≤ w'.heap.size) (hk : ∀ p : Addr, p.block < w.heap.size → w'.cell? p = w.cell? p) : Rd w' A n c xs :=
 ⟨h.len, h.le, h.cap, h.nil, fun hn => by
  obtain ⟨ad, e, hb, hc⟩ := h.spot hn;exact ⟨ad, e, by omega, fun j u hu => (hk _ (by rw [add_block]; exact hb)).trans (hc j u hu)⟩⟩
theorem Rd.below (h : Rd w A n c xs) (hb : Below w.heap.size w w') : Rd w' A n c xs := h.keep hb.size fun _ hp => hb.cell hp
theorem Rd.alloc (h : Rd w A n c xs) (o : Obj) : Rd (w.alloc o) A n c xs := h.keep (by simp) fun p hp => World.cell?_alloc_lt w o p hp
theorem Rd.drewN (h : Rd w A n c xs) (k : Nat) : Rd (w.drewN k) A n c xs := ⟨h.len, h.le, h.cap, h.nil, h.spot⟩
theorem Rd.drew (h : Rd w A n c xs) : Rd w.drew A n c xs := ⟨h.len, h.le, h.cap, h.nil, h.spot⟩
theorem Rd.take (h : Rd w A n c xs) {k : Nat} (hk : k ≤ n) : Rd w A k c (xs.take k) :=
 ⟨by rw [List.length_take, h.len]; omega, by have := h.le; omega, h.cap, h.nil, fun hk0 => by
  obtain ⟨ad, e, hb, hc⟩ := h.spot (by omega);refine ⟨ad, e, hb, fun j u hu => hc j u ?_⟩;rw [List.getElem?_take] at hu;split at hu
  · exact hu
  · cases hu⟩
theorem Rd.drop (h : Rd w A n c xs) {k : Nat} (hk : k ≤ n) : Rd w (if c = k then A else A.map (·.add (k * 1))) (n - k) (c - k) (xs.drop k) := by
 have h1 := h.le;have h2 := h.cap;refine ⟨by rw [List.length_drop, h.len], by omega, by omega, fun e => ?_, fun hn => ?_⟩
 · split at e
   · have := h.nil e; omega
   · have := h.nil (by simpa using e); omega
 · obtain ⟨ad, rfl, hb, hcell⟩ := h.spot (by omega)
   rw [if_neg (by omega)];refine ⟨ad.add (k * 1), rfl, by rw [add_block]; exact hb, fun j u hu => ?_⟩;rw [add_add];exact hcell _ u (by rw [← hu, List.getElem?_drop, Nat.mul_one])
def cutA (A : Option Addr) (c k : Nat) : Option Addr := if c = k then A else A.map (·.add (k * 1))
theorem Rd.cut (h : Rd w A n c xs) {k : Nat} (hk : k ≤ n) : Rd w (cutA A c k) (n - k) (c - k) (xs.drop k) := h.drop hk
theorem Rd.of_own {base : Nat} {e : TypeId} {v : Value} (h : w.ownsRow base e 1 v n xs) : ∃ A c, v = .slice A n c ∧ Rd w A n c xs := by
 have hl := h.1;rcases h.2 with ⟨rfl, rfl⟩ | ⟨g, cap, cur, rfl, hb, hg, hnc, hm, hs, ht⟩
 · exact ⟨none, 0, rfl, by simpa using hl, Nat.le_refl _, by simp [maxLen], fun _ => rfl, fun h => absurd h (by omega)⟩
 · exact ⟨some ⟨g, 0, none⟩, cap, rfl, by simpa using hl, hnc, hm, (fun e => by cases e), fun _ => ⟨_, rfl, (Array.getElem?_eq_some_iff.1 hg).1, h.cells (g := g) rfl⟩⟩
end
theorem Rd.none0 {w : World} {A : Option Addr} {n c : Nat} {xs : List Value} (h : Rd w A n c xs) : A = none → n = 0 ∧ c = 0 := fun e => by
 have := h.nil e; have := h.le; omega
theorem Rd.cells {w : World} {A : Option Addr} {n c : Nat} {xs : List Value} (h : Rd w A n c xs) : ∀ ad, A = some ad → ∀ j u, xs[j]? = some u → w.cell? (ad.add j) = some u := by
 intro ad e j u hu;have hj : j < n := by rw [← h.len]; exact (List.getElem?_eq_some_iff.1 hu).1
 obtain ⟨ad', e', _, hc⟩ := h.spot (by omega);cases e.symm.trans e';exact hc j u hu
theorem Rd.byte {w : World} {A : Option Addr} {n c k : Nat} {bs : List Nat} (h : Rd w A n c (cs bs)) (hk : k < n) : ∃ ad b, A = some ad ∧ bs[k]? = some b ∧ w.cell? (ad.add k) = some (.int .u8 (b : Int)) := by
 obtain ⟨ad, u, e, _, hx, hc⟩ := h.at_ hk;have hl := h.len;rw [length_cs] at hl;rw [cs_at bs k (by omega)] at hx;cases hx;exact ⟨ad, _, e, List.getElem?_eq_getElem (by omega), hc⟩
theorem ownsRow_below {w w' : World} {base : Nat} {e : TypeId} {size : Nat} {v : Value} {n : Nat} {xs : List Value} (h : w.ownsRow base e size v n xs) (hb : Below w.heap.size w w') : w'.ownsRow base e size v n xs := by
 refine ⟨h.1, ?_⟩;rcases h.2 with h | ⟨g, cap, cur, hv, hg, hh, r⟩
 · exact .inl h
 · exact .inr ⟨g, cap, cur, hv, hg, (hb.block g (Array.getElem?_eq_some_iff.1 hh).1).trans hh, r⟩
theorem below_drewN {B : Nat} {a w : World} (h : Below B a w) (n : Nat) : Below B a (w.drewN n) := ⟨h.os, h.tape, h.output, h.size, h.block⟩
theorem bel_trans {w w1 w2 : World} (h : Below w.heap.size w w1) (k : Below w1.heap.size w1 w2) : Below w.heap.size w w2 := h.trans (k.mono h.size)
theorem bel_alloc {w w1 : World} (h : Below w.heap.size w w1) (o : Obj) : Below w.heap.size w (w1.alloc o) := h.alloc h.size o
def Gives (w : World) (n : Nat) (bs : List Nat) (e : Ending) (w' : World) : Prop :=
 ∃ A c, e = .returned (.slice A n c) ∧ Rd w' A n c (cs bs) ∧ Below w.heap.size w w'
def Tells (b : Bool) (w : World) (e : Ending) (w' : World) : Prop := e = .returned (.bool b) ∧ Below w.heap.size w w'
theorem Rd.own {w : World} {base : Nat} {e : TypeId} {V : Option Addr} {n c : Nat} {xs : List Value} (h : w.ownsRow base e 1 (.slice V n c) n xs) : Rd w V n c xs := by
 obtain ⟨A, c', e, hr⟩ := Rd.of_own h;cases e;exact hr
theorem Rd.lit (w : World) (vs : List Value) (t : TypeId) (n : Nat) (hn : vs.length = n) (hm : n ≤ maxLen) : Rd (w.alloc (.cells vs.toArray t)) (some ⟨w.heap.size, 0, none⟩) n n vs :=
 ⟨hn, Nat.le_refl _, hm, (fun e => by cases e), fun _ => ⟨_, rfl, by simp, fun j u hu => by
  rw [Addr.add_lit, Nat.zero_add, cell_of_row _ _ _ _ _ _ (heap_alloc_new w _)];simpa using hu⟩⟩
theorem Rd.one (w : World) (v : Value) (t : TypeId) : Rd (w.alloc (.cells #[v] t)) (some ⟨w.heap.size, 0, none⟩) 1 1 [v] := Rd.lit w [v] t 1 rfl (by simp [maxLen])
theorem wpList_append_fits_rd {P : Program} {w : World} {ops : Array Oper} {rest : List Oper} {o : Oper} {a : Act} {Q : Exit → Act → World → Prop}
 (hg : o.guard = none) (s x : Operand) (t : TypeId) (hop : o.op = Op.call { callee := Callee.builtin Builtin.append, args := #[s, x], argTypes := #[t, t] })
 (base : Nat) (e : TypeId) (i : TypeInfo) (h1 : P.underlying t = some (.slice e)) (h2 : P.info? e = some i) (h4 : i.size = 1)
 (g k cap : Nat) (xs : List Value) (hs : a.eval s = .slice (some ⟨g, 0, none⟩) k cap) (hown : w.ownsRow base e 1 (.slice (some ⟨g, 0, none⟩) k cap) k xs)
 (A : Option Addr) (m c : Nat) (news : List Value) (hx : a.eval x = .slice A m c) (hr : Rd w A m c news) (h1c : ∀ u ∈ news, u.oneCell' = true) (b1 : k + m ≤ cap)
 (hK : ∀ w', w'.ownsRow base e 1 (.slice (some ⟨g, 0, none⟩) (k + m) cap) (k + m) (xs ++ news) → w.grownBy w' (some g) → wpList P ops Q rest (a.put o.dst (.slice (some ⟨g, 0, none⟩) (k + m) cap)) w') :
 wpList P ops Q (o :: rest) a w :=
 wpList_append_fits_any w hg s x t hop base e i 1 h1 h2 h4 g k cap xs hs hown A m c news hx (by rw [hr.len, Nat.mul_one]) hr.none0 hr.cells h1c b1 hK
theorem wpList_append_rd {P : Program} {w : World} {ops : Array Oper} {rest : List Oper} {o : Oper} {a : Act} {Q : Exit → Act → World → Prop} (hgd : o.guard = none) (s x : Operand) (t : TypeId)
 (ho : o.op = .call { callee := .builtin .append, args := #[s, x], argTypes := #[t, t] })
 (base : Nat) (e : TypeId) (i : TypeInfo) (z : Value) (bytes : Nat) (ht : P.underlying t = some (.slice e)) (hi : P.info? e = some i) (hz : i.zero = some z)
 (hsize : i.size = 1) (hby : i.bytes = bytes) (hzs : z.cells.size = 1)
 (V : Option Addr) (n cv : Nat) (xs : List Value) (hs : a.eval s = .slice V n cv) (hown : w.ownsRow base e 1 (.slice V n cv) n xs)
 (A : Option Addr) (m c : Nat) (news : List Value) (hx : a.eval x = .slice A m c) (hr : Rd w A m c news) (h1 : ∀ u ∈ news, u.oneCell' = true)
 (h63 : n + m ≤ maxLen) (hbytes : (n + m) * bytes ≤ 140737488355328) (hbase : base ≤ w.heap.size)
 (h : ∀ V' c' w', w'.ownsRow base e 1 (.slice V' (n + m) c') (n + m) (xs ++ news) → Below base w w' → wpList P ops Q rest (a.put o.dst (.slice V' (n + m) c')) w') : wpList P ops Q (o :: rest) a w := by
 rcases A with _ | ad
 · have hc : c = 0 := hr.nil rfl
   have hm : m = 0 := (by have := hr.le; omega);subst hc; subst hm;have hn : news = [] := List.eq_nil_of_length_eq_zero hr.len;subst hn;refine wpList_append_own_none hgd s x t ho base e i 1 ht hi _ n xs hs hown hx ?_;exact h V cv w (by simpa using hown) (Below.refl _ _)
 · refine wpList_append_own w hgd s x t ho base e i z 1 bytes ht hi hz hsize hby hzs (by omega) _ n xs hs hown ad m c news hx (by rw [hr.len, Nat.mul_one]) (hr.cells _ rfl) h1 h63 hbytes hbase
    fun v' w' hown' hg _ => ?_
   obtain ⟨V', c', rfl, _⟩ := Rd.of_own hown';exact h V' c' w' hown' ((Below.refl _ _).grown hg hbase fun k hk => (hown.lt k hk).1)
theorem run_cut {P : Program} (t : TypeId) (ht : P.underlying t = some (.slice (P.elem t))) (hsz : ∀ w : World, (sizeOf (P.elem t)).run P w = .ok 1 w) (A : Option Addr) (n c k : Nat) (hk : k ≤ n) (w : World) :
 (Instr.slice t (.slice A n c) (some (.int .i64 (k : Int))) none none).run P w = .ok (.slice (cutA A c k) (n - k) (c - k)) w := by
 rw [run_slice_l w t A n c ht .i64 (k : Int) (by omega) (by omega), hsz];simp [Result.andThen, sliced, cutA]
theorem size_alloc (w : World) (o : Obj) : (w.alloc o).heap.size = w.heap.size + 1 := by simp
def Blk (w : World) (g : Nat) (t : TypeId) (vs : Array Value) : Prop := w.heap[g]? = some (.cells vs t (0, 0))
section
variable {w w' : World} {g : Nat} {t : TypeId} {vs : Array Value}
theorem Blk.lt (h : Blk w g t vs) : g < w.heap.size := (Array.getElem?_eq_some_iff.1 h).1
theorem Blk.cell (h : Blk w g t vs) (i : Nat) : w.cell? ⟨g, i, none⟩ = vs[i]? := cell_of_row w g i vs t (0, 0) h
theorem Blk.soft (h : Blk w g t vs) (i : Nat) : w.frozen? ⟨g, i, none⟩ = false := by
 unfold Blk at h;simp [World.frozen?, h]
theorem Blk.new (w : World) (t : TypeId) (vs : Array Value) : Blk (w.alloc (.cells vs t)) w.heap.size t vs := heap_alloc_new w _
theorem Blk.drew (h : Blk w g t vs) : Blk w.drew g t vs := h
theorem Blk.drewN (h : Blk w g t vs) (k : Nat) : Blk (w.drewN k) g t vs := h
theorem Blk.alloc (h : Blk w g t vs) (o : Obj) : Blk (w.alloc o) g t vs := (Below.heap_alloc w o g h.lt).trans h
theorem Blk.below {B : Nat} (h : Blk w g t vs) (hb : Below B w w') (hg : g < B) : Blk w' g t vs := (hb.block g hg).trans h
theorem Blk.bel (h : Blk w g t vs) (hb : Below w.heap.size w w') : Blk w' g t vs := h.below hb h.lt
theorem Blk.grown {row : Option Nat} (h : Blk w g t vs) (hb : w.grownBy w' row) (hg : some g ≠ row) : Blk w' g t vs := (hb.block g h.lt hg).trans h
theorem Blk.put (h : Blk w g t vs) (i : Nat) (u : Value) : Blk (w.setCell ⟨g, i, none⟩ u) g t (vs.setIfInBounds i u) := by
 unfold Blk at h ⊢;simp [World.setCell, Array.getElem?_modify, h]
theorem Blk.far (h : Blk w g t vs) {p : Addr} (hp : g ≠ p.block) (u : Value) : Blk (w.setCell p u) g t vs := (Below.heap_setCell w p u g hp).trans h
end
end Go.Proofs.YtkejjdoaljoooaaGreatDoor.Mem
/- Texts as lists of bytes, of no program: what is joined, cut, compared and turned of a text, in words of its bytes. -/
namespace Go.Proofs.YtkejjdoaljoooaaGreatDoor.Mem
open Go.RowKit
def bts (s : ByteArray) : List Nat := s.data.toList.map (·.toNat)
def txt (l : List Nat) : ByteArray := ⟨(l.map UInt8.ofNat).toArray⟩
theorem length_bts (s : ByteArray) : (bts s).length = s.size := by simp [bts]
theorem size_txt (l : List Nat) : (txt l).size = l.length := by
 show (txt l).data.size = _;simp [txt]
theorem bts_lt (s : ByteArray) : ∀ b ∈ bts s, b < 256 := by
 intro b hb;obtain ⟨u, _, rfl⟩ := List.mem_map.1 hb;exact u.toNat_lt
theorem txt_bts (s : ByteArray) : txt (bts s) = s := by
 cases s with
 | mk d =>
   have e : ((UInt8.ofNat ∘ fun x : UInt8 => x.toNat) : UInt8 → UInt8) = id := (by funext u; simp [Function.comp]);simp only [txt, bts, List.map_map];rw [e, List.map_id]
theorem bts_txt (l : List Nat) (h : ∀ b ∈ l, b < 256) : bts (txt l) = l := by
 simp only [bts, txt, List.map_map]
 conv => rhs; rw [← List.map_id l]
 refine List.map_congr_left fun b hb => ?_;have := h b hb;simp [Function.comp, UInt8.toNat_ofNat', Nat.mod_eq_of_lt this]
theorem bts_inj {a b : ByteArray} (h : bts a = bts b) : a = b := by rw [← txt_bts a, ← txt_bts b, h]
theorem bts_extract (s : ByteArray) (i j : Nat) : bts (s.extract i j) = ((bts s).drop i).take (j - i) := by
 simp only [bts, Lib.extract_data, List.map_take, List.map_drop]
theorem bts_tail (s : ByteArray) (i : Nat) : bts (s.extract i s.size) = (bts s).drop i := by
 rw [bts_extract, List.take_of_length_le];rw [List.length_drop, length_bts];exact Nat.le_refl _
theorem eq_tell (a b : ByteArray) : (a.toList == b.toList) = decide (bts a = bts b) := by
 rw [Lib.toList_data, Lib.toList_data];by_cases h : bts a = bts b
 · cases bts_inj h
   simp
 · simp only [h, decide_false]
   rw [beq_eq_false_iff_ne];intro e;exact h (by simp only [bts, e])
theorem at_bts (s : ByteArray) (i : Nat) (h : i < s.size) : (s[i]'h).toNat = (bts s).getD i 0 := by
 have h' : i < s.data.size := h;have e : s.data[i]? = some s.data[i] := Array.getElem?_eq_getElem h';simp [bts, List.getD, ByteArray.getElem_eq_getElem_data, e]
theorem get_bts (s : ByteArray) (i : Nat) : (s.get! i).toNat = (bts s).getD i 0 := by
 by_cases h : i < s.size
 · rw [← at_bts s i h]
   simp [ByteArray.get!, getElem!_pos, h];rfl
 · simp [ByteArray.get!, bts, List.getD, getElem!_neg, h]
   rfl
theorem strCells_bts (s : ByteArray) : Lib.strCells s = cs (bts s) := by
 simp [Lib.strCells, cs, bts, List.map_map, Function.comp_def]
theorem run_text {P : Program} {w : World} (src dst e : TypeId) (hs : P.underlying src = some (.slice e)) (he : P.underlying e = some (.int .u8)) (hd : P.underlying dst = some .string)
 {A : Option Addr} {n c : Nat} {bs : List Nat} (hr : Rd w A n c (cs bs)) : (convert src dst (.slice A n c)).run P w = .ok (.string (txt bs)) w := by
 have hl := hr.len;rw [length_cs] at hl;rcases A with _ | ad
 · have h0 := hr.none0 rfl
   have hb : bs = [] := List.eq_nil_of_length_eq_zero (by omega);subst hb;rw [run_convert_bytes_nil w src e hs he _ _ dst hd];rfl
 · have hcs : cs bs = (bs.map fun b => ((b : Nat) : Int)).map (Value.int .u8) := by simp [cs, List.map_map, Function.comp_def]
   have h1 := run_loadCells_list (P := P) w ad (cs bs) (hr.cells ad rfl);rw [length_cs, hl, hcs] at h1;rw [run_convert_bytes_string w src dst e _ n c hs he hd, run_bytesToString w _ n c _ h1, foldl_push_bytes];simp [txt, List.map_map, Function.comp_def, ByteArray.empty, ByteArray.emptyWithCapacity];rfl
end Go.Proofs.YtkejjdoaljoooaaGreatDoor.Mem
/- A region that draws its order and only reads, beside calls that keep all that lay in the world when it began, of no program: one walk, in the text's order. -/
namespace Go.Proofs.YtkejjdoaljoooaaGreatDoor
open Go.RowKit Mem
structure BelBy (w : World) where
 W : World
 h : Below w.heap.size w W
instance (w : World) : Inhabited (BelBy w) := ⟨⟨w, Below.refl _ _⟩⟩
theorem BelBy.cell {w : World} (p : BelBy w) {a : Addr} {v : Value} (hb : a.block < w.heap.size) (h : w.cell? a = some v) : p.W.cell? a = some v := (p.h.cell hb).trans h
theorem wpQuiet_skip {P : Program} {ops : Array Oper} {C : World → Prop} {Q : Act → Prop} {a : Act} {o : Oper} {rest : List Oper} (hw : Region.wanted o (yielded ops a.tmps) = false) (h : wpQuiet P ops C Q rest (a.put o.dst undef)) : wpQuiet P ops C Q (o :: rest) a := by
 unfold wpQuiet;rw [if_neg (by rw [hw]; simp)];exact h
end Go.Proofs.YtkejjdoaljoooaaGreatDoor
/- A region that draws its order, under a condition on the world, of no program: an operation that is taken first, its temporary by its number; one that its guard doesn't want. -/
namespace Go.Proofs.YtkejjdoaljoooaaGreatDoor
theorem held_take {P : Program} {ops : Array Oper} {Q : Exit → Act → World → Prop} {md : Region.Mode} {S : World → Prop} {i d : Nat} {oi : Oper} {v : Value} {fuel : Nat} {listed : Array Bool} {a : Act} {w : World} (hi : ops[i]? = some oi) (hd : oi.dst = some d)
 (hs : Region.noSelect ops = true) (hf : Region.free md ops listed i = true) (hr : (Region.ready md ops listed).contains i = true)
 (hQ : ∀ c a w, Q (.panic c) (a.put oi.dst v) w → Q (.panic c) a w) (hw : Region.wanted oi (yielded ops a.tmps) = true) (hy : ∀ w, S w → (execOp a.eval oi).run P w = .ok (.value v) w) (hS : S w)
 (h : wpAnyH P md ops Q S fuel (listed.setIfInBounds i true) { a with tmps := a.tmps.setIfInBounds d v } w) : wpAnyH P md ops Q S (fuel + 1) listed a w :=
 wpAnyH_take hi hs hf hr hQ (Or.inl ⟨hw, hy⟩) hS (by rw [hd]; exact h)
theorem held_skip {P : Program} {ops : Array Oper} {Q : Exit → Act → World → Prop} {md : Region.Mode} {S : World → Prop} {i d : Nat} {oi : Oper} {fuel : Nat} {listed : Array Bool} {a : Act} {w : World} (hi : ops[i]? = some oi) (hd : oi.dst = some d)
 (hs : Region.noSelect ops = true) (hf : Region.free md ops listed i = true) (hr : (Region.ready md ops listed).contains i = true)
 (hQ : ∀ c a w, Q (.panic c) (a.put oi.dst undef) w → Q (.panic c) a w) (hw : Region.wanted oi (yielded ops a.tmps) = false) (hS : S w)
 (h : wpAnyH P md ops Q S fuel (listed.setIfInBounds i true) { a with tmps := a.tmps.setIfInBounds d undef } w) : wpAnyH P md ops Q S (fuel + 1) listed a w :=
 wpAnyH_take hi hs hf hr hQ (Or.inr ⟨hw, rfl⟩) hS (by rw [hd]; exact h)
theorem hs_take {P : Program} {ops : Array Oper} {Q : Exit → Act → World → Prop} {md : Region.Mode} {S : World → Prop} (i d : Nat) {oi : Oper} (v : Value) {fuel : Nat} {listed : Array Bool} {a : Act} {w : World} (hi : ops[i]? = some oi) (hd : oi.dst = some d)
 (hk : (Region.noSelect ops && (Region.free md ops listed i && ((Region.ready md ops listed).contains i && Region.wanted oi (yielded ops a.tmps)))) = true)
 (hQ : ∀ c a w, Q (.panic c) (a.put oi.dst v) w → Q (.panic c) a w) (hy : ∀ w, S w → (execOp a.eval oi).run P w = .ok (.value v) w) (hS : S w)
 (h : wpAnyH P md ops Q S fuel (listed.setIfInBounds i true) { a with tmps := a.tmps.setIfInBounds d v } w) : wpAnyH P md ops Q S (fuel + 1) listed a w := by
 rw [Bool.and_eq_true, Bool.and_eq_true, Bool.and_eq_true] at hk;exact held_take hi hd hk.1 hk.2.1 hk.2.2.1 hQ hk.2.2.2 hy hS h
theorem n0 {α : Type} (l : List α) (i : Nat) (a : α) : l.toArray.setIfInBounds i a = (l.set i a).toArray := List.setIfInBounds_toArray ..
theorem n1 {α : Type} (x a : α) (l : List α) : (x :: l).set 0 a = a :: l := rfl
theorem n2 {α : Type} (x a : α) (l : List α) (i : Nat) : (x :: l).set (i + 1) a = x :: l.set i a := rfl
end Go.Proofs.YtkejjdoaljoooaaGreatDoor
/- A value of many cells stored over a block that is known whole, in one step: the world behind it is a new one, of which the block and all others are known; of no program. -/
namespace Go.Proofs.YtkejjdoaljoooaaGreatDoor.Mem
open Go.RowKit
theorem blk_setRow {w : World} {g : Nat} {t : TypeId} {old : Array Value} (h : Blk w g t old) (cells : Array Value) : Blk (w.setRow g cells) g t cells ∧ w.grownBy (w.setRow g cells) (some g) := by
 unfold Blk at *;refine ⟨by simp [World.setRow, Array.getElem?_modify, h], rfl, rfl, rfl, by simp [World.setRow], fun k hk hne => ?_⟩;simp only [World.setRow, Array.getElem?_modify];rw [if_neg (fun e => hne (by rw [e]))]
theorem wp_store_blk {P : Program} {o : Oper} {a : Act} {w : World} {K : Act → World → Prop} {Q : Exit → Act → World → Prop} (ty : TypeId) (x y : Operand) (ho : o.op = .store ty x y)
 (g : Nat) (t : TypeId) (old cells : Array Value) (hx : a.eval x = .pointer (some ⟨g, 0, none⟩)) (hy : a.eval y = .agg cells) (hb : Blk w g t old) (hi : (P.info? ty).map (·.size) = some cells.size)
 (hold : old.size = cells.size) (h1 : cells.all (·.oneCell') = true)
 (h : ∀ w', Blk w' g t cells → w.grownBy w' (some g) → K (a.put o.dst undef) w') : o.wp P a w K Q :=
 wp_store_row ty x y ho g cells hx hy t old hb hi hold h1 (h _ (blk_setRow hb cells).1 (blk_setRow hb cells).2)
theorem wpList_store_blk {P : Program} {ops : Array Oper} {rest : List Oper} {o : Oper} {a : Act} {w : World} {Q : Exit → Act → World → Prop} (hgd : o.guard = none) (ty : TypeId) (x y : Operand) (ho : o.op = .store ty x y)
 (g : Nat) (t : TypeId) (old cells : Array Value) (hx : a.eval x = .pointer (some ⟨g, 0, none⟩)) (hy : a.eval y = .agg cells) (hb : Blk w g t old) (hi : (P.info? ty).map (·.size) = some cells.size)
 (hold : old.size = cells.size) (h1 : cells.all (·.oneCell') = true)
 (h : ∀ w', Blk w' g t cells → w.grownBy w' (some g) → wpList P ops Q rest (a.put o.dst undef) w') : wpList P ops Q (o :: rest) a w :=
 wpList_plain hgd fun _ hK => wp_store_blk ty x y ho g t old cells hx hy hb hi hold h1 fun w' h2 h3 => hK _ _ (h w' h2 h3)
theorem step_store_blk {P : Program} {ops : Array Oper} {o : Oper} {a : Act} {w : World} {K : Act → World → Prop} {Q : Exit → Act → World → Prop} {E : Prop} (hgd : o.guard = none) (ty : TypeId) (x y : Operand) (ho : o.op = .store ty x y)
 (g : Nat) (t : TypeId) (old cells : Array Value) (hx : a.eval x = .pointer (some ⟨g, 0, none⟩)) (hy : a.eval y = .agg cells) (hb : Blk w g t old) (hi : (P.info? ty).map (·.size) = some cells.size)
 (hold : old.size = cells.size) (h1 : cells.all (·.oneCell') = true)
 (h : ∀ w', Blk w' g t cells → w.grownBy w' (some g) → K (a.put o.dst undef) w') : if Region.wanted o (yielded ops a.tmps) = true then Oper.wp P o a w K Q else E := by
 have hw : Region.wanted o (yielded ops a.tmps) = true := by simp [Region.wanted, hgd]
 rw [if_pos hw];exact wp_store_blk ty x y ho g t old cells hx hy hb hi hold h1 h
theorem wpList_load_blk {P : Program} {ops : Array Oper} {rest : List Oper} {o : Oper} {a : Act} {w : World} {Q : Exit → Act → World → Prop} (hgd : o.guard = none) (ty : TypeId) (x : Operand) (ho : o.op = .load ty x)
 (g : Nat) (t : TypeId) (vs : Array Value) (d : TypeDesc) (hx : a.eval x = .pointer (some ⟨g, 0, none⟩)) (hb : Blk w g t vs) (hu : P.underlying ty = some d) (hd : (match d with | .struct _ | .array _ _ => true | _ => false) = true) (hi : (P.info? ty).map (·.size) = some vs.size)
 (h : wpList P ops Q rest (a.put o.dst (.agg vs)) w) : wpList P ops Q (o :: rest) a w :=
 wpList_plain hgd fun _ hK => by
  unfold Oper.wp execOp;simp only [ho, hx, Instr.loadAt, Instr.sureAddr, Sem.run_bind, Sem.run_pure, Result.andThen_ok, run_loadVar_row w g t ty vs (0, 0) d hb hu hd hi];exact hK _ _ h
theorem wpList_load_blk_w {P : Program} {ops : Array Oper} {rest : List Oper} {o : Oper} {a : Act} {w : World} {Q : Exit → Act → World → Prop} (ty : TypeId) (x : Operand) (ho : o.op = .load ty x)
 (g : Nat) (t : TypeId) (vs : Array Value) (d : TypeDesc) (hx : a.eval x = .pointer (some ⟨g, 0, none⟩)) (hw : Region.wanted o (yielded ops a.tmps) = true) (hb : Blk w g t vs) (hu : P.underlying ty = some d) (hd : (match d with | .struct _ | .array _ _ => true | _ => false) = true) (hi : (P.info? ty).map (·.size) = some vs.size)
 (h : wpList P ops Q rest (a.put o.dst (.agg vs)) w) : wpList P ops Q (o :: rest) a w :=
 wpList_step fun _ hK => by
  rw [if_pos hw];unfold Oper.wp execOp;simp only [ho, hx, Instr.loadAt, Instr.sureAddr, Sem.run_bind, Sem.run_pure, Result.andThen_ok, run_loadVar_row w g t ty vs (0, 0) d hb hu hd hi];exact hK _ _ h
theorem run_load_blk {P : Program} {oi : Oper} {a : Act} {S : World → Prop} (ty : TypeId) (x : Operand) (ho : oi.op = .load ty x)
 (g : Nat) (t : TypeId) (vs : Array Value) (d : TypeDesc) (hx : a.eval x = .pointer (some ⟨g, 0, none⟩)) (hS : ∀ w, S w → Blk w g t vs) (hu : P.underlying ty = some d) (hd : (match d with | .struct _ | .array _ _ => true | _ => false) = true) (hi : (P.info? ty).map (·.size) = some vs.size) :
 ∀ w, S w → (execOp a.eval oi).run P w = .ok (.value (.agg vs)) w := fun w hw => by
 unfold execOp;simp only [ho, hx, Instr.loadAt, Instr.sureAddr, Sem.run_bind, Sem.run_pure, Result.andThen_ok, run_loadVar_row w g t ty vs (0, 0) d (hS w hw) hu hd hi]
theorem results_blk {P : Program} {fn : Func} {t : Tmp} {ty : TypeId} (h : fn.results = #[.cell t ty]) (tmps : Array Value) (w : World) (g : Nat) (t' : TypeId) (vs : Array Value) (d : TypeDesc) (hp : tmps.getD t undef = .pointer (some ⟨g, 0, none⟩)) (hb : Blk w g t' vs)
 (hu : P.underlying ty = some d) (hd : (match d with | .struct _ | .array _ _ => true | _ => false) = true) (hi : (P.info? ty).map (·.size) = some vs.size) : (results fn tmps).run P w = .ok (.agg vs) w := by
 have hl := run_loadVar_row w g t' ty vs (0, 0) d hb hu hd hi;have hp' : tmps[t]?.getD undef = .pointer (some ⟨g, 0, none⟩) := by simpa [Array.getD_eq_getD_getElem?] using hp
 simp [results, h, hp', hl, asAddr]
theorem results_blk_tmp {P : Program} {fn : Func} {t u : Tmp} {ty : TypeId} (h : fn.results = #[.cell t ty, .tmp u]) (tmps : Array Value) (w : World) (g : Nat) (t' : TypeId) (vs : Array Value) (d : TypeDesc) (v : Value) (hp : tmps.getD t undef = .pointer (some ⟨g, 0, none⟩)) (hv : tmps.getD u undef = v) (hb : Blk w g t' vs)
 (hu : P.underlying ty = some d) (hd : (match d with | .struct _ | .array _ _ => true | _ => false) = true) (hi : (P.info? ty).map (·.size) = some vs.size) : (results fn tmps).run P w = .ok (.tuple #[.agg vs, v]) w := by
 have hl := run_loadVar_row w g t' ty vs (0, 0) d hb hu hd hi;have hp' : tmps[t]?.getD undef = .pointer (some ⟨g, 0, none⟩) := by simpa [Array.getD_eq_getD_getElem?] using hp
 have hv' : tmps[u]?.getD undef = v := by simpa [Array.getD_eq_getD_getElem?] using hv
 simp [results, h, hp', hv', hl, asAddr]
end Go.Proofs.YtkejjdoaljoooaaGreatDoor.Mem
/- Plain mathematics of layer 1 (num), without any program: the form of a number as a list of bytes, and how it is read back. Every fact is for numbers below 2^64 where it says so. -/
namespace Go.Proofs.YtkejjdoaljoooaaGreatDoor.Num
def nby (v : Nat) : Nat := (Lib.bitLen v + 7) / 8
def size (v : Nat) : Nat := if v < 248 then 1 else 1 + nby v
def beTo (k v i : Nat) : List Nat := (List.range i).map fun j => v / 256 ^ (k - 1 - j) % 256
def put (v : Nat) : List Nat := if v < 248 then [v] else (247 + nby v) :: beTo (nby v) v (nby v)
def val (l : List Nat) : Nat := l.foldl (fun a b => a * 256 + b) 0
def take (l : List Nat) : Nat × Nat × Nat :=
 match l with
 | [] => (0, 0, 2)
 | b :: r => if b < 248 then (b, 1, 0) else if r.length < b - 247 then (0, 0, 2)
   else if size (val (r.take (b - 247))) ≠ 1 + (b - 247) then (0, 0, 4) else (val (r.take (b - 247)), 1 + (b - 247), 0)
theorem bitLen_pos (v : Nat) (h : 1 ≤ v) (hv : v < 2 ^ 64) : 1 ≤ Lib.bitLen v := by
 rw [Lib.bitLen_half v (by omega) hv]; omega
theorem bitLen_lt : ∀ (k v : Nat), v < 2 ^ 64 → Lib.bitLen v ≤ k → v < 2 ^ k
 | 0, v, hv, h => by
   rcases Nat.eq_zero_or_pos v with h0 | h0
   · subst h0; simp
   · have := bitLen_pos v h0 hv; omega
 | k + 1, v, hv, h => by
   rcases Nat.eq_zero_or_pos v with h0 | h0
   · subst h0; exact Nat.two_pow_pos _
   · rw [Lib.bitLen_half v (by omega) hv] at h
     have := bitLen_lt k (v / 2) (by omega) (by omega);rw [Nat.pow_succ]; omega
theorem pow256 (k : Nat) : 256 ^ k = 2 ^ (8 * k) := by rw [Nat.pow_mul]
theorem nby_le (v : Nat) (hv : v < 2 ^ 64) : nby v ≤ 8 := by
 have := Lib.bitLen_le v 64 (by omega) hv;unfold nby; omega
theorem nby_pos (v : Nat) (h : 1 ≤ v) (hv : v < 2 ^ 64) : 1 ≤ nby v := by
 have := bitLen_pos v h hv;unfold nby; omega
theorem lt_nby (v : Nat) (hv : v < 2 ^ 64) : v < 256 ^ nby v := by
 rw [pow256];exact bitLen_lt _ v hv (by unfold nby; omega)
theorem length_beTo (k v i : Nat) : (beTo k v i).length = i := by simp [beTo]
theorem beTo_succ (k v i : Nat) : beTo k v (i + 1) = beTo k v i ++ [v / 256 ^ (k - 1 - i) % 256] := by
 simp [beTo, List.range_succ]
theorem beTo_lt (k v i : Nat) : ∀ b ∈ beTo k v i, b < 256 := by
 intro b hb;obtain ⟨j, _, rfl⟩ := List.mem_map.1 hb;exact Nat.mod_lt _ (by omega)
theorem val_snoc (l : List Nat) (b : Nat) : val (l ++ [b]) = val l * 256 + b := by simp [val]
theorem snoc_ind {α : Type} {P : List α → Prop} (h0 : P []) (h1 : ∀ l a, P l → P (l ++ [a])) : ∀ l, P l := by
 intro l;rw [← List.reverse_reverse l];induction l.reverse with
 | nil => exact h0
 | cons a l ih => rw [List.reverse_cons]; exact h1 _ _ ih
theorem val_lt : ∀ (l : List Nat), (∀ b ∈ l, b < 256) → val l < 256 ^ l.length := by
 refine snoc_ind (fun _ => by simp [val]) ?_
 · intro l b ih h
   have h1 := ih (fun x hx => h x (by simp [hx]));have h2 := h b (by simp);rw [val_snoc, List.length_append, List.length_singleton, Nat.pow_succ];omega
theorem val_beTo (k v : Nat) : ∀ i, i ≤ k → val (beTo k v i) = v / 256 ^ (k - i) % 256 ^ i
 | 0, _ => by simp [beTo, val, Nat.mod_one]
 | i + 1, h => by
   rw [beTo_succ, val_snoc, val_beTo k v i (by omega)];have e : k - i = (k - (i + 1)) + 1 := (by omega);have e2 : k - 1 - i = k - (i + 1) := (by omega);rw [e, e2, Nat.pow_succ, ← Nat.div_div_eq_div_mul, Nat.pow_succ, Nat.mul_comm (256 ^ i) 256, Nat.mod_mul];omega
theorem val_be (k v : Nat) (h : v < 256 ^ k) : val (beTo k v k) = v := by
 rw [val_beTo k v k (Nat.le_refl _)];simp [Nat.mod_eq_of_lt h]
theorem length_put (v : Nat) : (put v).length = size v := by
 unfold put size;split
 · rfl
 · simp [length_beTo]; omega
theorem size_pos (v : Nat) : 1 ≤ size v := by unfold size; split <;> omega
theorem size_le (v : Nat) (hv : v < 2 ^ 64) : size v ≤ 9 := by
 have := nby_le v hv;unfold size; split <;> omega
theorem put_lt (v : Nat) (hv : v < 2 ^ 64) : ∀ b ∈ put v, b < 256 := by
 have := nby_le v hv;intro b hb;unfold put at hb;split at hb
 · simp at hb; omega
 · rcases List.mem_cons.1 hb with h | h
   · omega
   · exact beTo_lt _ _ _ b h
theorem take_put (v : Nat) (hv : v < 2 ^ 64) (r : List Nat) : take (put v ++ r) = (v, size v, 0) := by
 unfold put;by_cases h : v < 248
 · simp [take, h, size]
 · have h1 := nby_pos v (by omega) hv
   have h2 := nby_le v hv
   have e : (beTo (nby v) v (nby v) ++ r).take (nby v) = beTo (nby v) v (nby v) := by
    rw [List.take_append_of_le_length (by rw [length_beTo]; exact Nat.le_refl _), List.take_of_length_le (by rw [length_beTo]; exact Nat.le_refl _)]
   have e2 : 247 + nby v - 247 = nby v := (by omega);have e3 : ¬ 247 + nby v < 248 := (by omega);have e4 : ¬ (beTo (nby v) v (nby v) ++ r).length < nby v := (by rw [List.length_append, length_beTo]; omega);rw [if_neg h];simp only [List.cons_append, take, if_neg e3, e2, if_neg e4, e, val_be _ _ (lt_nby v hv)];have e5 : size v = 1 + nby v := (by simp [size, h]);rw [if_neg (by simpa using e5), e5]
theorem take_val_lt (r : List Nat) (k : Nat) (h : ∀ b ∈ r, b < 256) : val (r.take k) < 256 ^ (r.take k).length :=
 val_lt _ fun b hb => h b (List.mem_of_mem_take hb)
theorem beTo_div (k v : Nat) : ∀ i, i ≤ k → beTo (k + 1) v i = beTo k (v / 256) i
 | 0, _ => rfl
 | i + 1, h => by
   rw [beTo_succ, beTo_succ, beTo_div k v i (by omega)];have e : k + 1 - 1 - i = (k - 1 - i) + 1 := (by omega);rw [e, Nat.pow_succ, Nat.mul_comm, ← Nat.div_div_eq_div_mul]
theorem beTo_val : ∀ (l : List Nat), (∀ b ∈ l, b < 256) → beTo l.length (val l) l.length = l := by
 refine snoc_ind (fun _ => rfl) ?_
 · intro l b ih h
   have hb := h b (by simp);have e := ih (fun x hx => h x (by simp [hx]));rw [List.length_append, List.length_singleton, beTo_succ, beTo_div _ _ _ (Nat.le_refl _), val_snoc];have e1 : (val l * 256 + b) / 256 = val l := (by omega);rw [e1, e];simp;omega
theorem put_same (b : Nat) (r : List Nat) (hb : 248 ≤ b) (hb2 : b < 256) (hl : b - 247 ≤ r.length) (h : ∀ x ∈ r, x < 256) :
 (put (val (r.take (b - 247))) = (b :: r).take (1 + (b - 247)) ↔ size (val (r.take (b - 247))) = 1 + (b - 247)) := by
 have hlen : (r.take (b - 247)).length = b - 247 := by rw [List.length_take]; omega
 have hlt : ∀ x ∈ r.take (b - 247), x < 256 := fun x hx => h x (List.mem_of_mem_take hx);have e : (b :: r).take (1 + (b - 247)) = b :: r.take (b - 247) := by rw [Nat.add_comm, List.take_succ_cons]
 rw [e];constructor
 · intro hp
   have := congrArg List.length hp;rw [length_put, List.length_cons, hlen] at this;omega
 · intro hs
   generalize hv : val (r.take (b - 247)) = v at *
   have h248 : ¬ v < 248 := by
    intro h; simp [size, h] at hs; omega
   have hn : nby v = b - 247 := (by simp [size, h248] at hs; omega);rw [put, if_neg h248, hn];have := beTo_val (r.take (b - 247)) hlt;rw [hlen, hv] at this;rw [this, show 247 + (b - 247) = b from by omega]
end Go.Proofs.YtkejjdoaljoooaaGreatDoor.Num
/- Plain mathematics of layer 3 (codec), without any program: items, their forms as lists of bytes, what is wrong with one, and how bytes are read back; what is put is read as it was, what is read is put as it was, cut off it is short. -/
namespace Go.Proofs.YtkejjdoaljoooaaGreatDoor.Cod
inductive It where
 | mk (kind : Int) (n : Nat) (s : ByteArray) (l : List It)
namespace It
def kind : It → Int | mk k _ _ _ => k
def num : It → Nat | mk _ n _ _ => n
def str : It → ByteArray | mk _ _ s _ => s
def kids : It → List It | mk _ _ _ l => l
end It
def bts (s : ByteArray) : List Nat := s.data.toList.map (·.toNat)
def txt (l : List Nat) : ByteArray := ⟨(l.map UInt8.ofNat).toArray⟩
theorem length_bts (s : ByteArray) : (bts s).length = s.size := by simp [bts]
theorem size_txt (l : List Nat) : (txt l).size = l.length := by
 show (txt l).data.size = _;simp [txt]
theorem bts_lt (s : ByteArray) : ∀ b ∈ bts s, b < 256 := by
 intro b hb;obtain ⟨u, _, rfl⟩ := List.mem_map.1 hb;exact u.toNat_lt
theorem txt_bts (s : ByteArray) : txt (bts s) = s := by
 cases s with
 | mk d =>
   have e : ((UInt8.ofNat ∘ fun x : UInt8 => x.toNat) : UInt8 → UInt8) = id := (by funext u; simp [Function.comp]);simp only [txt, bts, List.map_map];rw [e, List.map_id]
theorem bts_txt (l : List Nat) (h : ∀ b ∈ l, b < 256) : bts (txt l) = l := by
 simp only [bts, txt, List.map_map]
 conv => rhs; rw [← List.map_id l]
 refine List.map_congr_left fun b hb => ?_;have := h b hb;simp [Function.comp, UInt8.toNat_ofNat', Nat.mod_eq_of_lt this]
theorem size_zero (s : ByteArray) : s.size = 0 ↔ s = ByteArray.empty := by
 constructor
 · intro h
   have h1 : bts s = [] := List.eq_nil_of_length_eq_zero (by rw [length_bts]; exact h);have h2 := txt_bts s;rw [h1] at h2;rw [← h2];rfl
 · rintro rfl; rfl
mutual
def wt : It → Nat
 | .mk _ _ s l => 1 + s.size + wts l
def wts : List It → Nat
 | [] => 0
 | x :: r => wt x + wts r
end
theorem wts_append (a b : List It) : wts (a ++ b) = wts a + wts b := by
 induction a with
 | nil => simp [wts]
 | cons x a ih => simp [wts, ih]; omega
theorem wts_one (x : It) : wts [x] = wt x := by simp [wts]
theorem wt_pos (x : It) : 1 ≤ wt x := by cases x; simp [wt]; omega
theorem wt_mem {x : It} {l : List It} (h : x ∈ l) : wt x ≤ wts l := by
 induction l with
 | nil => cases h
 | cons y l ih =>
   rcases List.mem_cons.1 h with rfl | h
   · simp [wts]
   · have := ih h; simp [wts]; omega
theorem length_wts (l : List It) : l.length ≤ wts l := by
 induction l with
 | nil => simp
 | cons x l ih => have := wt_pos x; simp [wts]; omega
theorem wt_eq (x : It) : wt x = 1 + x.str.size + wts x.kids := by cases x; simp [wt, It.str, It.kids]
theorem It.ind {P : It → Prop} (h : ∀ x : It, (∀ y ∈ x.kids, P y) → P x) (x : It) : P x := by
 suffices H : ∀ n (x : It), wt x ≤ n → P x from H _ x (Nat.le_refl _)
 intro n;induction n with
 | zero => intro x hx; have := wt_pos x; omega
 | succ n ih =>
   intro x hx;refine h x fun y hy => ih y ?_;have := wt_mem hy;rw [wt_eq] at hx;omega
def formed (x : It) : Bool :=
 if x.kind = 0 then decide (x.str.size = 0) && decide (x.kids.length = 0) else if x.kind = 1 then decide (x.num = 0) && decide (x.kids.length = 0)
 else if x.kind = 2 then decide (x.num = 0) && decide (x.str.size = 0) else false
mutual
def chk : It → Nat → Nat
 | .mk k n s l, d => if formed (.mk k n s l) = false then 4 else if 15 < d then 12 else chks l (d + 1)
def chks : List It → Nat → Nat
 | [], _ => 0
 | x :: r, d => if chk x d = 0 then chks r d else chk x d
end
theorem chk_eq (x : It) (d : Nat) : chk x d = if formed x = false then 4 else if 15 < d then 12 else chks x.kids (d + 1) := by cases x; simp [chk, It.kids]
theorem chks_append (a b : List It) (d : Nat) : chks (a ++ b) d = if chks a d = 0 then chks b d else chks a d := by
 induction a with
 | nil => simp [chks]
 | cons x a ih => simp only [List.cons_append, chks, ih]; split <;> simp_all
theorem chks_one (x : It) (d : Nat) : chks [x] d = chk x d := by simp only [chks]; split <;> simp_all
theorem chks_zero {l : List It} {d : Nat} : chks l d = 0 ↔ ∀ x ∈ l, chk x d = 0 := by
 induction l with
 | nil => simp [chks]
 | cons y l ih =>
   simp only [chks, List.mem_cons, forall_eq_or_imp];split
   · simp_all
   · simp_all
mutual
def form : It → List Nat
 | .mk k n s l => if k = 0 then 0 :: Num.put n else if k = 1 then 1 :: (Num.put s.size ++ bts s) else 2 :: (Num.put l.length ++ forms l)
def forms : List It → List Nat
 | [] => []
 | x :: r => form x ++ forms r
end
theorem forms_append (a b : List It) : forms (a ++ b) = forms a ++ forms b := by
 induction a with
 | nil => simp [forms]
 | cons x a ih => simp [forms, ih]
theorem forms_one (x : It) : forms [x] = form x := by simp [forms]
theorem form0 {x : It} (h : x.kind = 0) : form x = 0 :: Num.put x.num := by cases x; simp [It.kind] at h; simp [form, h, It.num]
theorem form1 {x : It} (h : x.kind = 1) : form x = 1 :: (Num.put x.str.size ++ bts x.str) := by cases x; simp [It.kind] at h; simp [form, h, It.str]
theorem form2 {x : It} (h : x.kind = 2) : form x = 2 :: (Num.put x.kids.length ++ forms x.kids) := by cases x; simp [It.kind] at h; simp [form, h, It.kids]
theorem length_form_pos (x : It) : 2 ≤ (form x).length := by
 cases x with
 | mk k n s l =>
   simp only [form];have a := Num.size_pos n;have b := Num.size_pos s.size;have c := Num.size_pos l.length;split
   · simp [Num.length_put]; omega
   · split <;> simp [Num.length_put] <;> omega
theorem length_forms (l : List It) : l.length ≤ (forms l).length := by
 induction l with
 | nil => simp
 | cons x l ih => have := length_form_pos x; simp [forms]; omega
def Fit (x : It) : Prop := x.num < 2 ^ 64 ∧ x.str.size < 2 ^ 63 ∧ x.kids.length < 2 ^ 63 ∧ ∀ y, y ∈ x.kids → Fit y
termination_by wt x
decreasing_by
 rename_i h;have := wt_mem h;rw [wt_eq x];omega
theorem fit_eq (x : It) : Fit x ↔ x.num < 2 ^ 64 ∧ x.str.size < 2 ^ 63 ∧ x.kids.length < 2 ^ 63 ∧ ∀ y, y ∈ x.kids → Fit y := by
 conv => lhs; unfold Fit
mutual
theorem length_form_le : ∀ (x : It), Fit x → (form x).length ≤ 10 * wt x
 | .mk k n s l, hf => by
   rw [fit_eq] at hf;simp only [It.num, It.str, It.kids] at hf;have a := Num.size_le n hf.1;have b := Num.size_le s.size (by omega);have c := Num.size_le l.length (by omega);have d := length_forms_le l hf.2.2.2;simp only [form, wt];split
   · simp [Num.length_put]; omega
   · split <;> simp [Num.length_put, length_bts] <;> omega
theorem length_forms_le : ∀ (l : List It), (∀ y, y ∈ l → Fit y) → (forms l).length ≤ 10 * wts l
 | [], _ => by simp [forms]
 | x :: r, hf => by
   have a := length_form_le x (hf x (by simp));have b := length_forms_le r fun y hy => hf y (by simp [hy]);simp [forms, wts]; omega
end
inductive Res (α : Type) where
 | bad (e p : Nat)
 | ok (x : α) (p : Nat)
def rows (f : Nat → Res It) : Nat → Nat → Res (List It)
 | 0, p => .ok [] p
 | k + 1, p => match rows f k p with
   | .bad e q => .bad e q
   | .ok xs q => match f q with
     | .bad e q' => .bad e q'
     | .ok x q' => .ok (xs ++ [x]) q'
def body (b : List Nat) (f : Nat → Res It) (kind v q : Nat) : Res It :=
 if kind = 0 then .ok (.mk 0 v ByteArray.empty []) q
 else if b.length - q < v then .bad 2 q
 else if kind = 1 then .ok (.mk 1 0 (txt ((b.drop q).take v)) []) (q + v)
 else match rows f v q with
  | .bad e q' => .bad e q'
  | .ok xs q' => .ok (.mk 2 0 ByteArray.empty xs) q'
def one (b : List Nat) (f : Nat → Res It) (p : Nat) : Res It :=
 if 2 < b.getD p 0 then .bad 4 p
 else if (Num.take (b.drop (p + 1))).2.2 ≠ 0 then .bad (Num.take (b.drop (p + 1))).2.2 (p + 1)
 else body b f (b.getD p 0) (Num.take (b.drop (p + 1))).1 (p + 1 + (Num.take (b.drop (p + 1))).2.1)
def tk (b : List Nat) : Nat → Nat → Res It
 | 0, p => if b.length ≤ p then .bad 2 p else .bad 12 p
 | r + 1, p => if b.length ≤ p then .bad 2 p else one b (tk b r) p
def get (b : List Nat) : Res It :=
 if 1048576 < b.length then .bad 12 0 else match tk b 16 0 with
  | .bad e p => .bad e p
  | .ok x q => if q < b.length then .bad 3 q else .ok x 0
theorem rows_cons (f : Nat → Res It) (k p : Nat) : rows f (k + 1) p = match f p with
 | .bad e q => .bad e q
 | .ok x q => match rows f k q with
   | .bad e q' => .bad e q'
   | .ok xs q' => .ok (x :: xs) q' := by
 induction k with
 | zero => simp only [rows]; cases f p <;> simp
 | succ k ih =>
   rw [rows, ih];cases hp : f p with
   | bad e q => simp
   | ok x q =>
     simp only;rw [rows];cases rows f k q with
     | bad e q' => simp
     | ok xs q' =>
       simp only;cases f q' <;> simp
theorem rows_bad (f : Nat → Res It) (k p e q : Nat) (h : rows f k p = .bad e q) : ∀ m, rows f (k + m) p = .bad e q
 | 0 => h
 | m + 1 => by rw [← Nat.add_assoc, rows, rows_bad f k p e q h m]
theorem rows_forms {b : List Nat} {f : Nat → Res It} (l : List It) (hf : ∀ x ∈ l, ∀ p suf, b.drop p = form x ++ suf → f p = .ok x (p + (form x).length)) :
 ∀ p suf, b.drop p = forms l ++ suf → rows f l.length p = .ok l (p + (forms l).length) := by
 induction l with
 | nil => intro p suf _; simp [rows, forms]
 | cons x l ih =>
   intro p suf h;simp only [forms, List.append_assoc] at h;have h1 := hf x (by simp) p _ h
   have h2 := ih (fun y hy => hf y (by simp [hy])) (p + (form x).length) suf (by
    rw [← List.drop_drop, h, List.drop_left])
   rw [List.length_cons, rows_cons, h1];simp only [h2];simp [forms, Nat.add_assoc]
theorem drop_cons_facts {b : List Nat} {p k : Nat} {r : List Nat} (h : b.drop p = k :: r) : p < b.length ∧ b.getD p 0 = k ∧ b.drop (p + 1) = r := by
 have hl : p < b.length := by
  rcases Nat.lt_or_ge p b.length with hlt | hge
  · exact hlt
  · rw [List.drop_of_length_le hge] at h; cases h
 rw [List.drop_eq_getElem_cons hl] at h;injection h with h1 h2;exact ⟨hl, by simp [List.getD, List.getElem?_eq_getElem hl, h1], h2⟩
theorem formed_cases {x : It} (h : formed x ≠ false) : (∃ n, x = .mk 0 n ByteArray.empty []) ∨ (∃ s, x = .mk 1 0 s []) ∨ (∃ l, x = .mk 2 0 ByteArray.empty l) := by
 rw [ne_eq, Bool.not_eq_false] at h;unfold formed at h;by_cases hk : x.kind = 0
 · rw [if_pos hk] at h
   simp only [Bool.and_eq_true, decide_eq_true_eq, List.length_eq_zero_iff] at h;obtain ⟨k, n, s, l⟩ := x;simp only [It.kind, It.str, It.kids] at hk h;left;exact ⟨n, by rw [hk, (size_zero s).1 h.1, h.2]⟩
 · rw [if_neg hk] at h
   by_cases hk1 : x.kind = 1
   · rw [if_pos hk1] at h
     simp only [Bool.and_eq_true, decide_eq_true_eq, List.length_eq_zero_iff] at h;obtain ⟨k, n, s, l⟩ := x;simp only [It.kind, It.num, It.kids] at hk1 h;right; left;exact ⟨s, by rw [hk1, h.1, h.2]⟩
   · rw [if_neg hk1] at h
     by_cases hk2 : x.kind = 2
     · rw [if_pos hk2] at h
       simp only [Bool.and_eq_true, decide_eq_true_eq] at h;obtain ⟨k, n, s, l⟩ := x;simp only [It.kind, It.num, It.str] at hk2 h;right; right;exact ⟨l, by rw [hk2, h.1, (size_zero s).1 h.2]⟩
     · rw [if_neg hk2] at h
       cases h
theorem tk_head {b : List Nat} {p k v r : Nat} {rest : List Nat} (h : b.drop p = k :: (Num.put v ++ rest)) (hk : k ≤ 2) (hv : v < 2 ^ 64) :
 tk b (r + 1) p = body b (tk b r) k v (p + 1 + Num.size v) ∧ b.drop (p + 1 + Num.size v) = rest ∧ b.length - (p + 1 + Num.size v) = rest.length := by
 obtain ⟨hlt, hg, hdr⟩ := drop_cons_facts h;have e : b.drop (p + 1 + Num.size v) = rest := by rw [← List.drop_drop, hdr, ← Num.length_put, List.drop_left]
 refine ⟨?_, e, by have := congrArg List.length e; simpa using this⟩;rw [tk, if_neg (by omega), one, hg, hdr, Num.take_put v hv, if_neg (by omega), if_neg (by simp)]
theorem wt_le_form (x : It) : ∀ d, chk x d = 0 → wt x ≤ (form x).length := by
 induction x using It.ind with
 | h x ih =>
 intro d h;rw [chk_eq] at h;split at h
 · omega
 rename_i hf;split at h
 · omega
 have hz := chks_zero.1 h
 have hl : wts x.kids ≤ (forms x.kids).length := by
  clear h hf;generalize x.kids = l at ih hz;induction l with
  | nil => simp [wts]
  | cons y l ihl =>
    have a := ih y (by simp) (d + 1) (hz y (by simp));have b := ihl (fun x hx => ih x (by simp [hx])) (fun x hx => hz x (by simp [hx]));simp [wts, forms]; omega
 rcases formed_cases hf with ⟨n, rfl⟩ | ⟨s, rfl⟩ | ⟨l, rfl⟩ <;> simp only [It.kids, wt, form, wts, forms] at hl ⊢
 · have := Num.size_pos n
   simp [Num.length_put];try omega
 · have := Num.size_pos s.size
   simp [Num.length_put, length_bts];try omega
 · have := Num.size_pos l.length
   simp [Num.length_put];try omega
theorem tk_form (x : It) : ∀ (b : List Nat) (r d p : Nat) (suf : List Nat), chk x d = 0 → Fit x → r + d = 16 → b.drop p = form x ++ suf → tk b r p = .ok x (p + (form x).length) := by
 induction x using It.ind with
 | h x ih =>
 intro b r d p suf hc hfit hr hb;rw [chk_eq] at hc;split at hc
 · omega
 rename_i hfo;split at hc
 · omega
 obtain ⟨r, rfl⟩ : ∃ r', r = r' + 1 := ⟨r - 1, by omega⟩
 have hkid := chks_zero.1 hc;rw [fit_eq] at hfit;obtain ⟨hf1, hf2, hf3, hf4⟩ := hfit;rcases formed_cases hfo with ⟨n, rfl⟩ | ⟨s, rfl⟩ | ⟨l, rfl⟩ <;> simp only [It.num, It.str, It.kids] at hf1 hf2 hf3 hf4 ih hkid
 · rw [form0 rfl] at hb ⊢
   simp only [It.num, List.cons_append] at hb ⊢;obtain ⟨h1, h2, h3⟩ := tk_head (r := r) hb (by omega) hf1;rw [h1, body, if_pos rfl];simp [Num.length_put]; omega
 · rw [form1 rfl] at hb ⊢
   simp only [It.str, List.cons_append, List.append_assoc] at hb ⊢;obtain ⟨h1, h2, h3⟩ := tk_head (r := r) hb (by omega) (show s.size < 2 ^ 64 by omega);rw [List.length_append, length_bts] at h3;rw [h1, body, if_neg (by omega), if_neg (by omega), if_pos rfl, h2, ← length_bts s, List.take_left, txt_bts];simp [Num.length_put, length_bts]; omega
 · rw [form2 rfl] at hb ⊢
   simp only [It.kids, List.cons_append, List.append_assoc] at hb ⊢;obtain ⟨h1, h2, h3⟩ := tk_head (r := r) hb (by omega) (show l.length < 2 ^ 64 by omega);rw [List.length_append] at h3;have hle := length_forms l;rw [h1, body, if_neg (by omega), if_neg (by omega), if_neg (by omega)];rw [rows_forms l (fun x hx p suf h => ih x hx b r (d + 1) p suf (hkid x hx) (hf4 x hx) (by omega) h) _ _ h2];simp [Num.length_put]; omega
theorem take_ok (l : List Nat) (hb : ∀ x ∈ l, x < 256) (h : (Num.take l).2.2 = 0) :
 Num.put (Num.take l).1 = l.take (Num.take l).2.1 ∧ (Num.take l).2.1 = Num.size (Num.take l).1 ∧ (Num.take l).2.1 ≤ l.length ∧ (Num.take l).1 < 2 ^ 64 := by
 cases l with
 | nil => simp [Num.take] at h
 | cons b r =>
   have hb0 := hb b (by simp);have hr : ∀ x ∈ r, x < 256 := fun x hx => hb x (by simp [hx]);by_cases h1 : b < 248
   · have e : Num.take (b :: r) = (b, 1, 0) := by simp [Num.take, h1]
     rw [e];simp [Num.put, Num.size, h1];omega
   · by_cases h2 : r.length < b - 247
     · have e : Num.take (b :: r) = (0, 0, 2) := by simp [Num.take, h1, h2]
       rw [e] at h; cases h
     · by_cases h3 : Num.size (Num.val (r.take (b - 247))) = 1 + (b - 247)
       · have e : Num.take (b :: r) = (Num.val (r.take (b - 247)), 1 + (b - 247), 0) := by
          simp only [Num.take, if_neg h1, if_neg h2];rw [if_neg (by simpa using h3)]
         simp only [e];have hps := (Num.put_same b r (by omega) hb0 (by omega) hr).2 h3;have hlr : 1 + (b - 247) ≤ (b :: r).length := (by rw [List.length_cons]; omega);refine ⟨hps, h3.symm, hlr, ?_⟩;clear hps h3 e;show Num.val (r.take (b - 247)) < 2 ^ 64;have hv := Num.take_val_lt r (b - 247) hr;have h8 : 256 ^ (r.take (b - 247)).length ≤ 256 ^ 8 := Nat.pow_le_pow_right (by omega) (by rw [List.length_take]; omega);have e8 : (2 : Nat) ^ 64 = 256 ^ 8 := (by decide);rw [e8];exact Nat.lt_of_lt_of_le hv h8
       · have e : Num.take (b :: r) = (0, 0, 4) := by
          simp only [Num.take, if_neg h1, if_neg h2];rw [if_pos (by simpa using h3)]
         rw [e] at h; cases h
def seg (b : List Nat) (p q : Nat) : List Nat := (b.drop p).take (q - p)
theorem seg_append (b : List Nat) {p q r : Nat} (h1 : p ≤ q) (h2 : q ≤ r) : seg b p q ++ seg b q r = seg b p r := by
 unfold seg;rw [show r - p = (q - p) + (r - q) by omega, List.take_add, List.drop_drop, show p + (q - p) = q by omega]
theorem seg_self (b : List Nat) (p : Nat) : seg b p p = [] := by simp [seg]
theorem seg_one (b : List Nat) {p : Nat} (h : p < b.length) : seg b p (p + 1) = [b.getD p 0] := by
 simp only [seg, show p + 1 - p = 1 by omega];rw [List.drop_eq_getElem_cons h, List.take_succ_cons, List.take_zero, List.getD, List.getElem?_eq_getElem h];rfl
def Good (b : List Nat) (d p : Nat) (x : It) (q : Nat) : Prop := chk x d = 0 ∧ Fit x ∧ p < q ∧ q ≤ b.length ∧ form x = seg b p q
theorem rows_good {b : List Nat} {f : Nat → Res It} {d : Nat} (hf : ∀ p x q, f p = .ok x q → Good b d p x q) : ∀ k p xs q, p ≤ b.length → rows f k p = .ok xs q →
 xs.length = k ∧ chks xs d = 0 ∧ (∀ y, y ∈ xs → Fit y) ∧ p ≤ q ∧ q ≤ b.length ∧ forms xs = seg b p q := by
 intro k;induction k with
 | zero =>
   intro p xs q hp h;simp only [rows] at h;injection h with h1 h2;subst h1; subst h2;exact ⟨rfl, rfl, by simp, Nat.le_refl _, hp, by simp [forms, seg_self]⟩
 | succ k ih =>
   intro p xs q hp h;rw [rows] at h;cases hr : rows f k p with
   | bad e q' => rw [hr] at h; cases h
   | ok ys q1 =>
     rw [hr] at h;simp only at h;cases hq : f q1 with
     | bad e q' => rw [hq] at h; cases h
     | ok y q2 =>
       rw [hq] at h;simp only at h;injection h with h1 h2;subst h1; subst h2;obtain ⟨a1, a2, a3, a4, a5, a6⟩ := ih p ys q1 hp hr;obtain ⟨b1, b2, b3, b4, b5⟩ := hf q1 y q2 hq;refine ⟨by simp [a1], by rw [chks_append, if_pos a2, chks_one, b1], ?_, by omega, b4, ?_⟩
       · intro z hz
         rcases List.mem_append.1 hz with hz | hz
         · exact a3 z hz
         · rw [List.mem_singleton.1 hz]; exact b2
       · rw [forms_append, forms_one, a6, b5, seg_append b a4 (by omega)]
theorem tk_good {b : List Nat} (hb : ∀ x ∈ b, x < 256) (hl : b.length < 2 ^ 63) : ∀ r p x q, r ≤ 16 → tk b r p = .ok x q → Good b (16 - r) p x q := by
 intro r;induction r with
 | zero =>
   intro p x q _ h;rw [tk] at h;split at h <;> cases h
 | succ r ih =>
   intro p x q hr h;rw [tk] at h;split at h
   · cases h
   rename_i hp;rw [one] at h;split at h
   · cases h
   rename_i hk;split at h
   · cases h
   rename_i hn;obtain ⟨t1, t2, t3, t4⟩ := take_ok (b.drop (p + 1)) (fun x hx => hb x (List.mem_of_mem_drop hx)) (by simpa using hn);have t5 := Num.size_pos (Num.take (b.drop (p + 1))).1;rw [List.length_drop] at t3;rw [t2] at t1 t3 h;generalize (Num.take (b.drop (p + 1))).1 = v at *
   have hseg : seg b p (p + 1 + Num.size v) = b.getD p 0 :: Num.put v := by
    rw [← seg_append b (show p ≤ p + 1 by omega) (show p + 1 ≤ p + 1 + Num.size v by omega), seg_one b (by omega), t1, seg, show p + 1 + Num.size v - (p + 1) = Num.size v by omega];rfl
   have h16 : 16 - r = 16 - (r + 1) + 1 := (by omega);rw [body] at h;split at h
   · rename_i h0
     injection h with h1 h2;subst h1; subst h2;refine ⟨?_, ?_, by omega, by omega, ?_⟩
     · rw [chk_eq]
       simp [formed, It.kind, It.str, It.kids, chks]
     · rw [fit_eq]; simp [It.num, It.str, It.kids]; omega
     · rw [hseg, h0, form0 rfl]; rfl
   · split at h
     · cases h
     rename_i h0 hs;split at h
     · rename_i h1
       injection h with h2 h3;subst h2; subst h3;have hlen : ((b.drop (p + 1 + Num.size v)).take v).length = v := (by rw [List.length_take, List.length_drop]; omega);refine ⟨?_, ?_, by omega, by omega, ?_⟩
       · rw [chk_eq]
         simp [formed, It.kind, It.num, It.kids, chks]
       · rw [fit_eq]; simp [It.num, It.str, It.kids, size_txt, -List.length_take, hlen]; omega
       · rw [form1 rfl, ← seg_append b (show p ≤ p + 1 + Num.size v by omega) (Nat.le_add_right _ v), hseg, h1]
         simp only [It.str, size_txt, hlen];rw [bts_txt _ (fun x hx => hb x (List.mem_of_mem_drop (List.mem_of_mem_take hx)))];simp [seg, show p + 1 + Num.size v + v - (p + 1 + Num.size v) = v by omega]
     · rename_i h1
       cases hrw : rows (tk b r) v (p + 1 + Num.size v) with
       | bad e q' => rw [hrw] at h; cases h
       | ok xs q' =>
         rw [hrw] at h;simp only at h;injection h with h2 h3;subst h2; subst h3;obtain ⟨a1, a2, a3, a4, a5, a6⟩ := rows_good (d := 16 - r) (fun p x q h => ih p x q (by omega) h) v _ _ _ (by omega) hrw;refine ⟨?_, ?_, by omega, a5, ?_⟩
         · rw [chk_eq]
           simp only [It.kids];rw [if_neg (by simp [formed, It.kind, It.num, It.str]), if_neg (by omega), ← h16, a2]
         · rw [fit_eq]
           simp only [It.num, It.str, It.kids, a1];exact ⟨by omega, by show (0 : Nat) < _; omega, by omega, a3⟩
         · rw [form2 rfl, ← seg_append b (show p ≤ p + 1 + Num.size v by omega) a4, hseg]
           have : b.getD p 0 = 2 := (by omega);rw [this];simp only [It.kids, a1, a6];rfl
theorem get_form {x : It} (hx : chk x 0 = 0) (fx : Fit x) (hl : (form x).length ≤ 1048576) : get (form x) = .ok x 0 := by
 have h1 := tk_form x (form x) 16 0 0 [] hx fx rfl (by simp);rw [get, if_neg (by omega), h1];simp
theorem get_good {b : List Nat} {x : It} {q : Nat} (hb : ∀ x ∈ b, x < 256) (h : get b = .ok x q) : chk x 0 = 0 ∧ Fit x ∧ form x = b := by
 rw [get] at h;split at h
 · cases h
 rename_i hl;cases ht : tk b 16 0 with
 | bad e p => rw [ht] at h; cases h
 | ok y p =>
   rw [ht] at h;simp only at h;split at h
   · cases h
   · rename_i hp
     injection h with h1 h2;subst h1;obtain ⟨a1, a2, a3, a4, a5⟩ := tk_good hb (by omega) 16 0 y p (by omega) ht;refine ⟨a1, a2, ?_⟩;rw [a5, seg, List.drop_zero, List.take_of_length_le (by omega)]
mutual
def same : It → It → Bool
 | .mk k n s l, .mk k' n' s' l' => decide (k = k') && decide (n = n') && decide (s = s') && sames l l'
def sames : List It → List It → Bool
 | [], [] => true
 | x :: r, y :: t => same x y && sames r t
 | _, _ => false
end
theorem same_iff (x : It) : ∀ y, same x y = true ↔ x = y := by
 induction x using It.ind with
 | h x ih =>
 intro y;obtain ⟨k, n, s, l⟩ := x;obtain ⟨k', n', s', l'⟩ := y
 have hs : sames l l' = true ↔ l = l' := by
  simp only [It.kids] at ih;induction l generalizing l' with
  | nil => cases l' <;> simp [sames]
  | cons x l ihl =>
    cases l' with
    | nil => simp [sames]
    | cons y l' => simp [sames, ih x (by simp) y, ihl (fun x hx => ih x (by simp [hx])) l']
 simp [same, hs, and_assoc]
end Go.Proofs.YtkejjdoaljoooaaGreatDoor.Cod
/- Items and trees of nodes in memory, of no program's walk: 'Lies' (an item's list, with all that it leads to, lies at a slice), 'Row' (a slice holds these items), 'Node' (a value is the tree of a right item); what keeps them. -/
namespace Go.Proofs.YtkejjdoaljoooaaGreatDoor.Cod
open Go.RowKit Mem
theorem toList_nil (s : ByteArray) : s.toList = [] ↔ s.size = 0 := by
 rw [ByteArray.toList_eq, ← List.length_eq_zero_iff, Array.length_toList];exact Iff.rfl
def Spot (w : World) (ad : Addr) (y : It) (A : Option Addr) (c : Nat) : Prop :=
 w.cell? ad = some (.int .i64 y.kind) ∧ w.cell? ⟨ad.block, ad.off + 1, none⟩ = some (.int .u64 (y.num : Int)) ∧ w.cell? ⟨ad.block, ad.off + 2, none⟩ = some (.string y.str) ∧ w.cell? ⟨ad.block, ad.off + 3, none⟩ = some (.slice A y.kids.length c)
theorem wt_kid {x : It} {i : Nat} (h : i < x.kids.length) : wt x.kids[i] < wt x := by
 have := wt_mem (List.getElem_mem h);rw [wt_eq x];omega
def Lies (w : World) (S : Nat → Prop) (x : It) (A : Option Addr) (c : Nat) : Prop :=
 (-9223372036854775808 ≤ x.kind ∧ x.kind ≤ 9223372036854775807 ∧ x.num ≤ 18446744073709551615 ∧ x.str.size ≤ 140737488355328) ∧ (x.kids.length ≤ c ∧ c ≤ 9223372036854775807 ∧ (A = none → c = 0)) ∧
 ∀ i, (h : i < x.kids.length) → ∃ ad A' c', A = some ad ∧ S ad.block ∧ ad.block < w.heap.size ∧ Spot w (ad.add (i * 4)) x.kids[i] A' c' ∧ Lies w S x.kids[i] A' c'
termination_by wt x
decreasing_by exact wt_kid h
theorem lies_eq (w : World) (S : Nat → Prop) (x : It) (A : Option Addr) (c : Nat) : Lies w S x A c ↔
 (-9223372036854775808 ≤ x.kind ∧ x.kind ≤ 9223372036854775807 ∧ x.num ≤ 18446744073709551615 ∧ x.str.size ≤ 140737488355328) ∧ (x.kids.length ≤ c ∧ c ≤ 9223372036854775807 ∧ (A = none → c = 0)) ∧
 ∀ i, (h : i < x.kids.length) → ∃ ad A' c', A = some ad ∧ S ad.block ∧ ad.block < w.heap.size ∧ Spot w (ad.add (i * 4)) x.kids[i] A' c' ∧ Lies w S x.kids[i] A' c' := by
 conv => lhs; unfold Lies
def Row (w : World) (S : Nat → Prop) (A : Option Addr) (n c : Nat) (l : List It) : Prop :=
 l.length = n ∧ (n ≤ c ∧ c ≤ 9223372036854775807 ∧ (A = none → c = 0)) ∧
 ∀ i y, l[i]? = some y → ∃ ad A' c', A = some ad ∧ S ad.block ∧ ad.block < w.heap.size ∧ Spot w (ad.add (i * 4)) y A' c' ∧ Lies w S y A' c'
theorem Lies.row {w : World} {S : Nat → Prop} {x : It} {A : Option Addr} {c : Nat} (h : Lies w S x A c) : Row w S A x.kids.length c x.kids := by
 rw [lies_eq] at h;refine ⟨rfl, h.2.1, fun i y hy => ?_⟩;obtain ⟨hi, rfl⟩ := List.getElem?_eq_some_iff.1 hy;exact h.2.2 i hi
theorem Row.lies {w : World} {S : Nat → Prop} {k : Int} {n : Nat} {s : ByteArray} {l : List It} {A : Option Addr} {m c : Nat} (h : Row w S A m c l)
 (hk : -9223372036854775808 ≤ k ∧ k ≤ 9223372036854775807) (hn : n ≤ 18446744073709551615) (hs : s.size ≤ 140737488355328) : Lies w S (.mk k n s l) A c := by
 obtain ⟨rfl, h2, h3⟩ := h;rw [lies_eq];exact ⟨⟨hk.1, hk.2, hn, hs⟩, h2, fun i hi => h3 i _ (List.getElem?_eq_getElem hi)⟩
theorem Spot.keep {w w' : World} {ad : Addr} {y : It} {A : Option Addr} {c : Nat} (h : Spot w ad y A c) (hk : ∀ p : Addr, p.block = ad.block → w'.cell? p = w.cell? p) : Spot w' ad y A c :=
 ⟨(hk ad rfl).trans h.1, (hk ⟨ad.block, ad.off + 1, none⟩ rfl).trans h.2.1, (hk ⟨ad.block, ad.off + 2, none⟩ rfl).trans h.2.2.1, (hk ⟨ad.block, ad.off + 3, none⟩ rfl).trans h.2.2.2⟩
theorem Lies.keep {w w' : World} {S S' : Nat → Prop} (x : It) : ∀ {A : Option Addr} {c : Nat}, Lies w S x A c → (∀ b, S b → b < w.heap.size → S' b) → w.heap.size ≤ w'.heap.size →
 (∀ p : Addr, S p.block → p.block < w.heap.size → w'.cell? p = w.cell? p) → Lies w' S' x A c := by
 induction x using It.ind with
 | h x ih =>
 intro A c h hS hs hk;rw [lies_eq] at h ⊢;refine ⟨h.1, h.2.1, fun i hi => ?_⟩;obtain ⟨ad, A', c', e, hb, hlt, hsp, hl⟩ := h.2.2 i hi;exact ⟨ad, A', c', e, hS _ hb hlt, by omega, hsp.keep fun p hp => hk p (by rw [hp, add_block]; exact hb) (by rw [hp, add_block]; exact hlt), ih _ (List.getElem_mem hi) hl hS hs hk⟩
theorem Row.keep {w w' : World} {S S' : Nat → Prop} {A : Option Addr} {n c : Nat} {l : List It} (h : Row w S A n c l) (hS : ∀ b, S b → b < w.heap.size → S' b) (hs : w.heap.size ≤ w'.heap.size)
 (hk : ∀ p : Addr, S p.block → p.block < w.heap.size → w'.cell? p = w.cell? p) : Row w' S' A n c l := by
 refine ⟨h.1, h.2.1, fun i y hy => ?_⟩;obtain ⟨ad, A', c', e, hb, hlt, hsp, hl⟩ := h.2.2 i y hy;exact ⟨ad, A', c', e, hS _ hb hlt, by omega, hsp.keep fun p hp => hk p (by rw [hp, add_block]; exact hb) (by rw [hp, add_block]; exact hlt), hl.keep y hS hs hk⟩
theorem Lies.below {w w' : World} {S : Nat → Prop} {x : It} {A : Option Addr} {c B : Nat} (h : Lies w S x A c) (hb : Below B w w') (hS : ∀ b, S b → b < B) : Lies w' S x A c :=
 h.keep x (fun _ h _ => h) hb.size fun _ hp _ => hb.cell (hS _ hp)
theorem Row.below {w w' : World} {S : Nat → Prop} {l : List It} {A : Option Addr} {n c B : Nat} (h : Row w S A n c l) (hb : Below B w w') (hS : ∀ b, S b → b < B) : Row w' S A n c l :=
 h.keep (fun _ h _ => h) hb.size fun _ hp _ => hb.cell (hS _ hp)
theorem Lies.grown {w w' : World} {S : Nat → Prop} {x : It} {A : Option Addr} {c : Nat} {g : Option Nat} (h : Lies w S x A c) (hg : w.grownBy w' g) (hS : ∀ b, S b → some b ≠ g) : Lies w' S x A c :=
 h.keep x (fun _ h _ => h) hg.size fun _ hp hlt => World.cell?_of_block (hg.block _ hlt (hS _ hp))
theorem Row.grown {w w' : World} {S : Nat → Prop} {l : List It} {A : Option Addr} {n c : Nat} {g : Option Nat} (h : Row w S A n c l) (hg : w.grownBy w' g) (hS : ∀ b, S b → some b ≠ g) : Row w' S A n c l :=
 h.keep (fun _ h _ => h) hg.size fun _ hp hlt => World.cell?_of_block (hg.block _ hlt (hS _ hp))
theorem Lies.alloc {w : World} {S : Nat → Prop} {x : It} {A : Option Addr} {c : Nat} (h : Lies w S x A c) (o : Obj) : Lies (w.alloc o) S x A c :=
 h.keep x (fun _ h _ => h) (by simp) fun p _ hp => World.cell?_alloc_lt w o p hp
theorem Lies.more {w : World} {S S' : Nat → Prop} {x : It} {A : Option Addr} {c : Nat} (h : Lies w S x A c) (hS : ∀ b, S b → b < w.heap.size → S' b) : Lies w S' x A c :=
 h.keep x hS (Nat.le_refl _) fun _ _ _ => rfl
theorem Row.more {w : World} {S S' : Nat → Prop} {l : List It} {A : Option Addr} {n c : Nat} (h : Row w S A n c l) (hS : ∀ b, S b → b < w.heap.size → S' b) : Row w S' A n c l :=
 h.keep hS (Nat.le_refl _) fun _ _ _ => rfl
theorem Lies.fit {w : World} {S : Nat → Prop} (x : It) : ∀ {A : Option Addr} {c : Nat}, Lies w S x A c → Fit x := by
 induction x using It.ind with
 | h x ih =>
 intro A c h;rw [lies_eq] at h;rw [fit_eq];obtain ⟨⟨_, _, h1, h2⟩, ⟨h3, h4, _⟩, h5⟩ := h;refine ⟨by omega, by omega, by omega, fun y hy => ?_⟩;obtain ⟨i, hi, rfl⟩ := List.getElem_of_mem hy;obtain ⟨ad, A', c', _, _, _, _, hl⟩ := h5 i hi;exact ih _ (List.getElem_mem hi) hl
theorem Lies.bounds {w : World} {S : Nat → Prop} {x : It} {A : Option Addr} {c : Nat} (h : Lies w S x A c) :
 -9223372036854775808 ≤ x.kind ∧ x.kind ≤ 9223372036854775807 ∧ x.num ≤ 18446744073709551615 ∧ x.str.size ≤ 140737488355328 ∧ x.kids.length ≤ c ∧ c ≤ 9223372036854775807 := by
 rw [lies_eq] at h;obtain ⟨⟨a, b, h1, h2⟩, ⟨h3, h4, _⟩, _⟩ := h;exact ⟨a, b, h1, h2, h3, h4⟩
end Go.Proofs.YtkejjdoaljoooaaGreatDoor.Cod
/- Texts turned into bytes and bytes into texts, of no program. -/
namespace Go.Proofs.YtkejjdoaljoooaaGreatDoor.Cod
open Go.RowKit Mem
theorem blk4 {w : World} {g : Nat} {t : TypeId} {a b c d : Value} (h : Blk w g t #[a, b, c, d]) : w.cell? ⟨g, 0, none⟩ = some a ∧ w.cell? ⟨g, 1, none⟩ = some b ∧ w.cell? ⟨g, 2, none⟩ = some c ∧ w.cell? ⟨g, 3, none⟩ = some d :=
 ⟨h.cell 0, h.cell 1, h.cell 2, h.cell 3⟩
theorem strCells_bts (s : ByteArray) : Lib.strCells s = cs (bts s) := by
 simp [Lib.strCells, cs, bts, List.map_map, Function.comp_def]
theorem run_text {P : Program} {w : World} (src dst e : TypeId) (hs : P.underlying src = some (.slice e)) (he : P.underlying e = some (.int .u8)) (hd : P.underlying dst = some .string)
 {A : Option Addr} {n c : Nat} {bs : List Nat} (hr : Rd w A n c (cs bs)) : (convert src dst (.slice A n c)).run P w = .ok (.string (txt bs)) w := by
 have hl := hr.len;rw [length_cs] at hl;rcases A with _ | ad
 · have h0 := hr.none0 rfl
   have hb : bs = [] := List.eq_nil_of_length_eq_zero (by omega);subst hb;rw [run_convert_bytes_nil w src e hs he _ _ dst hd];rfl
 · have hcs : cs bs = (bs.map fun b => ((b : Nat) : Int)).map (Value.int .u8) := by simp [cs, List.map_map, Function.comp_def]
   have h1 := run_loadCells_list (P := P) w ad (cs bs) (hr.cells ad rfl);rw [length_cs, hl, hcs] at h1;rw [run_convert_bytes_string w src dst e _ n c hs he hd, run_bytesToString w _ n c _ h1, foldl_push_bytes];simp [txt, List.map_map, Function.comp_def, ByteArray.empty, ByteArray.emptyWithCapacity];rfl
end Go.Proofs.YtkejjdoaljoooaaGreatDoor.Cod
/- Trees of nodes in memory ('IsNode'); worlds that have kept all blocks but one. -/
namespace Go.Proofs.YtkejjdoaljoooaaGreatDoor.Cod
open Go.RowKit Mem
def Shape (x : It) (v : Value) : Prop :=
 (x = .mk 0 x.num ByteArray.empty [] ∧ x.num ≤ 18446744073709551615 ∧ v = .iface 196 (.int .u64 (x.num : Int))) ∨
 (x = .mk 1 0 x.str [] ∧ x.str.size ≤ 140737488355328 ∧ v = .iface 197 (.string x.str)) ∨
 (x = .mk 2 0 ByteArray.empty x.kids ∧ ∃ A c, v = .iface 199 (.slice A x.kids.length c) ∧ x.kids.length ≤ c ∧ c ≤ maxLen ∧ (A = none → c = 0))
def IsNode (w : World) (S : Nat → Prop) (x : It) (v : Value) : Prop :=
 Shape x v ∧ ∀ i, (h : i < x.kids.length) → ∃ ad c u, v = .iface 199 (.slice (some ad) x.kids.length c) ∧ S ad.block ∧ ad.block < w.heap.size ∧ w.cell? (ad.add i) = some u ∧ IsNode w S x.kids[i] u
termination_by wt x
decreasing_by exact wt_kid h
theorem node_eq (w : World) (S : Nat → Prop) (x : It) (v : Value) : IsNode w S x v ↔
 Shape x v ∧ ∀ i, (h : i < x.kids.length) → ∃ ad c u, v = .iface 199 (.slice (some ad) x.kids.length c) ∧ S ad.block ∧ ad.block < w.heap.size ∧ w.cell? (ad.add i) = some u ∧ IsNode w S x.kids[i] u := by
 conv => lhs; unfold IsNode
theorem IsNode.keep {w w' : World} {S S' : Nat → Prop} (x : It) : ∀ {v : Value}, IsNode w S x v → (∀ b, S b → b < w.heap.size → S' b) → w.heap.size ≤ w'.heap.size →
 (∀ b, S b → b < w.heap.size → w'.heap[b]? = w.heap[b]?) → IsNode w' S' x v := by
 induction x using It.ind with
 | h x ih =>
 intro v h hS hs hk;rw [node_eq] at h ⊢;refine ⟨h.1, fun i hi => ?_⟩;obtain ⟨ad, c, u, e, hb, hlt, hc, hn⟩ := h.2 i hi;exact ⟨ad, c, u, e, hS _ hb hlt, by omega, (World.cell?_of_block (by rw [add_block]; exact hk _ hb hlt)).trans hc, ih _ (List.getElem_mem hi) hn hS hs hk⟩
theorem IsNode.grown {w w' : World} {S S' : Nat → Prop} {x : It} {v : Value} {g : Option Nat} (h : IsNode w S x v) (hg : w.grownBy w' g) (hS : ∀ b, S b → b < w.heap.size → some b ≠ g ∧ S' b) : IsNode w' S' x v :=
 h.keep x (fun b hb hlt => (hS b hb hlt).2) hg.size fun b hb hlt => hg.block b hlt (hS b hb hlt).1
theorem IsNode.below {w w' : World} {S S' : Nat → Prop} {x : It} {v : Value} {B : Nat} (h : IsNode w S x v) (hb : Below B w w') (hS : ∀ b, S b → b < w.heap.size → b < B ∧ S' b) : IsNode w' S' x v :=
 h.keep x (fun b hb hlt => (hS b hb hlt).2) hb.size fun b hs hlt => hb.block b (hS b hs hlt).1
theorem IsNode.iface {w : World} {S : Nat → Prop} {x : It} {v : Value} (h : IsNode w S x v) : ∃ t p, v = .iface t p := by
 rw [node_eq] at h;rcases h.1 with ⟨_, _, e⟩ | ⟨_, _, e⟩ | ⟨_, A, c, e, _⟩ <;> exact ⟨_, _, e⟩
theorem IsNode.right {w : World} {S : Nat → Prop} {x : It} {v : Value} (h : IsNode w S x v) : formed x = true := by
 rw [node_eq] at h;rcases h.1 with ⟨e, _⟩ | ⟨e, _⟩ | ⟨e, _⟩ <;> rw [e] <;> simp [formed, It.kind, It.num, It.str, It.kids]
section
variable {a w w' : World} {r : Option Nat} {g : Nat}
theorem gr_refl (w : World) (r : Option Nat) : w.grownBy w r := ⟨rfl, rfl, rfl, Nat.le_refl _, fun _ _ _ => rfl⟩
theorem gr_alloc (h : a.grownBy w r) (o : Obj) : a.grownBy (w.alloc o) r :=
 ⟨h.os, h.tape, h.output, Nat.le_trans h.size (by simp), fun i hi hne => (Below.heap_alloc w o i (Nat.lt_of_lt_of_le hi h.size)).trans (h.block i hi hne)⟩
theorem gr_drew (h : a.grownBy w r) : a.grownBy w.drew r := ⟨h.os, h.tape, h.output, h.size, h.block⟩
theorem gr_drewN (h : a.grownBy w r) (n : Nat) : a.grownBy (w.drewN n) r := ⟨h.os, h.tape, h.output, h.size, h.block⟩
theorem gr_step {q : Option Nat} (h : a.grownBy w r) (k : w.grownBy w' q) (hq : ∀ b, q = some b → a.heap.size ≤ b ∨ r = some b) : a.grownBy w' r :=
 ⟨k.os.trans h.os, k.tape.trans h.tape, k.output.trans h.output, Nat.le_trans h.size k.size, fun i hi hne => (k.block i (Nat.lt_of_lt_of_le hi h.size) (fun e => by
  rcases hq i e.symm with h1 | h1
  · omega
  · exact hne h1.symm)).trans (h.block i hi hne)⟩
theorem gr_bel (h : a.grownBy w r) (k : Below w.heap.size w w') : a.grownBy w' r :=
 ⟨k.os.trans h.os, k.tape.trans h.tape, k.output.trans h.output, Nat.le_trans h.size k.size, fun i hi hne => (k.block i (Nat.lt_of_lt_of_le hi h.size)).trans (h.block i hi hne)⟩
theorem gr_set (h : a.grownBy w r) {p : Addr} (hp : some p.block = r ∨ a.heap.size ≤ p.block) (u : Value) : a.grownBy (w.setCell p u) r :=
 ⟨h.os, h.tape, h.output, by simpa [World.setCell] using h.size, fun i hi hne => (Below.heap_setCell w p u i (by
  rintro rfl;rcases hp with hp | hp
  · exact hne hp
  · omega)).trans (h.block i hi hne)⟩
theorem gr_below {B : Nat} (h : w.grownBy w' r) (hB : B ≤ w.heap.size) (hr : ∀ b, r = some b → B ≤ b) : Below B w w' :=
 ⟨h.os, h.tape, h.output, h.size, fun i hi => h.block i (by omega) (fun e => by have := hr i e.symm; omega)⟩
theorem below_gr (h : Below w.heap.size w w') (r : Option Nat) : w.grownBy w' r := ⟨h.os, h.tape, h.output, h.size, fun i hi _ => h.block i hi⟩
end
def Plan (w : World) (g : Nat) (s : Nat) : Prop := Blk w g 140 #[.int .i64 (s : Int)]
def flt (e p : Nat) : List PanicEntry := [{ v := .iface 137 (.agg #[.int .i64 (e : Int), .int .i64 (p : Int)]), recovered := false }]
end Go.Proofs.YtkejjdoaljoooaaGreatDoor.Cod
