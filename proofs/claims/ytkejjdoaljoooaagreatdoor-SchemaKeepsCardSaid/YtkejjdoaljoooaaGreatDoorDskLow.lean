/-
  Texts of earlier layers, as one.
-/
import GoSem.Op.String
import Derived.Laws.Strings
import Derived.Test.YtkejjdoaljoooaaGreatDoorRBase
import Derived.Test.YtkejjdoaljoooaaGreatDoorChecked
import Derived.Deep.Cut
import Derived.Lib.MinMax
import Derived.Laws.Cover1
/- A disk, plainly: files by rising names, each with sure bytes and a tail; what each deed does; plain mathematics, of no program. -/
namespace Go.Proofs.YtkejjdoaljoooaaGreatDoor.Dsk
structure Fl where
 nm : ByteArray
 sure : List Nat
 tail : List Nat
structure Dk where
 fs : List Fl
 room : Int
 fuse : Int
 dn : Bool
def eqn (a b : ByteArray) : Bool := a.toList == b.toList
def gtn (a b : ByteArray) : Bool := !(Op.bytesLess a.toList b.toList || a.toList == b.toList)
def letter (c : Nat) : Bool := (decide (97 ≤ c) && decide (c ≤ 122)) || ((decide (48 ≤ c) && decide (c ≤ 57)) || (decide (c = 46) || decide (c = 45)))
def isName (s : ByteArray) : Bool := s.data.toList.all (fun b => letter b.toNat) && (decide (1 ≤ s.size) && decide (s.size ≤ 16))
def Fl.all (f : Fl) : List Nat := f.sure ++ f.tail
def Fl.len (f : Fl) : Nat := f.sure.length + f.tail.length
def used : List Fl → Nat
 | [] => 0
 | f :: r => f.len + used r
def place (l : List Fl) (s : ByteArray) : Option Nat := l.findIdx? fun f => eqn f.nm s
def drop (s : ByteArray) (l : List Fl) : List Fl := l.filter fun f => !eqn f.nm s
def put (f : Fl) : List Fl → List Fl
 | [] => [f]
 | x :: r => if gtn x.nm f.nm = true then f :: x :: r else x :: put f r
def newDk (room : Int) : Dk := ⟨[], max room 0, -1, false⟩
def fails (d : Dk) : Bool := d.dn || decide (d.fuse = 0)
def deed (d : Dk) : Dk := if fails d = true then { d with dn := true } else if 0 < d.fuse then { d with fuse := d.fuse - 1 } else d
def doAppend (s : ByteArray) (b : List Nat) (d : Dk) : Nat × Dk :=
 if isName s = false then (1, d) else if d.room < (used d.fs : Int) + b.length then (7, d) else
  match place d.fs s with
  | none => if 16 ≤ d.fs.length then (12, d) else (0, { d with fs := put ⟨s, [], b⟩ d.fs })
  | some i => (0, { d with fs := d.fs.modify i fun f => { f with tail := f.tail ++ b } })
def doSync (s : ByteArray) (d : Dk) : Nat × Dk :=
 match place d.fs s with
 | none => (8, d)
 | some i => (0, { d with fs := d.fs.modify i fun f => { f with sure := f.all, tail := [] } })
def doCut (s : ByteArray) (n : Int) (d : Dk) : Nat × Dk :=
 match place d.fs s with
 | none => (8, d)
 | some i => if n < 0 ∨ ((d.fs.getD i ⟨s, [], []⟩).all.length : Int) < n then (6, d) else (0, { d with fs := d.fs.modify i fun f => { f with sure := f.all.take n.toNat, tail := [] } })
def doMove (s t : ByteArray) (d : Dk) : Nat × Dk :=
 match place d.fs s with
 | none => (8, d)
 | some i => if isName t = false then (1, d) else (0, { d with fs := put ⟨t, (d.fs.getD i ⟨s, [], []⟩).all, []⟩ (drop t (drop s d.fs)) })
def doRemove (s : ByteArray) (d : Dk) : Nat × Dk :=
 match place d.fs s with
 | none => (8, d)
 | some _ => (0, { d with fs := drop s d.fs })
def whole (f : Dk → Nat × Dk) (d : Dk) : Nat × Dk := if fails d = true then (15, deed d) else f (deed d)
def read (s : ByteArray) (d : Dk) : List Nat × Nat :=
 if d.dn = true then ([], 15) else match place d.fs s with
  | none => ([], 8)
  | some i => ((d.fs.getD i ⟨s, [], []⟩).all, 0)
def bootFs : List Fl → List Int → List Fl
 | [], _ => []
 | f :: r, ks => if f.tail = [] then { f with tail := [] } :: bootFs r ks else
   match ks with
   | [] => { f with sure := f.all, tail := [] } :: bootFs r []
   | k :: ks => { f with sure := f.sure ++ f.tail.take (max 0 (min k f.tail.length)).toNat, tail := [] } :: bootFs r ks
def boot (ks : List Int) (d : Dk) : Dk := ⟨bootFs d.fs ks, d.room, -1, false⟩
theorem eqn_iff (a b : ByteArray) : eqn a b = true ↔ a.toList = b.toList := beq_iff_eq
theorem eqn_self (a : ByteArray) : eqn a a = true := (eqn_iff a a).2 rfl
theorem Fl.len_all (f : Fl) : f.all.length = f.len := List.length_append
theorem used_append (a b : List Fl) : used (a ++ b) = used a + used b := by
 induction a with
 | nil => simp [used]
 | cons f r ih => simp only [List.cons_append, used, ih]; omega
theorem used_put (f : Fl) (l : List Fl) : used (put f l) = f.len + used l := by
 induction l with
 | nil => rfl
 | cons x r ih =>
   unfold put;split
   · rfl
   · simp only [used, ih]; omega
theorem length_put (f : Fl) (l : List Fl) : (put f l).length = l.length + 1 := by
 induction l with
 | nil => rfl
 | cons x r ih =>
   unfold put;split
   · rfl
   · simp only [List.length_cons, ih]
theorem used_drop (s : ByteArray) (l : List Fl) : used (drop s l) ≤ used l := by
 unfold drop;induction l with
 | nil => exact Nat.le_refl _
 | cons x r ih =>
   rw [List.filter_cons];split
   · simp only [used]; omega
   · simp only [used]; omega
theorem length_drop (s : ByteArray) (l : List Fl) : (drop s l).length ≤ l.length := List.length_filter_le _ _
theorem place_some {l : List Fl} {s : ByteArray} {i : Nat} (h : place l s = some i) : ∃ f, l[i]? = some f ∧ eqn f.nm s = true := by
 unfold place at h;obtain ⟨hi, h1, _⟩ := List.findIdx?_eq_some_iff_getElem.1 h;exact ⟨l[i], List.getElem?_eq_getElem hi, h1⟩
theorem place_none {l : List Fl} {s : ByteArray} (h : place l s = none) : ∀ f ∈ l, eqn f.nm s = false := by
 unfold place at h;rw [List.findIdx?_eq_none_iff] at h;exact fun f hf => h f hf
theorem used_modify {l : List Fl} {i : Nat} {g : Fl → Fl} {f : Fl} (h : l[i]? = some f) : used (l.modify i g) + f.len = used l + (g f).len := by
 induction l generalizing i with
 | nil => cases h
 | cons x r ih =>
   cases i with
   | zero =>
     injection h with h;subst h;simp only [List.modify_zero_cons, used];omega
   | succ i =>
     have h1 := ih (i := i) h;simp only [List.modify_succ_cons, used];omega
def Fits (d : Dk) : Prop := 0 ≤ d.room ∧ (used d.fs : Int) ≤ d.room ∧ d.fs.length ≤ 16
theorem fits_new (room : Int) : Fits (newDk room) := by
 unfold Fits newDk;simp only [used, List.length_nil];omega
theorem deed_fs (d : Dk) : (deed d).fs = d.fs ∧ (deed d).room = d.room := by
 unfold deed;split
 · exact ⟨rfl, rfl⟩
 · split <;> exact ⟨rfl, rfl⟩
theorem fits_deed {d : Dk} (h : Fits d) : Fits (deed d) := by
 obtain ⟨h1, h2⟩ := deed_fs d;unfold Fits at h ⊢;rw [h1, h2];exact h
theorem fits_append {d : Dk} (h : Fits d) (s : ByteArray) (b : List Nat) : Fits (doAppend s b d).2 := by
 unfold doAppend;split
 · exact h
 split
 · exact h
 rename_i hr;obtain ⟨h0, h1, h2⟩ := h;split
 · split
   · exact ⟨h0, h1, h2⟩
   · refine ⟨h0, ?_, ?_⟩
     · show ((used (put ⟨s, [], b⟩ d.fs) : Nat) : Int) ≤ d.room
       rw [used_put];have e : Fl.len ⟨s, [], b⟩ = b.length := (by simp [Fl.len]);omega
     · show (put ⟨s, [], b⟩ d.fs).length ≤ 16
       rw [length_put];omega
 · rename_i i hp
   obtain ⟨f, hf, _⟩ := place_some hp;have hu := used_modify (g := fun f => { f with tail := f.tail ++ b }) hf;have e : Fl.len { f with tail := f.tail ++ b } = f.len + b.length := (by simp [Fl.len]; omega);rw [e] at hu;refine ⟨h0, ?_, ?_⟩
   · show ((used (d.fs.modify i _) : Nat) : Int) ≤ d.room
     omega
   · show (d.fs.modify i _).length ≤ 16
     rw [List.length_modify];exact h2
theorem fits_sync {d : Dk} (h : Fits d) (s : ByteArray) : Fits (doSync s d).2 := by
 unfold doSync;obtain ⟨h0, h1, h2⟩ := h;split
 · exact ⟨h0, h1, h2⟩
 · rename_i i hp
   obtain ⟨f, hf, _⟩ := place_some hp;have hu := used_modify (g := fun f => { f with sure := f.all, tail := [] }) hf;have e : Fl.len { f with sure := f.all, tail := [] } = f.len := (by simp [Fl.len, Fl.all]);rw [e] at hu;exact ⟨h0, by show ((used (d.fs.modify i _) : Nat) : Int) ≤ d.room; omega, by show (d.fs.modify i _).length ≤ 16; rw [List.length_modify]; exact h2⟩
theorem fits_remove {d : Dk} (h : Fits d) (s : ByteArray) : Fits (doRemove s d).2 := by
 unfold doRemove;obtain ⟨h0, h1, h2⟩ := h;split
 · exact ⟨h0, h1, h2⟩
 · have a := used_drop s d.fs
   have b := length_drop s d.fs;exact ⟨h0, by show ((used (drop s d.fs) : Nat) : Int) ≤ d.room; omega, by show (drop s d.fs).length ≤ 16; omega⟩
theorem used_take {l : List Fl} {k : Nat} {f : Fl} (hk : l[k]? = some f) : used (l.take (k + 1)) = used (l.take k) + f.len := by
 rw [List.take_add_one, hk, used_append];simp [used]
theorem used_le (l : List Fl) (k : Nat) : used (l.take k) ≤ used l := by
 have h := used_append (l.take k) (l.drop k);rw [List.take_append_drop] at h;omega
end Go.Proofs.YtkejjdoaljoooaaGreatDoor.Dsk
/- What the laws of the disk come to, plainly: the steps of DiskKeeps, DiskMoves, DiskCuts and of the document's example; plain mathematics. -/
namespace Go.Proofs.YtkejjdoaljoooaaGreatDoor.Dsk
theorem eqn_eq (a b : ByteArray) : eqn a b = (a.data.toList == b.data.toList) := by
 unfold eqn;rw [ByteArray.toList_eq, ByteArray.toList_eq]
theorem gtn_eq (a b : ByteArray) : gtn a b = !(Op.bytesLess a.data.toList b.data.toList || a.data.toList == b.data.toList) := by
 unfold gtn;rw [ByteArray.toList_eq, ByteArray.toList_eq]
def na : ByteArray := ⟨#[97]⟩
theorem place_nil (s : ByteArray) : place [] s = none := rfl
theorem place_cons (f : Fl) (r : List Fl) (s : ByteArray) : place (f :: r) s = if eqn f.nm s = true then some 0 else (place r s).map (· + 1) := by
 unfold place;rw [List.findIdx?_cons]
theorem whole_up {f : Dk → Nat × Dk} {d : Dk} (h1 : d.dn = false) (h2 : d.fuse ≠ 0) : whole f d = f (deed d) := by
 unfold whole fails;rw [h1, decide_eq_false h2];rfl
theorem whole_fails {f : Dk → Nat × Dk} {d : Dk} (h : d.dn = true ∨ d.fuse = 0) : whole f d = (15, { d with dn := true }) := by
 have h1 : fails d = true := by
  unfold fails;rcases h with h | h
  · rw [h]; rfl
  · rw [decide_eq_true h, Bool.or_true]
 unfold whole deed;rw [if_pos h1, if_pos h1]
theorem deed_none {d : Dk} (h1 : d.dn = false) (h2 : d.fuse = -1) : deed d = d := by
 unfold deed fails;rw [h1, h2];rfl
theorem append_new {s : ByteArray} {b : List Nat} {d : Dk} (hs : isName s = true) (hr : (used d.fs : Int) + b.length ≤ d.room) (hp : place d.fs s = none) (hl : d.fs.length < 16) : doAppend s b d = (0, { d with fs := put ⟨s, [], b⟩ d.fs }) := by
 unfold doAppend;rw [if_neg (by simp [hs]), if_neg (by omega), hp];simp only;rw [if_neg (by omega)]
theorem append_old {s : ByteArray} {b : List Nat} {d : Dk} {i : Nat} (hs : isName s = true) (hr : (used d.fs : Int) + b.length ≤ d.room) (hp : place d.fs s = some i) : doAppend s b d = (0, { d with fs := d.fs.modify i fun f => { f with tail := f.tail ++ b } }) := by
 unfold doAppend;rw [if_neg (by simp [hs]), if_neg (by omega), hp]
end Go.Proofs.YtkejjdoaljoooaaGreatDoor.Dsk
/- What a call turns in memory: the blocks of one set, and new ones, alone ('Keeps'); bytes that lie in a set's blocks; files in a row, and the document's disk, in memory. -/
namespace Go.Proofs.YtkejjdoaljoooaaGreatDoor.Dsk
open Go.RowKit Mem
structure Keeps (S : Nat → Prop) (w w' : World) : Prop where
 os : w'.os = w.os
 tape : w'.tape = w.tape
 output : w'.output = w.output
 size : w.heap.size ≤ w'.heap.size
 block : ∀ k, k < w.heap.size → ¬ S k → w'.heap[k]? = w.heap[k]?
def Grew (S S' : Nat → Prop) (w : World) : Prop := ∀ k, S' k → S k ∨ w.heap.size ≤ k
section
variable {S S' T : Nat → Prop} {w w1 w2 w' : World}
theorem Keeps.refl (S : Nat → Prop) (w : World) : Keeps S w w := ⟨rfl, rfl, rfl, Nat.le_refl _, fun _ _ _ => rfl⟩
theorem Keeps.ofBelow (h : Below w.heap.size w w') : Keeps S w w' := ⟨h.os, h.tape, h.output, h.size, fun k hk _ => h.block k hk⟩
theorem Keeps.ofGrown {g : Nat} (h : w.grownBy w' (some g)) (hg : S g) : Keeps S w w' := ⟨h.os, h.tape, h.output, h.size, fun k hk hn => h.block k hk fun e => hn (by injection e with e; rw [e]; exact hg)⟩
theorem Keeps.trans (h : Keeps S w w1) (k : Keeps S' w1 w2) (hg : Grew S S' w) : Keeps S w w2 :=
 ⟨k.os.trans h.os, k.tape.trans h.tape, k.output.trans h.output, Nat.le_trans h.size k.size, fun i hi hn => (k.block i (by have := h.size; omega) fun hs => (hg i hs).elim hn fun e => by omega).trans (h.block i hi hn)⟩
theorem Keeps.below (h : Keeps S w w') {B : Nat} (hB : B ≤ w.heap.size) (hS : ∀ k, S k → B ≤ k) : Below B w w' :=
 ⟨h.os, h.tape, h.output, h.size, fun i hi => h.block i (by omega) fun hs => by have := hS i hs; omega⟩
theorem Keeps.cell (h : Keeps S w w') {p : Addr} (hp : p.block < w.heap.size) (hn : ¬ S p.block) : w'.cell? p = w.cell? p := World.cell?_of_block (h.block _ hp hn)
theorem Grew.refl (S : Nat → Prop) (w : World) : Grew S S w := fun _ h => .inl h
theorem Grew.trans {S2 : Nat → Prop} (h : Grew S S' w) (k : Grew S' S2 w1) (hs : w.heap.size ≤ w1.heap.size) : Grew S S2 w := fun i hi => (k i hi).elim (fun h' => h i h') fun e => .inr (by omega)
end
def RdS (S : Nat → Prop) (w : World) (A : Option Addr) (n c : Nat) (bs : List Nat) : Prop := Rd w A n c (cs bs) ∧ (0 < n → ∃ ad, A = some ad ∧ S ad.block)
theorem RdS.keep {S S' : Nat → Prop} {w w' : World} {A : Option Addr} {n c : Nat} {bs : List Nat} (h : RdS S w A n c bs) (hs : w.heap.size ≤ w'.heap.size) (hS : ∀ b, S b → b < w.heap.size → S' b ∧ w'.heap[b]? = w.heap[b]?) : RdS S' w' A n c bs := by
 obtain ⟨h1, h2⟩ := h;refine ⟨⟨h1.len, h1.le, h1.cap, h1.nil, fun hn => ?_⟩, fun hn => ?_⟩
 · obtain ⟨ad, e, hb, hc⟩ := h1.spot hn
   obtain ⟨ad', e', hs'⟩ := h2 hn;cases e.symm.trans e';refine ⟨ad, e, by omega, fun j u hu => ?_⟩;have hb' : w'.heap[(ad.add j).block]? = w.heap[(ad.add j).block]? := (by rw [add_block]; exact (hS _ hs' hb).2);exact (World.cell?_of_block hb').trans (hc j u hu)
 · obtain ⟨ad, e, hb, _⟩ := h1.spot hn
   obtain ⟨ad', e', hs'⟩ := h2 hn;cases e.symm.trans e';exact ⟨ad, e, (hS _ hs' hb).1⟩
structure Hf where
 f : Fl
 SA : Option Addr
 sc : Nat
 TA : Option Addr
 tc : Nat
def Hf.cells (h : Hf) : List Value := [.string h.f.nm, .slice h.SA h.f.sure.length h.sc, .slice h.TA h.f.tail.length h.tc]
def HfIn (S : Nat → Prop) (w : World) (h : Hf) : Prop := RdS S w h.SA h.f.sure.length h.sc h.f.sure ∧ RdS S w h.TA h.f.tail.length h.tc h.f.tail
theorem HfIn.keep {S S' : Nat → Prop} {w w' : World} {h : Hf} (hi : HfIn S w h) (hs : w.heap.size ≤ w'.heap.size) (hS : ∀ b, S b → b < w.heap.size → S' b ∧ w'.heap[b]? = w.heap[b]?) : HfIn S' w' h := ⟨hi.1.keep hs hS, hi.2.keep hs hS⟩
end Go.Proofs.YtkejjdoaljoooaaGreatDoor.Dsk
/- The document's name, At, deed and Used of a disk. -/
namespace Go.Proofs.YtkejjdoaljoooaaGreatDoor.Dsk
open Go.RowKit Mem
theorem byte_at (s : ByteArray) (k : IntKind) (i : Nat) {b : Nat} (h : i < s.size) (hb : (bts s).getD i 0 = b) (w : World) : (Instr.index 9 (.string s) (.int k (i : Int))).run Tryz.prog w = .ok (.int .u8 (b : Int)) w := by
 rw [run_index_string w 9 _ k (i : Int) Tryz.underlying9, dif_pos (by omega), at_bts];rw [Int.toNat_natCast, hb]
theorem name_bts (s : ByteArray) : isName s = ((bts s).all letter && (decide (1 ≤ s.size) && decide (s.size ≤ 16))) := by
 unfold isName bts;rw [List.all_map];rfl
theorem all_take {l : List Nat} {k b : Nat} (h : (l.take k).all letter = true) (hb : l[k]? = some b) (hl : letter b = true) : (l.take (k + 1)).all letter = true := by
 rw [List.take_add_one, hb, List.all_append, h];simp [hl]
theorem not_all {l : List Nat} {k b : Nat} (hb : l[k]? = some b) (hl : letter b = false) : l.all letter = false := by
 rw [List.all_eq_false];exact ⟨b, List.mem_of_getElem? hb, by simp [hl]⟩
end Go.Proofs.YtkejjdoaljoooaaGreatDoor.Dsk
/- The document's New, At, deed and Used of a disk. -/
namespace Go.Proofs.YtkejjdoaljoooaaGreatDoor.Dsk
open Go.RowKit Mem Cod
theorem wrap64 {x : Int} (h : -9223372036854775808 ≤ x) (h' : x ≤ 9223372036854775807) : IntKind.i64.wrap x = x := by
 simp [IntKind.wrap, IntKind.bits, IntKind.signed];omega
end Go.Proofs.YtkejjdoaljoooaaGreatDoor.Dsk
/- The document's all: a file's bytes, sure and tail, in memory of the call's own. -/
namespace Go.Proofs.YtkejjdoaljoooaaGreatDoor.Dsk
open Go.RowKit Mem Cod
theorem own_low {w : World} {base base' : Nat} {e : TypeId} {s : Nat} {v : Value} {n : Nat} {xs : List Value} (h : w.ownsRow base e s v n xs) (hb : base' ≤ base) : w.ownsRow base' e s v n xs :=
 ⟨h.1, h.2.imp id fun ⟨g, cap, cur, e1, hg, r⟩ => ⟨g, cap, cur, e1, Nat.le_trans hb hg, r⟩⟩
theorem info5 : (Tryz.prog.info? 5).map (fun i => (i.zero, i.size, i.bytes)) = some (some (.int .u8 0), 1, 1) := by kernel_rfl
end Go.Proofs.YtkejjdoaljoooaaGreatDoor.Dsk
/- The document's drop and put: a new row of files, in the place of the old one. -/
namespace Go.Proofs.YtkejjdoaljoooaaGreatDoor.Dsk
open Go.RowKit Mem Cod
end Go.Proofs.YtkejjdoaljoooaaGreatDoor.Dsk
/- A file of a row written over in memory: its sure bytes, its tail; the document's disk taken apart and put together. -/
namespace Go.Proofs.YtkejjdoaljoooaaGreatDoor.Dsk
open Go.RowKit Mem Cod
def Fine (d : Dk) : Prop := Fits d ∧ d.room ≤ 1099511627776 ∧ -9223372036854775808 ≤ d.fuse ∧ d.fuse ≤ 9223372036854775807
theorem Fine.used {d : Dk} (h : Fine d) : Dsk.used d.fs ≤ 1099511627776 := by
 obtain ⟨⟨h1, h2, h3⟩, h4, _⟩ := h;omega
theorem Fine.length {d : Dk} (h : Fine d) : d.fs.length ≤ 16 := h.1.2.2
theorem len_used {l : List Fl} {k : Nat} {f : Fl} (h : l[k]? = some f) : f.sure.length + f.tail.length ≤ Dsk.used l := by
 have h1 := used_take h;have h2 := used_le l (k + 1);have h3 : f.len = f.sure.length + f.tail.length := rfl;omega
theorem Fine.deed {d : Dk} (h : Fine d) : Fine (deed d) := by
 obtain ⟨h1, h2, h3, h4⟩ := h;refine ⟨fits_deed h1, by rw [(deed_fs d).2]; exact h2, ?_, ?_⟩
 · unfold Dsk.deed
   split
   · exact h3
   · split
     · show -9223372036854775808 ≤ d.fuse - 1
       omega
     · exact h3
 · unfold Dsk.deed
   split
   · exact h4
   · split
     · show d.fuse - 1 ≤ 9223372036854775807
       omega
     · exact h4
theorem modify_set {l : List Fl} {k : Nat} {f : Fl} (g : Fl → Fl) (h : l[k]? = some f) : l.modify k g = l.set k (g f) := by
 apply List.ext_getElem?;intro j;rw [List.getElem?_modify, List.getElem?_set];by_cases e : k = j
 · subst e
   obtain ⟨hi, rfl⟩ := List.getElem?_eq_some_iff.1 h;simp [hi]
 · simp [e]
end Go.Proofs.YtkejjdoaljoooaaGreatDoor.Dsk
/- The document's Sync. -/
namespace Go.Proofs.YtkejjdoaljoooaaGreatDoor.Dsk
open Go.RowKit Mem Cod
end Go.Proofs.YtkejjdoaljoooaaGreatDoor.Dsk
/- The document's Remove, Read and Move. -/
namespace Go.Proofs.YtkejjdoaljoooaaGreatDoor.Dsk
open Go.RowKit Mem Cod
end Go.Proofs.YtkejjdoaljoooaaGreatDoor.Dsk
/- The document's Move. -/
namespace Go.Proofs.YtkejjdoaljoooaaGreatDoor.Dsk
open Go.RowKit Mem Cod
end Go.Proofs.YtkejjdoaljoooaaGreatDoor.Dsk
/- The document's Cut. -/
namespace Go.Proofs.YtkejjdoaljoooaaGreatDoor.Dsk
open Go.RowKit Mem Cod
theorem RdS.take {S : Nat → Prop} {w : World} {A : Option Addr} {n c k : Nat} {bs : List Nat} (h : RdS S w A n c bs) (hk : k ≤ n) : RdS S w A k c (bs.take k) := by
 refine ⟨?_, fun h0 => h.2 (by omega)⟩;have h1 := h.1.take hk;rw [cs_take] at h1;exact h1
end Go.Proofs.YtkejjdoaljoooaaGreatDoor.Dsk
/- The document's Append. -/
namespace Go.Proofs.YtkejjdoaljoooaaGreatDoor.Dsk
open Go.RowKit Mem Cod
end Go.Proofs.YtkejjdoaljoooaaGreatDoor.Dsk
/- The document's Boot. -/
namespace Go.Proofs.YtkejjdoaljoooaaGreatDoor.Dsk
open Go.RowKit Mem Cod
theorem bootFs_nil (ks : List Int) : bootFs [] ks = [] := by rw [bootFs]
def vs (ks : List Int) : List Value := ks.map fun z => .int .i64 z
end Go.Proofs.YtkejjdoaljoooaaGreatDoor.Dsk
