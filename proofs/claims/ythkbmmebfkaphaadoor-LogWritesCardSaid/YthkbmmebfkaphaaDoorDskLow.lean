/-
  Texts of earlier layers, as one.
-/
import Derived.Test.YthkbmmebfkaphaaDoorChecked
import Derived.Test.YthkbmmebfkaphaaDoorDskBase
import Derived.Test.YthkbmmebfkaphaaDoorRBase
import Derived.Deep.Cut
import Derived.Lib.MinMax
import Derived.Deep.RegionHeld
import Derived.Deep.AppendLies
import Derived.Laws.Cover1
/- The document's name, At, deed and Used of a disk. -/
namespace Go.Proofs.YthkbmmebfkaphaaDoor.Dsk
open Go.RowKit Mem

/-- A text's byte. -/
theorem byte_at (s : ByteArray) (k : IntKind) (i : Nat) {b : Nat} (h : i < s.size) (hb : (bts s).getD i 0 = b) (w : World) : (Instr.index 9 (.string s) (.int k (i : Int))).run Tryd.prog w = .ok (.int .u8 (b : Int)) w := by
  rw [run_index_string w 9 _ k (i : Int) Tryd.underlying9, dif_pos (by omega), at_bts]
  rw [Int.toNat_natCast, hb]
theorem name_bts (s : ByteArray) : isName s = ((bts s).all letter && (decide (1 ≤ s.size) && decide (s.size ≤ 16))) := by
  unfold isName bts
  rw [List.all_map]
  rfl
def NameRel (w : World) (l : List Nat) (i : Value) (wr : World) : Prop := ∃ k : Nat, k ≤ l.length ∧ i = .int .i64 (k : Int) ∧ (l.take k).all letter = true ∧ wr = w
theorem all_take {l : List Nat} {k b : Nat} (h : (l.take k).all letter = true) (hb : l[k]? = some b) (hl : letter b = true) : (l.take (k + 1)).all letter = true := by
  rw [List.take_add_one, hb, List.all_append, h]
  simp [hl]
theorem not_all {l : List Nat} {k b : Nat} (hb : l[k]? = some b) (hl : letter b = false) : l.all letter = false := by
  rw [List.all_eq_false]
  exact ⟨b, List.mem_of_getElem? hb, by simp [hl]⟩
end Go.Proofs.YthkbmmebfkaphaaDoor.Dsk
/- The document's New, At, deed and Used of a disk. -/
namespace Go.Proofs.YthkbmmebfkaphaaDoor.Dsk
open Go.RowKit Mem Cod

theorem wrap64 {x : Int} (h : -9223372036854775808 ≤ x) (h' : x ≤ 9223372036854775807) : IntKind.i64.wrap x = x := by
  simp [IntKind.wrap, IntKind.bits, IntKind.signed]
  omega
/-- The cells of a disk at a block. -/
def dk4 (A : Option Addr) (n c : Nat) (d : Dk) : Array Value := #[.slice A n c, .int .i64 d.room, .int .i64 d.fuse, .bool d.dn]
def AtRel (w : World) (l : List Fl) (s : ByteArray) (i : Value) (wr : World) : Prop := ∃ k : Nat, k ≤ l.length ∧ i = .int .i64 (k : Int) ∧ (∀ f ∈ l.take k, eqn f.nm s = false) ∧ wr = w
theorem not_yet {l : List Fl} {s : ByteArray} {k : Nat} {f : Fl} (h : ∀ f ∈ l.take k, eqn f.nm s = false) (hk : l[k]? = some f) (hs : eqn f.nm s = false) : ∀ f ∈ l.take (k + 1), eqn f.nm s = false := by
  intro x hx
  rw [List.take_add_one, hk, List.mem_append] at hx
  rcases hx with hx | hx
  · exact h x hx
  · simp at hx
    rw [hx]
    exact hs
def UsedRel (w : World) (l : List Fl) (a i : Value) (wr : World) : Prop := ∃ k : Nat, k ≤ l.length ∧ i = .int .i64 (k : Int) ∧ a = .int .i64 ((used (l.take k) : Nat) : Int) ∧ ∃ q, wr = w.drewN q
/-- What a deed leaves of the disk's own block. -/
theorem blk_fuse {w : World} {g : Nat} {t : TypeId} {a b c d : Value} (h : Blk w g t #[a, b, c, d]) (v : Value) : Blk (w.setCell ⟨g, 2, none⟩ v) g t #[a, b, v, d] ∧ w.grownBy (w.setCell ⟨g, 2, none⟩ v) (some g) :=
  ⟨by simpa using h.put 2 v, gr_set (p := ⟨g, 2, none⟩) (gr_refl w (some g)) (.inl rfl) _⟩
theorem blk_down {w : World} {g : Nat} {t : TypeId} {a b c d : Value} (h : Blk w g t #[a, b, c, d]) (v : Value) : Blk (w.setCell ⟨g, 3, none⟩ v) g t #[a, b, c, v] ∧ w.grownBy (w.setCell ⟨g, 3, none⟩ v) (some g) :=
  ⟨by simpa using h.put 3 v, gr_set (p := ⟨g, 3, none⟩) (gr_refl w (some g)) (.inl rfl) _⟩
theorem blk_list {w : World} {g : Nat} {t : TypeId} {a b c d : Value} (h : Blk w g t #[a, b, c, d]) (v : Value) : Blk (w.setCell ⟨g, 0, none⟩ v) g t #[v, b, c, d] ∧ w.grownBy (w.setCell ⟨g, 0, none⟩ v) (some g) :=
  ⟨by simpa using h.put 0 v, gr_set (p := ⟨g, 0, none⟩) (gr_refl w (some g)) (.inl rfl) _⟩
end Go.Proofs.YthkbmmebfkaphaaDoor.Dsk
/- The document's all: a file's bytes, sure and tail, in memory of the call's own. -/
namespace Go.Proofs.YthkbmmebfkaphaaDoor.Dsk
open Go.RowKit Mem Cod

theorem own_low {w : World} {base base' : Nat} {e : TypeId} {s : Nat} {v : Value} {n : Nat} {xs : List Value} (h : w.ownsRow base e s v n xs) (hb : base' ≤ base) : w.ownsRow base' e s v n xs :=
  ⟨h.1, h.2.imp id fun ⟨g, cap, cur, e1, hg, r⟩ => ⟨g, cap, cur, e1, Nat.le_trans hb hg, r⟩⟩
theorem info5 : (Tryd.prog.info? 5).map (fun i => (i.zero, i.size, i.bytes)) = some (some (.int .u8 0), 1, 1) := by kernel_rfl
theorem step_append_rd {P : Program} {w : World} {ops : Array Oper} {o : Oper} {a : Act} {K : Act → World → Prop} {Q : Exit → Act → World → Prop} {E : Prop} (hgd : o.guard = none) (s x : Operand) (t : TypeId)
    (ho : o.op = .call { callee := .builtin .append, args := #[s, x], argTypes := #[t, t] })
    (base : Nat) (e : TypeId) (i : TypeInfo) (z : Value) (bytes : Nat) (ht : P.underlying t = some (.slice e)) (hi : P.info? e = some i) (hz : i.zero = some z)
    (hsize : i.size = 1) (hby : i.bytes = bytes) (hzs : z.cells.size = 1)
    (V : Option Addr) (n cv : Nat) (xs : List Value) (hs : a.eval s = .slice V n cv) (hown : w.ownsRow base e 1 (.slice V n cv) n xs)
    (A : Option Addr) (m c : Nat) (news : List Value) (hx : a.eval x = .slice A m c) (hr : Rd w A m c news) (h1 : ∀ u ∈ news, u.oneCell' = true)
    (h63 : n + m ≤ maxLen) (hbytes : (n + m) * bytes ≤ 140737488355328) (hbase : base ≤ w.heap.size)
    (h : ∀ V' c' w', w'.ownsRow base e 1 (.slice V' (n + m) c') (n + m) (xs ++ news) → Below base w w' → K (a.put o.dst (.slice V' (n + m) c')) w') :
    if Region.wanted o (yielded ops a.tmps) = true then Oper.wp P o a w K Q else E := by
  have hw : Region.wanted o (yielded ops a.tmps) = true := by simp [Region.wanted, hgd]
  rw [if_pos hw]
  rcases A with _ | ad
  · have hc : c = 0 := hr.nil rfl
    have hm : m = 0 := by have := hr.le; omega
    subst hc; subst hm
    have hn : news = [] := List.eq_nil_of_length_eq_zero hr.len
    subst hn
    have hrun := run_append_owned_none (P := P) (w := w) base t o.type e i 1 ht hi _ n xs hown
    unfold Oper.wp
    simp [execOp, ho, resolve, invoke, builtin, hs, hx, hrun, Result.andThen]
    exact h V cv w (by simpa using hown) (Below.refl _ _)
  · refine wp_append_own w s x t ho base e i z 1 bytes ht hi hz hsize hby hzs (by omega) _ n xs hs hown ad m c news hx (by rw [hr.len, Nat.mul_one]) (hr.cells _ rfl) h1 h63 hbytes hbase
      fun v' w' hown' hg _ => ?_
    obtain ⟨V', c', rfl, _⟩ := Rd.of_own hown'
    exact h V' c' w' hown' ((Below.refl _ _).grown hg hbase fun k hk => (hown.lt k hk).1)
end Go.Proofs.YthkbmmebfkaphaaDoor.Dsk
/- The document's drop and put: a new row of files, in the place of the old one. -/
namespace Go.Proofs.YthkbmmebfkaphaaDoor.Dsk
open Go.RowKit Mem Cod

theorem cellsF_snoc (hs : List Hf) (h : Hf) : cellsF (hs ++ [h]) = cellsF hs ++ h.cells := by simp [cellsF]
theorem drop_keep {l : List Fl} {s : ByteArray} {k : Nat} {f : Fl} (hk : l[k]? = some f) (h : eqn f.nm s = false) : drop s (l.take (k + 1)) = drop s (l.take k) ++ [f] := by
  unfold drop
  rw [List.take_add_one, hk, List.filter_append]
  simp [h]
theorem drop_out {l : List Fl} {s : ByteArray} {k : Nat} {f : Fl} (hk : l[k]? = some f) (h : eqn f.nm s = true) : drop s (l.take (k + 1)) = drop s (l.take k) := by
  unfold drop
  rw [List.take_add_one, hk, List.filter_append]
  simp [h]
theorem put_done {f y : Fl} : ∀ {a : List Fl}, (∃ x ∈ a, gtn x.nm f.nm = true) → put f (a ++ [y]) = put f a ++ [y]
  | [], ⟨_, hx, _⟩ => by cases hx
  | z :: a, ⟨x, hx, hg⟩ => by
    rw [List.cons_append]
    unfold put
    by_cases hz : gtn z.nm f.nm = true
    · rw [if_pos hz, if_pos hz]
      rfl
    · rw [if_neg hz, if_neg hz]
      rcases List.mem_cons.1 hx with rfl | hx
      · exact absurd hg hz
      · rw [put_done ⟨x, hx, hg⟩]
        rfl
theorem put_end {f : Fl} : ∀ {a : List Fl}, (∀ x ∈ a, gtn x.nm f.nm = false) → put f a = a ++ [f]
  | [], _ => rfl
  | z :: a, h => by
    unfold put
    rw [if_neg (by rw [h z (by simp)]; decide), put_end fun x hx => h x (List.mem_cons_of_mem _ hx)]
    rfl
theorem put_here {f y : Fl} (hy : gtn y.nm f.nm = true) : ∀ {a : List Fl}, (∀ x ∈ a, gtn x.nm f.nm = false) → put f (a ++ [y]) = a ++ [f] ++ [y]
  | [], _ => by
    show put f [y] = [f, y]
    unfold put
    rw [if_pos hy]
  | z :: a, h => by
    rw [List.cons_append]
    unfold put
    rw [if_neg (by rw [h z (by simp)]; decide), put_here hy fun x hx => h x (List.mem_cons_of_mem _ hx)]
    rfl
theorem take_snoc {l : List Fl} {k : Nat} {f : Fl} (hk : l[k]? = some f) : l.take (k + 1) = l.take k ++ [f] := by
  rw [List.take_add_one, hk]
  rfl
end Go.Proofs.YthkbmmebfkaphaaDoor.Dsk
/- A file of a row written over in memory: its sure bytes, its tail; the document's disk taken apart and put together. -/
namespace Go.Proofs.YthkbmmebfkaphaaDoor.Dsk
open Go.RowKit Mem Cod

theorem cellsF_set1 : ∀ (hs : List Hf) (k : Nat) (h : Hf) (f' : Fl) (NA : Option Addr) (nc : Nat), hs[k]? = some h → f'.nm = h.f.nm → f'.tail = h.f.tail →
    (cellsF hs).set (k * 3 + 1) (.slice NA f'.sure.length nc) = cellsF (hs.set k ⟨f', NA, nc, h.TA, h.tc⟩)
  | [], k, h, f', NA, nc, hk, _, _ => by cases hk
  | x :: hs, 0, h, f', NA, nc, hk, e1, e2 => by
    injection hk with hk
    subst hk
    have a : cellsF (x :: hs) = .string x.f.nm :: .slice x.SA x.f.sure.length x.sc :: .slice x.TA x.f.tail.length x.tc :: cellsF hs := rfl
    have b : cellsF (⟨f', NA, nc, x.TA, x.tc⟩ :: hs) = .string f'.nm :: .slice NA f'.sure.length nc :: .slice x.TA f'.tail.length x.tc :: cellsF hs := rfl
    rw [List.set_cons_zero, a, b, e1, e2]
    rfl
  | x :: hs, k + 1, h, f', NA, nc, hk, e1, e2 => by
    have ih := cellsF_set1 hs k h f' NA nc hk e1 e2
    have e : (k + 1) * 3 + 1 = k * 3 + 1 + 1 + 1 + 1 := by omega
    have a : cellsF (x :: hs) = .string x.f.nm :: .slice x.SA x.f.sure.length x.sc :: .slice x.TA x.f.tail.length x.tc :: cellsF hs := rfl
    have b : cellsF (x :: hs.set k ⟨f', NA, nc, h.TA, h.tc⟩) = .string x.f.nm :: .slice x.SA x.f.sure.length x.sc :: .slice x.TA x.f.tail.length x.tc :: cellsF (hs.set k ⟨f', NA, nc, h.TA, h.tc⟩) := rfl
    rw [List.set_cons_succ, b, ← ih, a, e]
    simp only [List.set_cons_succ]
theorem cellsF_set2 : ∀ (hs : List Hf) (k : Nat) (h : Hf) (f' : Fl) (NA : Option Addr) (nc : Nat), hs[k]? = some h → f'.nm = h.f.nm → f'.sure = h.f.sure →
    (cellsF hs).set (k * 3 + 2) (.slice NA f'.tail.length nc) = cellsF (hs.set k ⟨f', h.SA, h.sc, NA, nc⟩)
  | [], k, h, f', NA, nc, hk, _, _ => by cases hk
  | x :: hs, 0, h, f', NA, nc, hk, e1, e2 => by
    injection hk with hk
    subst hk
    have a : cellsF (x :: hs) = .string x.f.nm :: .slice x.SA x.f.sure.length x.sc :: .slice x.TA x.f.tail.length x.tc :: cellsF hs := rfl
    have b : cellsF (⟨f', x.SA, x.sc, NA, nc⟩ :: hs) = .string f'.nm :: .slice x.SA f'.sure.length x.sc :: .slice NA f'.tail.length nc :: cellsF hs := rfl
    rw [List.set_cons_zero, a, b, e1, e2]
    rfl
  | x :: hs, k + 1, h, f', NA, nc, hk, e1, e2 => by
    have ih := cellsF_set2 hs k h f' NA nc hk e1 e2
    have e : (k + 1) * 3 + 2 = k * 3 + 2 + 1 + 1 + 1 := by omega
    have a : cellsF (x :: hs) = .string x.f.nm :: .slice x.SA x.f.sure.length x.sc :: .slice x.TA x.f.tail.length x.tc :: cellsF hs := rfl
    have b : cellsF (x :: hs.set k ⟨f', h.SA, h.sc, NA, nc⟩) = .string x.f.nm :: .slice x.SA x.f.sure.length x.sc :: .slice x.TA x.f.tail.length x.tc :: cellsF (hs.set k ⟨f', h.SA, h.sc, NA, nc⟩) := rfl
    rw [List.set_cons_succ, b, ← ih, a, e]
    simp only [List.set_cons_succ]
theorem set_is {l : List Hf} {k : Nat} (h' : Hf) : (l.set k h').map (·.f) = (l.map (·.f)).set k h'.f ∧ ∀ x ∈ l.set k h', x = h' ∨ x ∈ l := by
  refine ⟨List.map_set, fun x hx => ?_⟩
  rcases List.mem_or_eq_of_mem_set hx with hx | hx
  · exact .inr hx
  · exact .inl hx
/-- No bytes lie anywhere. -/
theorem RdS.none_ (S : Nat → Prop) (w : World) : RdS S w none 0 0 [] := ⟨Rd.nil_ w, fun h => absurd h (by omega)⟩
/-- What the calls are asked of: room for at most 2^40 bytes. -/
def Fine (d : Dk) : Prop := Fits d ∧ d.room ≤ 1099511627776 ∧ -9223372036854775808 ≤ d.fuse ∧ d.fuse ≤ 9223372036854775807
theorem Fine.used {d : Dk} (h : Fine d) : Dsk.used d.fs ≤ 1099511627776 := by
  obtain ⟨⟨h1, h2, h3⟩, h4, _⟩ := h
  omega
theorem Fine.length {d : Dk} (h : Fine d) : d.fs.length ≤ 16 := h.1.2.2
theorem len_used {l : List Fl} {k : Nat} {f : Fl} (h : l[k]? = some f) : f.sure.length + f.tail.length ≤ Dsk.used l := by
  have h1 := used_take h
  have h2 := used_le l (k + 1)
  have h3 : f.len = f.sure.length + f.tail.length := rfl
  omega
theorem Fine.deed {d : Dk} (h : Fine d) : Fine (deed d) := by
  obtain ⟨h1, h2, h3, h4⟩ := h
  refine ⟨fits_deed h1, by rw [(deed_fs d).2]; exact h2, ?_, ?_⟩
  · unfold Dsk.deed
    split
    · exact h3
    · split
      · show -9223372036854775808 ≤ d.fuse - 1
        omega
      · exact h3
  · unfold Dsk.deed
    split
    · exact h4
    · split
      · show d.fuse - 1 ≤ 9223372036854775807
        omega
      · exact h4
theorem modify_set {l : List Fl} {k : Nat} {f : Fl} (g : Fl → Fl) (h : l[k]? = some f) : l.modify k g = l.set k (g f) := by
  apply List.ext_getElem?
  intro j
  rw [List.getElem?_modify, List.getElem?_set]
  by_cases e : k = j
  · subst e
    obtain ⟨hi, rfl⟩ := List.getElem?_eq_some_iff.1 h
    simp [hi]
  · simp [e]
end Go.Proofs.YthkbmmebfkaphaaDoor.Dsk
/- The document's Sync. -/
namespace Go.Proofs.YthkbmmebfkaphaaDoor.Dsk
open Go.RowKit Mem Cod

end Go.Proofs.YthkbmmebfkaphaaDoor.Dsk
/- The document's Remove, Read and Move. -/
namespace Go.Proofs.YthkbmmebfkaphaaDoor.Dsk
open Go.RowKit Mem Cod

end Go.Proofs.YthkbmmebfkaphaaDoor.Dsk
/- The document's Move. -/
namespace Go.Proofs.YthkbmmebfkaphaaDoor.Dsk
open Go.RowKit Mem Cod

end Go.Proofs.YthkbmmebfkaphaaDoor.Dsk
/- The document's Cut. -/
namespace Go.Proofs.YthkbmmebfkaphaaDoor.Dsk
open Go.RowKit Mem Cod

theorem RdS.take {S : Nat → Prop} {w : World} {A : Option Addr} {n c k : Nat} {bs : List Nat} (h : RdS S w A n c bs) (hk : k ≤ n) : RdS S w A k c (bs.take k) := by
  refine ⟨?_, fun h0 => h.2 (by omega)⟩
  have h1 := h.1.take hk
  rw [cs_take] at h1
  exact h1
end Go.Proofs.YthkbmmebfkaphaaDoor.Dsk
/- The document's Append. -/
namespace Go.Proofs.YthkbmmebfkaphaaDoor.Dsk
open Go.RowKit Mem Cod

end Go.Proofs.YthkbmmebfkaphaaDoor.Dsk
/- The document's Boot. -/
namespace Go.Proofs.YthkbmmebfkaphaaDoor.Dsk
open Go.RowKit Mem Cod

/-- How many bytes of a tail stay. -/
def stays (y : Nat) (ks : List Int) (k : Nat) : Nat := if 0 < y ∧ k < ks.length then (max 0 (min (ks.getD k 0) (y : Int))).toNat else y
theorem stays_le (y : Nat) (ks : List Int) (k : Nat) : stays y ks k ≤ y := by
  unfold stays
  split <;> omega
theorem bootFs_step (f : Fl) (r : List Fl) (ks : List Int) (k : Nat) : bootFs (f :: r) (ks.drop k) = ⟨f.nm, f.sure ++ f.tail.take (stays f.tail.length ks k), []⟩ :: bootFs r (ks.drop (if 0 < f.tail.length then k + 1 else k)) := by
  obtain ⟨nm, sure, tail⟩ := f
  rw [bootFs.eq_def]
  simp only
  by_cases h0 : tail = []
  · subst h0
    simp
  · have hp : 0 < tail.length := by cases tail; exact absurd rfl h0; simp
    rw [if_neg h0, if_pos hp]
    by_cases hk : k < ks.length
    · have hs : stays tail.length ks k = (max 0 (min (ks.getD k 0) (tail.length : Int))).toNat := by unfold stays; rw [if_pos ⟨hp, hk⟩]
      have hd : ks.drop k = ks.getD k 0 :: ks.drop (k + 1) := by rw [List.drop_eq_getElem_cons hk, List.getD_eq_getElem?_getD, List.getElem?_eq_getElem hk]; rfl
      rw [hd]
      simp only [hs]
    · have hs : stays tail.length ks k = tail.length := by unfold stays; rw [if_neg (by omega)]
      rw [List.drop_of_length_le (Nat.le_of_not_lt hk), List.drop_of_length_le (by omega : ks.length ≤ k + 1)]
      simp only [hs, List.take_length]
      rfl
theorem bootFs_nil (ks : List Int) : bootFs [] ks = [] := by rw [bootFs]
def vs (ks : List Int) : List Value := ks.map fun z => .int .i64 z
end Go.Proofs.YthkbmmebfkaphaaDoor.Dsk
