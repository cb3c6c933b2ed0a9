/-
  Texts of earlier layers, as one.
-/
import Derived.Test.YthkbmmebfkaphaaDoorDskHave
import Derived.Test.YthkbmmebfkaphaaDoorDskKey
/- The program's disk in memory: its box, its map, and of each file a box and a row of bytes, all apart; what keeps it, and what a step makes of it. -/
namespace Go.Proofs.YthkbmmebfkaphaaDoor.Dsk
open Go.RowKit Mem Go.Maps

def Pf.val (h : Pf) : Value := .slice h.A h.f.all.length h.c
def Pf.has (h : Pf) (k : Nat) : Prop := k = h.b ∨ h.val.ownBlock = some k
structure PfIn (w : World) (h : Pf) : Prop where
  box : Blk w h.b 61 #[h.val, .int .i64 (h.f.sure.length : Int)]
  row : w.ownsRow 0 5 1 h.val h.f.all.length (cs h.f.all)
  self : h.val.ownBlock ≠ some h.b
theorem row_keep {w w' : World} {e : TypeId} {v : Value} {n : Nat} {xs : List Value} (h : w.ownsRow 0 e 1 v n xs) (hs : ∀ k, v.ownBlock = some k → w'.heap[k]? = w.heap[k]?) : w'.ownsRow 0 e 1 v n xs := by
  refine ⟨h.1, ?_⟩
  rcases h.2 with e | ⟨g, cap, cur, e, hb, hg, r⟩
  · exact .inl e
  · exact .inr ⟨g, cap, cur, e, hb, (hs g (by rw [e]; rfl)).trans hg, r⟩
theorem PfIn.lt {w : World} {h : Pf} (hi : PfIn w h) {k : Nat} (hk : h.has k) : k < w.heap.size := by
  rcases hk with rfl | hk
  · exact hi.box.lt
  · exact (hi.row.lt k hk).2
theorem PfIn.keep {w w' : World} {h : Pf} (hi : PfIn w h) (hs : ∀ k, h.has k → w'.heap[k]? = w.heap[k]?) : PfIn w' h :=
  ⟨(hs h.b (.inl rfl)).trans hi.box, row_keep hi.row fun k hk => hs k (.inr hk), hi.self⟩
structure Own (w : World) (S : Nat → Prop) (p m : Nat) (d : Dk) (hs : List Pf) : Prop where
  box : Blk w p 48 #[.map (some m), .int .i64 d.room, .int .i64 d.fuse, .bool d.dn]
  map : w.ownsMap Tryd.prog 9 ptrElem m hs.length (.map (ent hs))
  fs : hs.map (·.f) = d.fs
  up : Rising d.fs
  file : ∀ h ∈ hs, PfIn w h
  off : ∀ h ∈ hs, ∀ x ∈ hs, h.f.nm ≠ x.f.nm → ∀ k, h.has k → ¬ x.has k
  out : ∀ h ∈ hs, ∀ k, h.has k → k ≠ p ∧ k ≠ m ∧ S k
  pm : p ≠ m
  sp : S p
  sm : S m
  lt : ∀ k, S k → k < w.heap.size
/-- The program's disk. -/
def DI : Held := fun w S p d => ∃ m hs, Own w S p m d hs
theorem map_keep {w w' : World} {m n : Nat} {D : DataW Unit} (h : w.ownsMap Tryd.prog 9 ptrElem m n D) (hs : w'.heap[m]? = w.heap[m]?) : w'.ownsMap Tryd.prog 9 ptrElem m n D := by
  obtain ⟨es, clock, hb, r⟩ := h
  exact ⟨es, clock, hs.trans hb, r⟩
theorem map_size {w : World} {m n : Nat} {hs : List Pf} (h : w.ownsMap Tryd.prog 9 ptrElem m n (.map (ent hs))) : w.ownsMap Tryd.prog 9 ptrElem m hs.length (.map (ent hs)) := by
  obtain ⟨es, clock, hb, hF, hn, hD⟩ := h
  refine ⟨es, clock, hb, hF, ?_, hD⟩
  have h1 := congrArg Maps.size hD
  rw [size_ent] at h1
  rw [h1]
  show es.size ≤ ((es.toList.map (WideElems.rg Tryd.prog 9 ptrElem)).foldr DataW.insert []).length
  rw [length_sorted, List.length_map, Array.length_toList]
  exact Nat.le_refl _
section
variable {w w' : World} {S S' T : Nat → Prop} {p m : Nat} {d d' : Dk} {hs : List Pf}
theorem Own.same (h : Own w S p m d hs) (hz : w.heap.size ≤ w'.heap.size) (hk : ∀ k, (k = p ∨ k = m ∨ ∃ x ∈ hs, x.has k) → w'.heap[k]? = w.heap[k]?) : Own w' S p m d hs where
  box := (hk p (.inl rfl)).trans h.box
  map := map_keep h.map (hk m (.inr (.inl rfl)))
  fs := h.fs
  up := h.up
  file := fun x hx => (h.file x hx).keep fun k hk' => hk k (.inr (.inr ⟨x, hx, hk'⟩))
  off := h.off
  out := h.out
  pm := h.pm
  sp := h.sp
  sm := h.sm
  lt := fun k hS => Nat.lt_of_lt_of_le (h.lt k hS) hz
theorem Own.inS (h : Own w S p m d hs) {k : Nat} (hk : k = p ∨ k = m ∨ ∃ x ∈ hs, x.has k) : S k := by
  rcases hk with rfl | rfl | ⟨x, hx, hk⟩
  · exact h.sp
  · exact h.sm
  · exact (h.out x hx k hk).2.2
theorem Own.keep (h : Own w S p m d hs) (hk : Keeps T w w') (hd : ∀ b, S b → ¬ T b) : Own w' S p m d hs :=
  h.same hk.size fun k hk' => hk.block k (h.lt k (h.inS hk')) (hd k (h.inS hk'))
theorem Own.below (h : Own w S p m d hs) (hb : Below w.heap.size w w') : Own w' S p m d hs := h.keep (T := fun _ => False) (Keeps.ofBelow hb) fun _ _ h => h
theorem Own.more (h : Own w S p m d hs) (hS : ∀ k, S k → S' k) (hl : ∀ k, S' k → k < w.heap.size) : Own w S' p m d hs where
  box := h.box
  map := h.map
  fs := h.fs
  up := h.up
  file := h.file
  off := h.off
  out := fun x hx k hk => ⟨(h.out x hx k hk).1, (h.out x hx k hk).2.1, hS k (h.out x hx k hk).2.2⟩
  pm := h.pm
  sp := hS p h.sp
  sm := hS m h.sm
  lt := hl
/-- The disk's own box was turned. -/
theorem Own.setp (h : Own w S p m d hs) (hg : w.grownBy w' (some p)) (hb : Blk w' p 48 #[.map (some m), .int .i64 d'.room, .int .i64 d'.fuse, .bool d'.dn]) (hf : d'.fs = d.fs) : Own w' S p m d' hs where
  box := hb
  map := map_keep h.map (hg.block m (h.lt m h.sm) fun e => h.pm (by injection e with e; exact e.symm))
  fs := h.fs.trans hf.symm
  up := by rw [hf]; exact h.up
  file := fun x hx => (h.file x hx).keep fun k hk => hg.block k ((h.file x hx).lt hk) fun e => (h.out x hx k hk).1 (by injection e)
  off := h.off
  out := h.out
  pm := h.pm
  sp := h.sp
  sm := h.sm
  lt := fun k hS => Nat.lt_of_lt_of_le (h.lt k hS) hg.size
/-- With what is new. -/
def Plus (S : Nat → Prop) (w w' : World) (k : Nat) : Prop := S k ∨ (w.heap.size ≤ k ∧ k < w'.heap.size)
theorem plus_grew : Grew S (Plus S w w') w := fun _ h => h.imp id fun h => h.1
theorem plus_lt (h : ∀ k, S k → k < w.heap.size) (hs : w.heap.size ≤ w'.heap.size) : ∀ k, Plus S w w' k → k < w'.heap.size := fun k hk => hk.elim (fun h' => Nat.lt_of_lt_of_le (h k h') hs) fun h' => h'.2
theorem map_set_fs {hs : List Pf} {i : Nat} {x' : Pf} : (hs.set i x').map (·.f) = (hs.map (·.f)).set i x'.f := List.map_set
theorem ent_set {hs : List Pf} {i : Nat} {x x' : Pf} (hx : hs[i]? = some x) (hb : x'.b = x.b) (hn : x'.f.nm = x.f.nm) : ent (hs.set i x') = ent hs := by
  unfold ent
  rw [List.map_set]
  apply List.ext_getElem?
  intro j
  rw [List.getElem?_set]
  split
  · rename_i e
    subst e
    obtain ⟨hlt, rfl⟩ := List.getElem?_eq_some_iff.1 hx
    simp only [List.length_map, hlt, if_true, List.getElem?_map, List.getElem?_eq_getElem hlt, Option.map_some]
    unfold entry
    rw [hb, hn]
  · rfl
theorem names_set {hs : List Pf} {i : Nat} {x x' : Pf} (hx : hs[i]? = some x) (hn : x'.f.nm = x.f.nm) : ((hs.set i x').map (·.f)).map (·.nm) = (hs.map (·.f)).map (·.nm) := by
  apply List.ext_getElem?
  intro j
  simp only [List.map_map, List.getElem?_map, List.getElem?_set]
  split
  · rename_i e
    subst e
    obtain ⟨hlt, rfl⟩ := List.getElem?_eq_some_iff.1 hx
    simp [hlt, hn]
  · rfl
/-- A file was turned: its box, its bytes where they lay, or in new memory. -/
theorem Own.setf {i : Nat} {x x' : Pf} (h : Own w S p m d hs) (hx : hs[i]? = some x) (hk : Keeps x.has w w') (hb : x'.b = x.b) (hn : x'.f.nm = x.f.nm) (hin : PfIn w' x') (hr : ∀ k, x'.val.ownBlock = some k → x.val.ownBlock = some k ∨ w.heap.size ≤ k)
    (hd : d' = { d with fs := d.fs.set i x'.f }) : Own w' (Plus S w w') p m d' (hs.set i x') := by
  subst hd
  have hmx : x ∈ hs := List.mem_of_getElem? hx
  have hup : Rising (hs.map (·.f)) := by rw [h.fs]; exact h.up
  have hmem : ∀ y ∈ hs.set i x', y = x' ∨ (y ∈ hs ∧ y.f.nm ≠ x.f.nm) := by
    intro y hy
    obtain ⟨j, hj⟩ := List.getElem?_of_mem hy
    rw [List.getElem?_set] at hj
    split at hj
    · split at hj
      · injection hj with hj
        exact .inl hj.symm
      · cases hj
    · rename_i hij
      refine .inr ⟨List.mem_of_getElem? hj, fun e => hij ?_⟩
      have hyx := rising_one hup (List.mem_of_getElem? hj) hmx e
      subst hyx
      have h1 : hs.Pairwise fun a b => (key a.f.nm).before (key b.f.nm) = true := List.pairwise_map.1 hup
      rw [List.pairwise_iff_getElem] at h1
      obtain ⟨l1, e1⟩ := List.getElem?_eq_some_iff.1 hx
      obtain ⟨l2, e2⟩ := List.getElem?_eq_some_iff.1 hj
      rcases Nat.lt_trichotomy i j with h' | h' | h'
      · exact absurd (by rw [e1, e2]) (before_ne (h1 i j l1 l2 h'))
      · exact h'
      · exact absurd (by rw [e1, e2]) (before_ne (h1 j i l2 l1 h'))
  have hhas : ∀ k, x'.has k → x.has k ∨ w.heap.size ≤ k := by
    rintro k (rfl | hk')
    · exact .inl (.inl hb)
    · exact (hr k hk').imp .inr id
  have hnot : ∀ y ∈ hs, y.f.nm ≠ x.f.nm → ∀ k, y.has k → ¬ x'.has k := by
    intro y hy hne k hyk hxk
    rcases hhas k hxk with h' | h'
    · exact h.off y hy x hmx hne k hyk h'
    · have := (h.file y hy).lt hyk
      omega
  have hold : ∀ k, k < w.heap.size → ¬ x.has k → w'.heap[k]? = w.heap[k]? := hk.block
  refine ⟨?_, ?_, ?_, ?_, ?_, ?_, ?_, h.pm, .inl h.sp, .inl h.sm, plus_lt h.lt hk.size⟩
  · exact (hold p (h.lt p h.sp) fun e => (h.out x hmx p e).1 rfl).trans h.box
  · rw [ent_set hx hb hn, List.length_set]
    exact map_keep h.map (hold m (h.lt m h.sm) fun e => (h.out x hmx m e).2.1 rfl)
  · rw [map_set_fs, h.fs]
  · show Rising (d.fs.set i x'.f)
    rw [← h.fs, ← map_set_fs]
    exact rising_map hup (names_set hx hn)
  · intro y hy
    rcases hmem y hy with rfl | ⟨hy, hne⟩
    · exact hin
    · exact (h.file y hy).keep fun k hk' => hold k ((h.file y hy).lt hk') fun e => h.off y hy x hmx hne k hk' e
  · intro y hy z hz hne k hyk hzk
    rcases hmem y hy with ey | ⟨hy1, hne1⟩
    · rcases hmem z hz with ez | ⟨hz1, hne2⟩
      · exact hne (by rw [ey, ez])
      · exact hnot z hz1 hne2 k hzk (ey ▸ hyk)
    · rcases hmem z hz with ez | ⟨hz1, hne2⟩
      · exact hnot y hy1 hne1 k hyk (ez ▸ hzk)
      · exact h.off y hy1 z hz1 hne k hyk hzk
  · intro y hy k hk'
    rcases hmem y hy with rfl | ⟨hy, hne⟩
    · rcases hhas k hk' with h' | h'
      · obtain ⟨o1, o2, o3⟩ := h.out x hmx k h'
        exact ⟨o1, o2, .inl o3⟩
      · have h1 := h.lt p h.sp
        have h2 := h.lt m h.sm
        exact ⟨by omega, by omega, .inr ⟨h', hin.lt hk'⟩⟩
    · obtain ⟨o1, o2, o3⟩ := h.out y hy k hk'
      exact ⟨o1, o2, .inl o3⟩
/-- A file that isn't there any more. -/
theorem Own.dropf {s : ByteArray} (h : Own w S p m d hs) (hg : w.grownBy w' (some m)) (hm : w'.ownsMap Tryd.prog 9 ptrElem m hs.length (.map (ent (dropP s hs)))) : Own w' S p m { d with fs := drop s d.fs } (dropP s hs) where
  box := (hg.block p (h.lt p h.sp) fun e => h.pm (by injection e)).trans h.box
  map := map_size hm
  fs := by rw [dropP_fs, h.fs]
  up := rising_drop h.up s
  file := fun x hx => (h.file x (mem_dropP.1 hx).1).keep fun k hk => hg.block k ((h.file x (mem_dropP.1 hx).1).lt hk) fun e => (h.out x (mem_dropP.1 hx).1 k hk).2.1 (by injection e)
  off := fun x hx y hy => h.off x (mem_dropP.1 hx).1 y (mem_dropP.1 hy).1
  out := fun x hx => h.out x (mem_dropP.1 hx).1
  pm := h.pm
  sp := h.sp
  sm := h.sm
  lt := fun k hS => Nat.lt_of_lt_of_le (h.lt k hS) hg.size
/-- A file that is put in its place. -/
theorem Own.putf {x : Pf} (h : Own w S p m d hs) (hg : w.grownBy w' (some m)) (hm : w'.ownsMap Tryd.prog 9 ptrElem m (hs.length + 1) ((DataW.map (ent hs)).put (key x.f.nm) (.lit (.int .u64 (x.b : Int)))))
    (hin : PfIn w x) (ho : ∀ k, x.has k → k ≠ p ∧ k ≠ m ∧ S k) (hoff : ∀ y ∈ hs, y.f.nm ≠ x.f.nm → ∀ k, y.has k → ¬ x.has k) :
    Own w' S p m { d with fs := put x.f (drop x.f.nm d.fs) } (putP x (dropP x.f.nm hs)) := by
  have hmem : ∀ y, y ∈ putP x (dropP x.f.nm hs) → y = x ∨ (y ∈ hs ∧ y.f.nm ≠ x.f.nm) := fun y hy => (mem_putP.1 hy).imp id fun h => mem_dropP.1 h
  have hkeep : ∀ y, PfIn w y → (∀ k, y.has k → k ≠ m) → PfIn w' y := fun y hy hne => hy.keep fun k hk => hg.block k (hy.lt hk) fun e => hne k hk (by injection e)
  refine ⟨(hg.block p (h.lt p h.sp) fun e => h.pm (by injection e)).trans h.box, ?_, ?_, ?_, ?_, ?_, ?_, h.pm, h.sp, h.sm, fun k hS => Nat.lt_of_lt_of_le (h.lt k hS) hg.size⟩
  · rw [put_ent] at hm
    exact map_size hm
  · rw [putP_fs, dropP_fs, h.fs]
  · refine rising_put (rising_drop h.up _) fun y hy e => ?_
    unfold drop at hy
    have := (List.mem_filter.1 hy).2
    rw [e, eqn_self] at this
    cases this
  · intro y hy
    rcases hmem y hy with rfl | ⟨hy, hne⟩
    · exact hkeep _ hin fun k hk => (ho k hk).2.1
    · exact hkeep _ (h.file y hy) fun k hk => (h.out y hy k hk).2.1
  · intro y hy z hz hne k hyk hzk
    rcases hmem y hy with ey | ⟨hy1, hne1⟩
    · rcases hmem z hz with ez | ⟨hz1, hne2⟩
      · exact hne (by rw [ey, ez])
      · exact hoff z hz1 hne2 k hzk (ey ▸ hyk)
    · rcases hmem z hz with ez | ⟨hz1, hne2⟩
      · exact hoff y hy1 hne1 k hyk (ez ▸ hzk)
      · exact h.off y hy1 z hz1 hne k hyk hzk
  · intro y hy k hk
    rcases hmem y hy with rfl | ⟨hy, hne⟩
    · exact ho k hk
    · exact h.out y hy k hk
theorem Own.length (h : Own w S p m d hs) : hs.length = d.fs.length := by rw [← h.fs, List.length_map]
theorem Own.cells (h : Own w S p m d hs) : w.cell? ⟨p, 0, none⟩ = some (.map (some m)) ∧ w.cell? ⟨p, 1, none⟩ = some (.int .i64 d.room) ∧ w.cell? ⟨p, 2, none⟩ = some (.int .i64 d.fuse) ∧ w.cell? ⟨p, 3, none⟩ = some (.bool d.dn) :=
  ⟨h.box.cell 0, h.box.cell 1, h.box.cell 2, h.box.cell 3⟩
theorem PfIn.cells {x : Pf} (h : PfIn w x) : w.cell? ⟨x.b, 0, none⟩ = some (.slice x.A x.f.all.length x.c) ∧ w.cell? ⟨x.b, 1, none⟩ = some (.int .i64 (x.f.sure.length : Int)) := ⟨h.box.cell 0, h.box.cell 1⟩
/-- What the map has at a name. -/
theorem Own.find (h : Own w S p m d hs) {s : ByteArray} (hs' : s.size ≤ maxLen) : (Instr.lookup 46 (.map (some m)) (.string s) false).run Tryd.prog w = .ok (pv (look hs s)) w := by
  obtain ⟨v, ps, hrun, hv⟩ := h.map.lookup (t := 46) (e := 59) (string_keyed Tryd.underlying9) Tryd.underlying46 (Tryd.zeroValue59 w) (zd := .nil) (zp := []) rfl (WideMaps.keyOf_string_mk Tryd.underlying9 hs')
  have e := at_ent hs s
  unfold key at e
  rw [e] at hv
  rw [pv_dat hv] at hrun
  exact hrun
end
end Go.Proofs.YthkbmmebfkaphaaDoor.Dsk
