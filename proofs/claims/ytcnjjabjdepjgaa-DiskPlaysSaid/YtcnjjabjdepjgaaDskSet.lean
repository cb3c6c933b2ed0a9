/-
  Texts of earlier layers, as one.
-/
import Derived.Test.YtcnjjabjdepjgaaDskRows
/- A file of a row written over in memory: its sure bytes, its tail; the document's disk taken apart and put together. -/
namespace Go.Proofs.Ytcnjjabjdepjgaa.Dsk
open Go.RowKit Mem Cod

theorem cellsF_set1 : ∀ (hs : List Hf) (k : Nat) (h : Hf) (f' : Fl) (NA : Option Addr) (nc : Nat), hs[k]? = some h → f'.nm = h.f.nm → f'.tail = h.f.tail →
    (cellsF hs).set (k * 3 + 1) (.slice NA f'.sure.length nc) = cellsF (hs.set k ⟨f', NA, nc, h.TA, h.tc⟩)
  | [], k, h, f', NA, nc, hk, _, _ => by cases hk
  | x :: hs, 0, h, f', NA, nc, hk, e1, e2 => by
    injection hk with hk
    subst hk
    have a : cellsF (x :: hs) = .string x.f.nm :: .slice x.SA x.f.sure.length x.sc :: .slice x.TA x.f.tail.length x.tc :: cellsF hs := rfl
    have b : cellsF (⟨f', NA, nc, x.TA, x.tc⟩ :: hs) = .string f'.nm :: .slice NA f'.sure.length nc :: .slice x.TA f'.tail.length x.tc :: cellsF hs := rfl
    rw [List.set_cons_zero, a, b, e1, e2]
    rfl
  | x :: hs, k + 1, h, f', NA, nc, hk, e1, e2 => by
    have ih := cellsF_set1 hs k h f' NA nc hk e1 e2
    have e : (k + 1) * 3 + 1 = k * 3 + 1 + 1 + 1 + 1 := by omega
    have a : cellsF (x :: hs) = .string x.f.nm :: .slice x.SA x.f.sure.length x.sc :: .slice x.TA x.f.tail.length x.tc :: cellsF hs := rfl
    have b : cellsF (x :: hs.set k ⟨f', NA, nc, h.TA, h.tc⟩) = .string x.f.nm :: .slice x.SA x.f.sure.length x.sc :: .slice x.TA x.f.tail.length x.tc :: cellsF (hs.set k ⟨f', NA, nc, h.TA, h.tc⟩) := rfl
    rw [List.set_cons_succ, b, ← ih, a, e]
    simp only [List.set_cons_succ]
theorem cellsF_set2 : ∀ (hs : List Hf) (k : Nat) (h : Hf) (f' : Fl) (NA : Option Addr) (nc : Nat), hs[k]? = some h → f'.nm = h.f.nm → f'.sure = h.f.sure →
    (cellsF hs).set (k * 3 + 2) (.slice NA f'.tail.length nc) = cellsF (hs.set k ⟨f', h.SA, h.sc, NA, nc⟩)
  | [], k, h, f', NA, nc, hk, _, _ => by cases hk
  | x :: hs, 0, h, f', NA, nc, hk, e1, e2 => by
    injection hk with hk
    subst hk
    have a : cellsF (x :: hs) = .string x.f.nm :: .slice x.SA x.f.sure.length x.sc :: .slice x.TA x.f.tail.length x.tc :: cellsF hs := rfl
    have b : cellsF (⟨f', x.SA, x.sc, NA, nc⟩ :: hs) = .string f'.nm :: .slice x.SA f'.sure.length x.sc :: .slice NA f'.tail.length nc :: cellsF hs := rfl
    rw [List.set_cons_zero, a, b, e1, e2]
    rfl
  | x :: hs, k + 1, h, f', NA, nc, hk, e1, e2 => by
    have ih := cellsF_set2 hs k h f' NA nc hk e1 e2
    have e : (k + 1) * 3 + 2 = k * 3 + 2 + 1 + 1 + 1 := by omega
    have a : cellsF (x :: hs) = .string x.f.nm :: .slice x.SA x.f.sure.length x.sc :: .slice x.TA x.f.tail.length x.tc :: cellsF hs := rfl
    have b : cellsF (x :: hs.set k ⟨f', h.SA, h.sc, NA, nc⟩) = .string x.f.nm :: .slice x.SA x.f.sure.length x.sc :: .slice x.TA x.f.tail.length x.tc :: cellsF (hs.set k ⟨f', h.SA, h.sc, NA, nc⟩) := rfl
    rw [List.set_cons_succ, b, ← ih, a, e]
    simp only [List.set_cons_succ]
theorem set_is {l : List Hf} {k : Nat} (h' : Hf) : (l.set k h').map (·.f) = (l.map (·.f)).set k h'.f ∧ ∀ x ∈ l.set k h', x = h' ∨ x ∈ l := by
  refine ⟨List.map_set, fun x hx => ?_⟩
  rcases List.mem_or_eq_of_mem_set hx with hx | hx
  · exact .inr hx
  · exact .inl hx
/-- The cells of a file of a row may be written. -/
theorem files_soft {S : Nat → Prop} {w : World} {gr n c : Nat} {l : List Fl} (h : Files S w (some ⟨gr, 0, none⟩) n c l) (j : Nat) : w.frozen? ⟨gr, j, none⟩ = false := by
  obtain ⟨hs, hown, _, _⟩ := h
  exact hown.frozenAt j
theorem files_lt {S : Nat → Prop} {w : World} {A : Option Addr} {n c : Nat} {l : List Fl} (h : Files S w A n c l) : ∀ b, (Value.slice A n c).ownBlock = some b → b < w.heap.size := by
  obtain ⟨hs, hown, _, _⟩ := h
  exact fun b hb => (hown.lt b hb).2
theorem files_sure {S : Nat → Prop} {w : World} {gr n c k : Nat} {l : List Fl} {f : Fl} {bs : List Nat} {NA : Option Addr} {nc : Nat} (h : Files S w (some ⟨gr, 0, none⟩) n c l) (hk : l[k]? = some f) (hr : RdS (fun b => S b ∧ b ≠ gr) w NA bs.length nc bs) :
    Files S (w.setCell ⟨gr, k * 3 + 1, none⟩ (.slice NA bs.length nc)) (some ⟨gr, 0, none⟩) n c (l.set k { f with sure := bs }) ∧ w.grownBy (w.setCell ⟨gr, k * 3 + 1, none⟩ (.slice NA bs.length nc)) (some gr) := by
  obtain ⟨hs, hown, hm, hi⟩ := h
  rw [← hm, List.getElem?_map, Option.map_eq_some_iff] at hk
  obtain ⟨y, hy, rfl⟩ := hk
  obtain ⟨s1, s2⟩ := hown.stored (k * 3 + 1) (.slice NA bs.length nc)
  obtain ⟨e1, e2⟩ := set_is (l := hs) (k := k) (⟨{ y.f with sure := bs }, NA, nc, y.TA, y.tc⟩ : Hf)
  have hkeep : ∀ x, HfIn (fun b => S b ∧ some b ≠ (Value.slice (some ⟨gr, 0, none⟩) n c).ownBlock) w x → HfIn (fun b => S b ∧ some b ≠ (Value.slice (some ⟨gr, 0, none⟩) n c).ownBlock) (w.setCell ⟨gr, k * 3 + 1, none⟩ (.slice NA bs.length nc)) x :=
    fun x hx => hx.keep s2.size fun b hb hlt => ⟨hb, s2.block b hlt fun e => hb.2 (by rw [e]; rfl)⟩
  refine ⟨⟨hs.set k ⟨{ y.f with sure := bs }, NA, nc, y.TA, y.tc⟩, ?_, by rw [e1, hm], fun x hx => ?_⟩, s2⟩
  · rw [← cellsF_set1 hs k y { y.f with sure := bs } NA nc hy rfl rfl]
    exact s1
  · rcases e2 x hx with rfl | hx
    · refine ⟨?_, (hkeep y (hi y (List.mem_of_getElem? hy))).2⟩
      exact (hr.keep (S' := fun b => S b ∧ some b ≠ (Value.slice (some ⟨gr, 0, none⟩) n c).ownBlock) s2.size fun b hb hlt => ⟨⟨hb.1, fun e => hb.2 (by injection e)⟩, s2.block b hlt fun e => hb.2 (by injection e)⟩)
    · exact hkeep x (hi x hx)
theorem files_tail {S : Nat → Prop} {w : World} {gr n c k : Nat} {l : List Fl} {f : Fl} {bs : List Nat} {NA : Option Addr} {nc : Nat} (h : Files S w (some ⟨gr, 0, none⟩) n c l) (hk : l[k]? = some f) (hr : RdS (fun b => S b ∧ b ≠ gr) w NA bs.length nc bs) :
    Files S (w.setCell ⟨gr, k * 3 + 2, none⟩ (.slice NA bs.length nc)) (some ⟨gr, 0, none⟩) n c (l.set k { f with tail := bs }) ∧ w.grownBy (w.setCell ⟨gr, k * 3 + 2, none⟩ (.slice NA bs.length nc)) (some gr) := by
  obtain ⟨hs, hown, hm, hi⟩ := h
  rw [← hm, List.getElem?_map, Option.map_eq_some_iff] at hk
  obtain ⟨y, hy, rfl⟩ := hk
  obtain ⟨s1, s2⟩ := hown.stored (k * 3 + 2) (.slice NA bs.length nc)
  obtain ⟨e1, e2⟩ := set_is (l := hs) (k := k) (⟨{ y.f with tail := bs }, y.SA, y.sc, NA, nc⟩ : Hf)
  have hkeep : ∀ x, HfIn (fun b => S b ∧ some b ≠ (Value.slice (some ⟨gr, 0, none⟩) n c).ownBlock) w x → HfIn (fun b => S b ∧ some b ≠ (Value.slice (some ⟨gr, 0, none⟩) n c).ownBlock) (w.setCell ⟨gr, k * 3 + 2, none⟩ (.slice NA bs.length nc)) x :=
    fun x hx => hx.keep s2.size fun b hb hlt => ⟨hb, s2.block b hlt fun e => hb.2 (by rw [e]; rfl)⟩
  refine ⟨⟨hs.set k ⟨{ y.f with tail := bs }, y.SA, y.sc, NA, nc⟩, ?_, by rw [e1, hm], fun x hx => ?_⟩, s2⟩
  · rw [← cellsF_set2 hs k y { y.f with tail := bs } NA nc hy rfl rfl]
    exact s1
  · rcases e2 x hx with rfl | hx
    · refine ⟨(hkeep y (hi y (List.mem_of_getElem? hy))).1, ?_⟩
      exact (hr.keep (S' := fun b => S b ∧ some b ≠ (Value.slice (some ⟨gr, 0, none⟩) n c).ownBlock) s2.size fun b hb hlt => ⟨⟨hb.1, fun e => hb.2 (by injection e)⟩, s2.block b hlt fun e => hb.2 (by injection e)⟩)
    · exact hkeep x (hi x hx)
/-- No bytes lie anywhere. -/
theorem RdS.none_ (S : Nat → Prop) (w : World) : RdS S w none 0 0 [] := ⟨Rd.nil_ w, fun h => absurd h (by omega)⟩
theorem Files.more {S S' : Nat → Prop} {w : World} {A : Option Addr} {n c : Nat} {l : List Fl} (h : Files S w A n c l) (hS : ∀ b, S b → b < w.heap.size → S' b) : Files S' w A n c l :=
  h.keep (Nat.le_refl _) (fun b hb hlt => ⟨hS b hb hlt, rfl⟩) fun _ _ => rfl
/-- The document's disk, put together. -/
theorem IsRef.mk {w : World} {S : Nat → Prop} {g : Nat} {d : Dk} {A : Option Addr} {n c : Nat} (hb : Blk w g 60 #[.slice A n c, .int .i64 d.room, .int .i64 d.fuse, .bool d.dn]) (hg : S g) (hlt : ∀ k, S k → k < w.heap.size)
    (ho : ∀ b, (Value.slice A n c).ownBlock = some b → S b ∧ b ≠ g) (hf : Files (fun b => S b ∧ b ≠ g) w A n c d.fs) : IsRef w S g d := by
  have hn := hf.len
  subst hn
  exact ⟨A, c, hb, hg, hlt, ho, hf⟩
/-- .. behind what turns the disk's own block alone. -/
theorem IsRef.own {w w' : World} {S : Nat → Prop} {g : Nat} {d d' : Dk} (h : IsRef w S g d) (hg : w.grownBy w' (some g)) (hf : d'.fs = d.fs)
    (hb : ∀ A n c, Blk w g 60 #[.slice A n c, .int .i64 d.room, .int .i64 d.fuse, .bool d.dn] → Blk w' g 60 #[.slice A n c, .int .i64 d'.room, .int .i64 d'.fuse, .bool d'.dn]) : IsRef w' S g d' := by
  obtain ⟨A, c, h1, h2, h3, h4, h5⟩ := h
  refine IsRef.mk (hb A _ c h1) h2 (fun k hk => Nat.lt_of_lt_of_le (h3 k hk) hg.size) h4 ?_
  rw [hf]
  exact h5.keep hg.size (fun b hb hlt => ⟨hb, hg.block b hlt fun e => hb.2 (by injection e)⟩) fun b hb => hg.block b (files_lt h5 b hb) fun e => (h4 b hb).2 (by injection e)
/-- .. behind what turns nothing of it. -/
theorem IsRef.keep {w w' : World} {S T : Nat → Prop} {g : Nat} {d : Dk} (h : IsRef w S g d) (hk : Keeps T w w') (hd : ∀ b, S b → ¬ T b) : IsRef w' S g d := by
  obtain ⟨A, c, h1, h2, h3, h4, h5⟩ := h
  refine ⟨A, c, ?_, h2, fun k hk' => Nat.lt_of_lt_of_le (h3 k hk') hk.size, h4, h5.keep hk.size (fun b hb hlt => ⟨hb, hk.block b hlt (hd b hb.1)⟩) fun b hb => hk.block b (files_lt h5 b hb) (hd b (h4 b hb).1)⟩
  exact (hk.block g h1.lt (hd g h2)).trans h1
theorem IsRef.below {w w' : World} {S : Nat → Prop} {g : Nat} {d : Dk} (h : IsRef w S g d) (hb : Below w.heap.size w w') : IsRef w' S g d := h.keep (T := fun _ => False) (Keeps.ofBelow hb) fun _ _ h => h
/-- What the calls are asked of: room for at most 2^40 bytes. -/
def Fine (d : Dk) : Prop := Fits d ∧ d.room ≤ 1099511627776 ∧ -9223372036854775808 ≤ d.fuse ∧ d.fuse ≤ 9223372036854775807
theorem Fine.used {d : Dk} (h : Fine d) : Dsk.used d.fs ≤ 1099511627776 := by
  obtain ⟨⟨h1, h2, h3⟩, h4, _⟩ := h
  omega
theorem Fine.length {d : Dk} (h : Fine d) : d.fs.length ≤ 16 := h.1.2.2
theorem len_used {l : List Fl} {k : Nat} {f : Fl} (h : l[k]? = some f) : f.sure.length + f.tail.length ≤ Dsk.used l := by
  have h1 := used_take h
  have h2 := used_le l (k + 1)
  have h3 : f.len = f.sure.length + f.tail.length := rfl
  omega
theorem Fine.deed {d : Dk} (h : Fine d) : Fine (deed d) := by
  obtain ⟨h1, h2, h3, h4⟩ := h
  refine ⟨fits_deed h1, by rw [(deed_fs d).2]; exact h2, ?_, ?_⟩
  · unfold Dsk.deed
    split
    · exact h3
    · split
      · show -9223372036854775808 ≤ d.fuse - 1
        omega
      · exact h3
  · unfold Dsk.deed
    split
    · exact h4
    · split
      · show d.fuse - 1 ≤ 9223372036854775807
        omega
      · exact h4
theorem modify_set {l : List Fl} {k : Nat} {f : Fl} (g : Fl → Fl) (h : l[k]? = some f) : l.modify k g = l.set k (g f) := by
  apply List.ext_getElem?
  intro j
  rw [List.getElem?_modify, List.getElem?_set]
  by_cases e : k = j
  · subst e
    obtain ⟨hi, rfl⟩ := List.getElem?_eq_some_iff.1 h
    simp [hi]
  · simp [e]
/-- What a deed comes to. -/
def RefDoes (g : Nat) (S : Nat → Prop) (r : Nat × Dk) (w : World) (e : Ending) (w' : World) : Prop :=
  e = .returned (.int .i64 (r.1 : Int)) ∧ ∃ S', IsRef w' S' g r.2 ∧ Grew S S' w ∧ Keeps S w w'
end Go.Proofs.Ytcnjjabjdepjgaa.Dsk
