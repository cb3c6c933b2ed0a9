/-
  Rows of bytes of the call's own that grow, while an iterator (or whatever else is no row of bytes) stays where it is.
-/
import Derived.Test.YtlaiofpaahkceaaDoorRunSmall
namespace Go.Proofs.YtlaiofpaahkceaaDoor
open Go.RowKit Mem Run

theorem info5 : (Tryd.prog.info? 5).map (fun i => (i.zero, i.size, i.bytes)) = some (some (.int .u8 0), 1, 1) := by kernel_rfl

/-- What lies below 'base' stays, and all that is no row of bytes. -/
def Kept (base : Nat) (w w' : World) : Prop := Below base w w' ∧ Lib.OthersKept 5 none w w'
theorem Kept.refl (base : Nat) (w : World) : Kept base w w := ⟨Below.refl _ _, Lib.OthersKept.refl _ _ _⟩
theorem Kept.trans {base : Nat} {a b c : World} (h : Kept base a b) (k : Kept base b c) : Kept base a c := ⟨h.1.trans k.1, h.2.trans k.2⟩
theorem Kept.alloc {base : Nat} {a b : World} (h : Kept base a b) (hb : base ≤ b.heap.size) (o : Obj) : Kept base a (b.alloc o) := ⟨h.1.alloc hb o, h.2.alloc o⟩
theorem Kept.drew {base : Nat} {a b : World} (h : Kept base a b) : Kept base a b.drew := ⟨h.1.trans ⟨rfl, rfl, rfl, Nat.le_refl _, fun _ _ => rfl⟩, h.2.drew⟩
theorem Kept.drewN {base : Nat} {a b : World} (h : Kept base a b) (n : Nat) : Kept base a (b.drewN n) := ⟨below_drewN h.1 n, h.2⟩
theorem Kept.of_below {base : Nat} {a b : World} (h : Below a.heap.size a b) (hb : base ≤ a.heap.size) : Kept base a b :=
  ⟨h.mono hb, fun k _ hk _ _ => (h.block k (Array.getElem?_eq_some_iff.1 hk).1).trans hk⟩
theorem Kept.size {base : Nat} {a b : World} (h : Kept base a b) : a.heap.size ≤ b.heap.size := h.1.size

/-- The ending: the call's own bytes bs. -/
def Grows (base : Nat) (bs : List Nat) (w : World) (e : Ending) (w' : World) : Prop :=
  ∃ V c, e = .returned (.slice V bs.length c) ∧ w'.ownsRow base 5 1 (.slice V bs.length c) bs.length (cs bs) ∧ Kept base w w'

theorem own_cells {w : World} {base : Nat} {e : TypeId} {v : Value} {n size : Nat} {xs : List Value} (h : w.ownsRow base e size v n xs) : ∀ g, v.ownBlock = some g → ∃ c fz, w.heap[g]? = some (.cells c e fz) := by
  intro g hg
  rcases h.2 with ⟨rfl, _⟩ | ⟨g', cap, cur, rfl, _, hgg, _⟩
  · simp [Value.ownBlock] at hg
  · simp [Value.ownBlock] at hg
    subst hg
    exact ⟨cur, _, hgg⟩

/-- 'append(v, x...)' where v is the call's own row of bytes, and x whatever slice of bytes. -/
theorem wpList_append_kept {w : World} {ops : Array Oper} {rest : List Oper} {o : Oper} {a : Act} {Q : Exit → Act → World → Prop} (hgd : o.guard = none) (s x : Operand)
    (ho : o.op = .call { callee := .builtin .append, args := #[s, x], argTypes := #[35, 35] })
    (base : Nat) (V : Option Addr) (n cv : Nat) (bs : List Nat) (hs : a.eval s = .slice V n cv) (hown : w.ownsRow base 5 1 (.slice V n cv) n (cs bs))
    (A : Option Addr) (m c : Nat) (news : List Nat) (hx : a.eval x = .slice A m c) (hr : Rd w A m c (cs news))
    (h63 : n + m ≤ 70368744177664) (hbase : base ≤ w.heap.size)
    (h : ∀ V' c' w', w'.ownsRow base 5 1 (.slice V' (n + m) c') (n + m) (cs (bs ++ news)) → Kept base w w' → wpList Tryd.prog ops Q rest (a.put o.dst (.slice V' (n + m) c')) w') : wpList Tryd.prog ops Q (o :: rest) a w := by
  obtain ⟨i0, hi, hz0, hz1, hz2⟩ := info_parts info5
  rcases A with _ | ad
  · have hc : c = 0 := hr.nil rfl
    have hm : m = 0 := by have := hr.le; omega
    subst hc; subst hm
    have hn : news = [] := List.eq_nil_of_length_eq_zero (by have := hr.len; rwa [length_cs] at this)
    subst hn
    refine wpList_append_own_none hgd s x 35 ho base 5 i0 1 Tryd.underlying35 hi _ n (cs bs) hs hown hx ?_
    exact h V cv w (by simpa using hown) (Kept.refl _ _)
  · refine wpList_append_own w hgd s x 35 ho base 5 i0 _ 1 1 Tryd.underlying35 hi hz0 hz1 hz2 rfl (by omega) _ n (cs bs) hs hown ad m c (cs news) hx (by rw [hr.len, Nat.mul_one]) (hr.cells _ rfl) (cs_one _) (by unfold maxLen; omega) (by omega) hbase
      fun v' w' hown' hg _ => ?_
    obtain ⟨V', c', rfl, _⟩ := Rd.of_own hown'
    rw [← cs_append] at hown'
    exact h V' c' w' hown' ⟨(Below.refl _ _).grown hg hbase fun k hk => (hown.lt k hk).1, (Lib.OthersKept.refl _ _ _).grown hg (own_cells hown)⟩

/-- A few bytes just made. -/
theorem Rd.few (w : World) (bs : List Nat) (vs : Array Value) (t : TypeId) (hv : vs = (cs bs).toArray) (n : Nat) (hn : bs.length = n) (hm : n ≤ 1000) : Rd (w.alloc (.cells vs t)) (some ⟨w.heap.size, 0, none⟩) n n (cs bs) := by
  subst hv
  exact Rd.lit w (cs bs) t n (by rw [length_cs]; exact hn) (by unfold maxLen; omega)
/-- What the tables give: bits.TrailingZeros(16). -/
def Tab (w : World) : Prop := w.cell? ⟨5, 15, none⟩ = some (.int .u8 4)
theorem Tab.lt {w : World} (h : Tab w) : 5 < w.heap.size := World.block_lt_of_cell? w _ h
theorem Tab.below {w w' : World} {base : Nat} (h : Tab w) (hb : Below base w w') (hg : 5 < base) : Tab w' := (hb.cell (p := ⟨_, 15, none⟩) hg).trans h
end Go.Proofs.YtlaiofpaahkceaaDoor
