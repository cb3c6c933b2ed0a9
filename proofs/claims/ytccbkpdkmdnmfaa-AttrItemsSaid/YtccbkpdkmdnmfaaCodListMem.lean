/-
  What codec.List's rounds keep: items whose lists are rows of the call's own, stores of a copied row in the place of the row it was copied from.
-/
import Derived.Test.YtccbkpdkmdnmfaaCodMake
namespace Go.Proofs.Ytccbkpdkmdnmfaa
open Go.RowKit Mem Cod

/-- An item, and where its list lies. -/
structure Hung where
  x : It
  A : Option Addr
  c : Nat
def Hung.cells (h : Hung) : List Value := [.int .i64 h.x.kind, .int .u64 (h.x.num : Int), .string h.x.str, .slice h.A h.x.kids.length h.c]
def cells4 (hs : List Hung) : List Value := hs.flatMap Hung.cells

theorem length_cells4 (hs : List Hung) : (cells4 hs).length = hs.length * 4 := by
  induction hs with
  | nil => rfl
  | cons h hs ih => simp [cells4, Hung.cells] at *; omega
theorem cells4_one (hs : List Hung) : ∀ u ∈ cells4 hs, u.oneCell' = true := by
  intro u hu
  obtain ⟨h, _, hu⟩ := List.mem_flatMap.1 hu
  simp [Hung.cells] at hu
  rcases hu with rfl | rfl | rfl | rfl <;> rfl
theorem cells4_at (hs : List Hung) (i k : Nat) (hk : k < 4) : (cells4 hs)[i * 4 + k]? = (hs[i]?).bind fun h => h.cells[k]? := by
  induction hs generalizing i with
  | nil => simp [cells4]
  | cons h hs ih =>
    cases i with
    | zero => simp only [cells4, List.flatMap_cons, Nat.zero_mul, Nat.zero_add]; rw [List.getElem?_append_left (by simp [Hung.cells]; omega)]; simp
    | succ i =>
      have : (i + 1) * 4 + k = (i * 4 + k) + 4 := by omega
      simp only [cells4, List.flatMap_cons] at ih ⊢
      rw [List.getElem?_append_right (by simp [Hung.cells]; omega), show (i + 1) * 4 + k - h.cells.length = i * 4 + k by simp [Hung.cells]; omega, ih i]
      simp

theorem add_off (ad : Addr) (n k : Nat) (hk : 0 < k) : (⟨(ad.add n).block, (ad.add n).off + k, none⟩ : Addr) = ad.add (n + k) := by
  unfold Addr.add
  by_cases hn : n = 0
  · simp [hn]; omega
  · rw [if_neg hn, if_neg (by omega)]; simp [Nat.add_assoc]

theorem spot_iff (w : World) (ad : Addr) (i : Nat) (h : Hung) : Spot w (ad.add (i * 4)) h.x h.A h.c ↔ ∀ k u, h.cells[k]? = some u → w.cell? (ad.add (i * 4 + k)) = some u := by
  constructor
  · rintro ⟨s0, s1, s2, s3⟩ k u hu
    rw [add_off _ _ _ (by omega)] at s1 s2 s3
    rcases k with _ | _ | _ | _ | k
    · simp [Hung.cells] at hu; subst hu; exact s0
    · simp [Hung.cells] at hu; subst hu; exact s1
    · simp [Hung.cells] at hu; subst hu; exact s2
    · simp [Hung.cells] at hu; subst hu; exact s3
    · simp [Hung.cells] at hu
  · intro hh
    refine ⟨hh 0 _ rfl, ?_, ?_, ?_⟩ <;> rw [add_off _ _ _ (by omega)]
    · exact hh 1 _ rfl
    · exact hh 2 _ rfl
    · exact hh 3 _ rfl

/-- A row of items, with where each one's list lies. -/
theorem Row.hung {w : World} {S : Nat → Prop} {A : Option Addr} {n c : Nat} {l : List It} (h : Row w S A n c l) :
    ∃ hs : List Hung, hs.map (·.x) = l ∧ (∀ h ∈ hs, Lies w S h.x h.A h.c) ∧ ∀ ad, A = some ad → ∀ j u, (cells4 hs)[j]? = some u → w.cell? (ad.add j) = some u := by
  obtain ⟨hl, hb, hi⟩ := h
  have hx : ∀ i : Nat, ∃ p : Option Addr × Nat, ∀ y, l[i]? = some y → ∃ ad, A = some ad ∧ Spot w (ad.add (i * 4)) y p.1 p.2 ∧ Lies w S y p.1 p.2 := by
    intro i
    cases hy : l[i]? with
    | none => exact ⟨(none, 0), fun y h => by cases h⟩
    | some y =>
      obtain ⟨ad, A', c', e, _, _, hsp, hl⟩ := hi i y hy
      exact ⟨(A', c'), fun z hz => by cases hz; exact ⟨ad, e, hsp, hl⟩⟩
  obtain ⟨f, hf⟩ := Classical.axiomOfChoice hx
  refine ⟨l.mapIdx fun i y => ⟨y, (f i).1, (f i).2⟩, by
    apply List.ext_getElem?
    intro i
    rw [List.getElem?_map, List.getElem?_mapIdx]
    cases l[i]? <;> rfl, ?_, ?_⟩
  · intro h hh
    obtain ⟨i, hi', rfl⟩ := List.mem_mapIdx.1 hh
    obtain ⟨_, _, _, hl⟩ := hf i _ (List.getElem?_eq_getElem hi')
    exact hl
  · intro ad e j u hu
    have hj : j = j / 4 * 4 + j % 4 := by omega
    rw [hj, cells4_at _ _ _ (Nat.mod_lt _ (by omega))] at hu
    rw [List.getElem?_mapIdx] at hu
    cases hy : l[j / 4]? with
    | none => rw [hy] at hu; simp at hu
    | some y =>
      rw [hy] at hu
      obtain ⟨ad', e', hsp, _⟩ := hf (j / 4) y hy
      cases e.symm.trans e'
      have := (spot_iff w ad (j / 4) ⟨y, (f (j / 4)).1, (f (j / 4)).2⟩).1 hsp (j % 4) u (by simpa using hu)
      rwa [← hj] at this

/-- .. and back. -/
theorem Row.of_hung {w : World} {S : Nat → Prop} {A : Option Addr} {n c : Nat} {hs : List Hung} (hl : hs.length = n) (hc : n ≤ c ∧ c ≤ 9223372036854775807 ∧ (A = none → c = 0)) (hL : ∀ h ∈ hs, Lies w S h.x h.A h.c)
    (hA : 0 < n → ∃ ad, A = some ad ∧ S ad.block ∧ ad.block < w.heap.size ∧ ∀ j u, (cells4 hs)[j]? = some u → w.cell? (ad.add j) = some u) : Row w S A n c (hs.map (·.x)) := by
  refine ⟨by simp [hl], hc, fun i y hy => ?_⟩
  rw [List.getElem?_map, Option.map_eq_some_iff] at hy
  obtain ⟨h, hh, rfl⟩ := hy
  have hi := (List.getElem?_eq_some_iff.1 hh).1
  obtain ⟨ad, e, hS, hb, hcell⟩ := hA (by omega)
  refine ⟨ad, h.A, h.c, e, hS, hb, (spot_iff w ad i h).2 fun k u hu => hcell _ u ?_, hL h (List.mem_of_getElem? hh)⟩
  have hk : k < 4 := by
    have := (List.getElem?_eq_some_iff.1 hu).1
    simpa [Hung.cells] using this
  rw [cells4_at _ _ _ hk, hh]
  exact hu

theorem cell_ne_of {w : World} {p q : Addr} {u v : Value} (hp : w.cell? p = some u) (hq : w.cell? q = some v) (h : u ≠ v) : p ≠ q := by
  rintro rfl
  rw [hp] at hq
  cases hq
  exact h rfl

/-- The store of a copied row in the place of the row that it was copied from changes no reading. -/
theorem lies_swap {w : World} {S : Nat → Prop} {p : Addr} {A1 V : Option Addr} {n1 c1 cv : Nat} (hp : w.cell? p = some (.slice A1 n1 c1)) (hV : n1 ≤ cv ∧ cv ≤ 9223372036854775807 ∧ (V = none → cv = 0))
    (hcl : 0 < n1 → ∃ ad1 ad2, A1 = some ad1 ∧ V = some ad2 ∧ S ad2.block ∧ ad2.block < w.heap.size ∧ ad2.block ≠ p.block ∧ ∀ k, k < n1 * 4 → w.cell? (ad2.add k) = w.cell? (ad1.add k)) :
    ∀ (N : Nat) (x : It) (A : Option Addr) (c : Nat), wt x ≤ N → Lies w S x A c → Lies (w.setCell p (.slice V n1 cv)) S x A c := by
  have hsz : (w.setCell p (.slice V n1 cv)).heap.size = w.heap.size := by simp [World.setCell]
  intro N
  induction N with
  | zero => intro x A c hx; have := wt_pos x; omega
  | succ N ih =>
    intro x A c hx h
    rw [lies_eq] at h ⊢
    refine ⟨h.1, h.2.1, fun i hi => ?_⟩
    obtain ⟨ad, A', c', e, hS, hb, ⟨s0, s1, s2, s3⟩, hy⟩ := h.2.2 i hi
    have hwt := wt_kid hi
    have n0 := cell_ne_of hp s0 (by simp)
    have n1' := cell_ne_of hp s1 (by simp)
    have n2 := cell_ne_of hp s2 (by simp)
    by_cases hq : p = ⟨(ad.add (i * 4)).block, (ad.add (i * 4)).off + 3, none⟩
    · have e3 := hp.symm.trans ((congrArg w.cell? hq).trans s3)
      injection e3 with e3
      injection e3 with e4 e5 e6
      subst e4; subst e5; subst e6
      refine ⟨ad, V, cv, e, hS, by rw [hsz]; exact hb, ⟨(World.cell?_setCell_other w p _ _ n0).trans s0, (World.cell?_setCell_other w p _ _ n1').trans s1, (World.cell?_setCell_other w p _ _ n2).trans s2, ?_⟩, ?_⟩
      · rw [← hq]; exact World.cell?_setCell_same w p _ hp
      · have hy' := hy
        rw [lies_eq] at hy' ⊢
        refine ⟨hy'.1, hV, fun k hk => ?_⟩
        obtain ⟨b1, A2, c2, e2, _, _, hsp, hz⟩ := hy'.2.2 k hk
        obtain ⟨ad1, ad2, f1, f2, f3, f4, f5, f6⟩ := hcl (by omega)
        cases e2.symm.trans f1
        refine ⟨ad2, A2, c2, f2, f3, by rw [hsz]; exact f4, ?_, ih _ _ _ (by have := wt_kid hk; omega) hz⟩
        have := (spot_iff w b1 k ⟨_, A2, c2⟩).1 hsp
        refine (spot_iff _ ad2 k ⟨_, A2, c2⟩).2 fun j u hu => ?_
        have hj : j < 4 := by
          have := (List.getElem?_eq_some_iff.1 hu).1
          simpa [Hung.cells] using this
        rw [World.cell?_setCell_other w p _ _ (fun e => f5 (by rw [e, add_block])), f6 _ (by omega)]
        exact this j u hu
    · exact ⟨ad, A', c', e, hS, by rw [hsz]; exact hb, ⟨(World.cell?_setCell_other w p _ _ n0).trans s0, (World.cell?_setCell_other w p _ _ n1').trans s1, (World.cell?_setCell_other w p _ _ n2).trans s2, (World.cell?_setCell_other w p _ _ hq).trans s3⟩, ih _ _ _ (by omega) hy⟩


/-- The blocks in which items may lie: those of T below B, and rows of items above B. -/
def Itm (T : Nat → Prop) (B : Nat) (w : World) (b : Nat) : Prop := (b < B ∧ T b) ∨ (B < b ∧ ∃ cur, w.heap[b]? = some (.cells cur 37 (0, 0)))
theorem Itm.bel {T : Nat → Prop} {B : Nat} {w w' : World} {b : Nat} (h : Itm T B w b) (hb : Below w.heap.size w w') (hlt : b < w.heap.size) : Itm T B w' b := by
  rcases h with h | ⟨hB, cur, h⟩
  · exact .inl h
  · exact .inr ⟨hB, cur, (hb.block b hlt).trans h⟩
theorem Itm.grown {T : Nat → Prop} {B g : Nat} {w w' : World} {b : Nat} (h : Itm T B w b) (hg : w.grownBy w' (some g)) (hlt : b < w.heap.size) (hne : b ≠ g) : Itm T B w' b := by
  rcases h with h | ⟨hB, cur, h⟩
  · exact .inl h
  · exact .inr ⟨hB, cur, (hg.block b hlt (by simpa using hne)).trans h⟩
theorem set_row (w : World) (p : Addr) (u : Value) {cur : Array Value} {t : TypeId} (h : w.heap[p.block]? = some (.cells cur t (0, 0))) : ∃ cur', (w.setCell p u).heap[p.block]? = some (.cells cur' t (0, 0)) := by
  cases hs : p.spot with
  | none => exact ⟨cur.setIfInBounds p.off u, by simp [World.setCell, Array.getElem?_modify, h, hs]⟩
  | some s => exact ⟨cur, by simp [World.setCell, Array.getElem?_modify, h, hs]⟩
theorem Itm.set {T : Nat → Prop} {B : Nat} {w : World} {b : Nat} (h : Itm T B w b) (p : Addr) (u : Value) : Itm T B (w.setCell p u) b := by
  rcases h with h | ⟨hB, cur, h⟩
  · exact .inl h
  · right
    refine ⟨hB, ?_⟩
    by_cases e : p.block = b
    · subst e
      exact set_row w p u h
    · exact ⟨cur, (Below.heap_setCell w p u b (fun h => e h.symm)).trans h⟩

/-- A row of items that may be written: in a block of its own, above B. -/
structure Fine (T : Nat → Prop) (B : Nat) (w : World) (A : Option Addr) (n c : Nat) (l : List It) : Prop where
  row : Row w (Itm T B w) A n c l
  own : 0 < n → ∃ g cur, A = some ⟨g, 0, none⟩ ∧ B < g ∧ w.heap[g]? = some (.cells cur 37 (0, 0))

section
variable {T : Nat → Prop} {B : Nat} {w w' : World} {A : Option Addr} {n c : Nat} {l : List It}
theorem Fine.bel (h : Fine T B w A n c l) (hb : Below w.heap.size w w') : Fine T B w' A n c l :=
  ⟨h.row.keep (fun _ hb' hlt => hb'.bel hb hlt) hb.size fun _ _ hp => hb.cell hp, fun hn => by
    obtain ⟨g, cur, e, hB, hg⟩ := h.own hn
    exact ⟨g, cur, e, hB, (hb.block g (Array.getElem?_eq_some_iff.1 hg).1).trans hg⟩⟩
/-- .. behind a step that touches at most one block, which is no row of items. -/
theorem Fine.grown {g : Nat} (h : Fine T B w A n c l) (hg : w.grownBy w' (some g)) (hB : B < g) (hne : ∀ cur, w.heap[g]? ≠ some (.cells cur 37 (0, 0))) : Fine T B w' A n c l := by
  have hk : ∀ b, Itm T B w b → b ≠ g := by
    rintro b hb rfl
    rcases hb with hb | ⟨_, cur, hb⟩
    · omega
    · exact hne cur hb
  refine ⟨h.row.keep (fun b hb hlt => hb.grown hg hlt (hk b hb)) hg.size fun p hp hlt => World.cell?_of_block (hg.block _ hlt (by simpa using hk _ hp)), fun hn => ?_⟩
  obtain ⟨b, cur, e, hB', hb⟩ := h.own hn
  exact ⟨b, cur, e, hB', (hg.block b (Array.getElem?_eq_some_iff.1 hb).1 (by simpa using hk b (.inr ⟨hB', cur, hb⟩))).trans hb⟩
end

/-- .. behind the store of a copied row. -/
theorem Fine.swap {T : Nat → Prop} {B : Nat} {w : World} {A : Option Addr} {n c : Nat} {l : List It} (h : Fine T B w A n c l) {p : Addr} {A1 V : Option Addr} {n1 c1 cv : Nat} (hp : w.cell? p = some (.slice A1 n1 c1)) (hV : n1 ≤ cv ∧ cv ≤ 9223372036854775807 ∧ (V = none → cv = 0))
    (hcl : 0 < n1 → ∃ ad1 ad2, A1 = some ad1 ∧ V = some ad2 ∧ Itm T B w ad2.block ∧ ad2.block < w.heap.size ∧ ad2.block ≠ p.block ∧ ∀ k, k < n1 * 4 → w.cell? (ad2.add k) = w.cell? (ad1.add k)) :
    Fine T B (w.setCell p (.slice V n1 cv)) A n c l := by
  have hsz : (w.setCell p (.slice V n1 cv)).heap.size = w.heap.size := by simp [World.setCell]
  refine ⟨?_, fun hn => ?_⟩
  · have h1 : Lies w (Itm T B w) (.mk 0 0 ByteArray.empty l) A c := h.row.lies (by omega) (by omega) (by show (0 : Nat) ≤ _; omega)
    have h2 := lies_swap hp hV hcl _ _ _ _ (Nat.le_refl _) h1
    have h3 := (h2.more (S' := Itm T B (w.setCell p (.slice V n1 cv))) fun b hb _ => hb.set p _).row
    simp only [It.kids] at h3
    rw [h.row.1] at h3
    exact h3
  · obtain ⟨g, cur, e, hB, hg⟩ := h.own hn
    by_cases hb : p.block = g
    · subst hb
      obtain ⟨cur', h'⟩ := set_row w p (.slice V n1 cv) hg
      exact ⟨_, cur', e, hB, h'⟩
    · exact ⟨g, cur, e, hB, (Below.heap_setCell w p _ g (fun h => hb h.symm)).trans hg⟩

/-- Four cells written over. -/
theorem blk4_set {w : World} {g : Nat} {t : TypeId} {a b c d : Value} (h : Blk w g t #[a, b, c, d]) (a' b' c' d' : Value) :
    Blk ((((w.setCell ⟨g, 0, none⟩ a').setCell ⟨g, 1, none⟩ b').setCell ⟨g, 2, none⟩ c').setCell ⟨g, 3, none⟩ d') g t #[a', b', c', d'] ∧ w.grownBy ((((w.setCell ⟨g, 0, none⟩ a').setCell ⟨g, 1, none⟩ b').setCell ⟨g, 2, none⟩ c').setCell ⟨g, 3, none⟩ d') (some g) :=
  ⟨by simpa using (((h.put 0 a').put 1 b').put 2 c').put 3 d', gr_set (p := ⟨g, 3, none⟩) (gr_set (p := ⟨g, 2, none⟩) (gr_set (p := ⟨g, 1, none⟩) (gr_set (p := ⟨g, 0, none⟩) (gr_refl w (some g)) (.inl rfl) _) (.inl rfl) _) (.inl rfl) _) (.inl rfl) _⟩

/-- Rows of different elements lie in different blocks. -/
theorem own_type_ne {w : World} {base : Nat} {e t : TypeId} {size : Nat} {v : Value} {n g : Nat} {xs : List Value} {cur : Array Value} (h : w.ownsRow base e size v n xs) (hg : w.heap[g]? = some (.cells cur t (0, 0))) (hne : e ≠ t) : v.ownBlock ≠ some g := by
  rcases h.2 with ⟨rfl, _⟩ | ⟨b, cap, cur', rfl, _, hb, _⟩
  · simp [Value.ownBlock]
  · intro e'
    have : b = g := by simpa [Value.ownBlock] using e'
    subst this
    rw [hg] at hb
    injection hb with hb
    injection hb with _ hb _
    exact hne hb.symm

theorem ownsRow_pop {w : World} {base : Nat} {e : TypeId} {V : Option Addr} {n c : Nat} {xs : List Value} {u : Value} (h : w.ownsRow base e 1 (.slice V (n + 1) c) (n + 1) (xs ++ [u])) : w.ownsRow base e 1 (.slice V n c) n xs := by
  obtain ⟨hl, hr⟩ := h
  simp at hl
  refine ⟨by simpa using hl, ?_⟩
  rcases hr with ⟨_, h0⟩ | ⟨g, cap, cur, hv, hb, hg, hn, hm, hs, ht⟩
  · omega
  · injection hv with h1 _ h2
    subst h1; subst h2
    refine .inr ⟨g, c, cur, rfl, hb, hg, by omega, hm, hs, ?_⟩
    have := congrArg (List.take n) ht
    rw [List.take_take, show min n ((n + 1) * 1) = n by omega] at this
    rw [Nat.mul_one, this, ← hl]
    exact List.take_left

end Go.Proofs.Ytccbkpdkmdnmfaa
