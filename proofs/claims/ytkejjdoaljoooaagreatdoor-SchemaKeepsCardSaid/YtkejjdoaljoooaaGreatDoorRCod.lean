/-
  Texts of earlier layers, as one.
-/
import Derived.Test.YtkejjdoaljoooaaGreatDoorProg
import Derived.Test.YtkejjdoaljoooaaGreatDoorRBase
import Derived.Laws.Cover3
import Derived.Deep.LoopGhost
import Derived.Deep.Slices
import Derived.Deep.Fields
import Derived.ChangeSame
import Derived.SizedLaws
/- codec.Num: the item; slices.Clone of items: the same cells in a row of the call's own. -/
namespace Go.Proofs.YtkejjdoaljoooaaGreatDoor
open Lib (hid)
open Go.RowKit Mem Cod
theorem info25 : (Tryz.prog.info? 95).map (fun i => (i.zero, i.size, i.bytes)) = some (some (.agg #[.int .i64 0, .int .u64 0, .string ⟨#[]⟩, .slice none 0 0]), 4, 56) := by kernel_rfl
def Hands (v : Value) (w : World) (e : Ending) (w' : World) : Prop := e = .returned v ∧ Below w.heap.size w w'
theorem num_any (v : Int) (w : World) : Calls Tryz.prog 67 #[.int .u64 v] w (Hands (.agg #[.int .i64 0, .int .u64 v, .string ByteArray.empty, .slice none 0 0]) w) := by
 go_enter Tryz.func67, Tryz.ntmps67
 go_wp2_with fail
 exact bodyPost_ret (v := .agg #[.int .i64 0, .int .u64 v, .string ByteArray.empty, .slice none 0 0]) (by simp [results, Tryz.results67, go_sem]; rfl) rfl ⟨rfl, bel_alloc (Below.refl _ _) _⟩
def Cloned (n : Nat) (vs : List Value) (w : World) (e : Ending) (w' : World) : Prop :=
 ∃ V c, e = .returned (.slice V n c) ∧ w'.ownsRow w.heap.size 95 4 (.slice V n c) n vs ∧ Below w.heap.size w w'
theorem own_form {w : World} {base : Nat} {e : TypeId} {size : Nat} {v : Value} {n : Nat} {xs : List Value} (h : w.ownsRow base e size v n xs) : ∃ V c, v = .slice V n c := by
 rcases h.2 with ⟨rfl, rfl⟩ | ⟨g, cap, cur, rfl, _⟩
 · exact ⟨none, 0, rfl⟩
 · exact ⟨_, _, rfl⟩
set_option maxHeartbeats 1000000 in
theorem clone_any (A : Option Addr) (n c : Nat) (vs : List Value) (w : World) (hl : vs.length = n * 4) (hn : n ≤ 1000000) (h0 : A = none → n = 0 ∧ c = 0) (h1 : ∀ u ∈ vs, u.oneCell' = true) (hc : ∀ ad, A = some ad → ∀ j u, vs[j]? = some u → w.cell? (ad.add j) = some u) :
 Calls Tryz.prog 121 #[.slice A n c] w (Cloned n vs w) := by
 obtain ⟨i0, hi, hz0, hz1, hz2⟩ := info_parts info25
 have hnil : ∀ (W : World) (a : Option Addr) (n c : Nat), (binOp .eql 93 (.slice a n c) (.slice none 0 0)).run Tryz.prog W = .ok (.bool a.isNone) W := fun W a n c => by
  simp only [binOp];simp [run_equal_slice_nil W _ _ a n c Tryz.underlying93]
 have HC := hid hc;have HL := hid hl;have H1 := hid h1;clear hc hl h1;rcases A with _ | ad
 · obtain ⟨rfl, rfl⟩ := h0 rfl
   go_enter Tryz.func121, Tryz.ntmps121
   go_wp2_with fail
   go_ret;have : vs = [] := List.eq_nil_of_length_eq_zero (by have := HL.out; omega);subst this;exact ⟨none, 0, rfl, ⟨rfl, .inl ⟨rfl, rfl⟩⟩, Below.refl _ _⟩
 · clear h0
   go_enter Tryz.func121, Tryz.ntmps121
   go_wp2_with (at_builtin; refine wpList_append_own _ rfl (.tmp 5) (.tmp 6) 93 rfl w.heap.size 95 i0 _ 4 56 Tryz.underlying93 hi hz0 hz1 hz2 rfl (by omega) (.slice (some ⟨w.heap.size, 0, none⟩) 0 0) 0 [] rfl (World.ownsRow_lit w #[] 0 (Nat.le_refl _) (by simp [maxLen]) rfl) ad n c vs rfl HL.out (fun j u hu => (World.cell?_alloc_lt w _ _ (World.block_lt_of_cell? w _ (HC.out ad rfl j u hu))).trans (HC.out ad rfl j u hu)) H1.out (by unfold maxLen; omega) (by omega) (by rw [size_alloc]; omega) ?_; rw [Nat.zero_add, List.nil_append]; intro v1 w1 hown1 hg1 _; obtain ⟨V1, c1, rfl⟩ := own_form hown1)
   go_ret;refine ⟨V1, c1, rfl, hown1, (bel_alloc (Below.refl _ _) _).trans (gr_below hg1 (by rw [size_alloc]; omega) fun b hb => ?_)⟩;simp [Value.ownBlock] at hb;omega
end Go.Proofs.YtkejjdoaljoooaaGreatDoor
/- What codec.List's rounds keep: items whose lists are rows of the call's own, stores of a copied row in the place of the row it was copied from. -/
namespace Go.Proofs.YtkejjdoaljoooaaGreatDoor
open Lib (hid)
open Go.RowKit Mem Cod
structure Hung where
 x : It
 A : Option Addr
 c : Nat
def Hung.cells (h : Hung) : List Value := [.int .i64 h.x.kind, .int .u64 (h.x.num : Int), .string h.x.str, .slice h.A h.x.kids.length h.c]
def cells4 (hs : List Hung) : List Value := hs.flatMap Hung.cells
theorem length_cells4 (hs : List Hung) : (cells4 hs).length = hs.length * 4 := by
 induction hs with
 | nil => rfl
 | cons h hs ih => simp [cells4, Hung.cells] at *; omega
theorem cells4_one (hs : List Hung) : ∀ u ∈ cells4 hs, u.oneCell' = true := by
 intro u hu;obtain ⟨h, _, hu⟩ := List.mem_flatMap.1 hu;simp [Hung.cells] at hu;rcases hu with rfl | rfl | rfl | rfl <;> rfl
theorem cells4_at (hs : List Hung) (i k : Nat) (hk : k < 4) : (cells4 hs)[i * 4 + k]? = (hs[i]?).bind fun h => h.cells[k]? := by
 induction hs generalizing i with
 | nil => simp [cells4]
 | cons h hs ih =>
   cases i with
   | zero => simp only [cells4, List.flatMap_cons, Nat.zero_mul, Nat.zero_add]; rw [List.getElem?_append_left (by simp [Hung.cells]; omega)]; simp
   | succ i =>
     have : (i + 1) * 4 + k = (i * 4 + k) + 4 := (by omega);simp only [cells4, List.flatMap_cons] at ih ⊢;rw [List.getElem?_append_right (by simp [Hung.cells]; omega), show (i + 1) * 4 + k - h.cells.length = i * 4 + k by simp [Hung.cells]; omega, ih i];simp
theorem add_off (ad : Addr) (n k : Nat) (hk : 0 < k) : (⟨(ad.add n).block, (ad.add n).off + k, none⟩ : Addr) = ad.add (n + k) := by
 unfold Addr.add;by_cases hn : n = 0
 · simp [hn]; omega
 · rw [if_neg hn, if_neg (by omega)]; simp [Nat.add_assoc]
theorem spot_iff (w : World) (ad : Addr) (i : Nat) (h : Hung) : Spot w (ad.add (i * 4)) h.x h.A h.c ↔ ∀ k u, h.cells[k]? = some u → w.cell? (ad.add (i * 4 + k)) = some u := by
 constructor
 · rintro ⟨s0, s1, s2, s3⟩ k u hu
   rw [add_off _ _ _ (by omega)] at s1 s2 s3;rcases k with _ | _ | _ | _ | k
   · simp [Hung.cells] at hu; subst hu; exact s0
   · simp [Hung.cells] at hu; subst hu; exact s1
   · simp [Hung.cells] at hu; subst hu; exact s2
   · simp [Hung.cells] at hu; subst hu; exact s3
   · simp [Hung.cells] at hu
 · intro hh
   refine ⟨hh 0 _ rfl, ?_, ?_, ?_⟩ <;> rw [add_off _ _ _ (by omega)]
   · exact hh 1 _ rfl
   · exact hh 2 _ rfl
   · exact hh 3 _ rfl
theorem Row.hung {w : World} {S : Nat → Prop} {A : Option Addr} {n c : Nat} {l : List It} (h : Row w S A n c l) :
 ∃ hs : List Hung, hs.map (·.x) = l ∧ (∀ h ∈ hs, Lies w S h.x h.A h.c) ∧ ∀ ad, A = some ad → ∀ j u, (cells4 hs)[j]? = some u → w.cell? (ad.add j) = some u := by
 obtain ⟨hl, hb, hi⟩ := h
 have hx : ∀ i : Nat, ∃ p : Option Addr × Nat, ∀ y, l[i]? = some y → ∃ ad, A = some ad ∧ Spot w (ad.add (i * 4)) y p.1 p.2 ∧ Lies w S y p.1 p.2 := by
  intro i;cases hy : l[i]? with
  | none => exact ⟨(none, 0), fun y h => by cases h⟩
  | some y =>
    obtain ⟨ad, A', c', e, _, _, hsp, hl⟩ := hi i y hy;exact ⟨(A', c'), fun z hz => by cases hz; exact ⟨ad, e, hsp, hl⟩⟩
 obtain ⟨f, hf⟩ := Classical.axiomOfChoice hx
 refine ⟨l.mapIdx fun i y => ⟨y, (f i).1, (f i).2⟩, by
  apply List.ext_getElem?;intro i;rw [List.getElem?_map, List.getElem?_mapIdx];cases l[i]? <;> rfl, ?_, ?_⟩
 · intro h hh
   obtain ⟨i, hi', rfl⟩ := List.mem_mapIdx.1 hh;obtain ⟨_, _, _, hl⟩ := hf i _ (List.getElem?_eq_getElem hi');exact hl
 · intro ad e j u hu
   have hj : j = j / 4 * 4 + j % 4 := (by omega);rw [hj, cells4_at _ _ _ (Nat.mod_lt _ (by omega))] at hu;rw [List.getElem?_mapIdx] at hu;cases hy : l[j / 4]? with
   | none => rw [hy] at hu; simp at hu
   | some y =>
     rw [hy] at hu;obtain ⟨ad', e', hsp, _⟩ := hf (j / 4) y hy;cases e.symm.trans e';have := (spot_iff w ad (j / 4) ⟨y, (f (j / 4)).1, (f (j / 4)).2⟩).1 hsp (j % 4) u (by simpa using hu);rwa [← hj] at this
theorem Row.of_hung {w : World} {S : Nat → Prop} {A : Option Addr} {n c : Nat} {hs : List Hung} (hl : hs.length = n) (hc : n ≤ c ∧ c ≤ 9223372036854775807 ∧ (A = none → c = 0)) (hL : ∀ h ∈ hs, Lies w S h.x h.A h.c)
 (hA : 0 < n → ∃ ad, A = some ad ∧ S ad.block ∧ ad.block < w.heap.size ∧ ∀ j u, (cells4 hs)[j]? = some u → w.cell? (ad.add j) = some u) : Row w S A n c (hs.map (·.x)) := by
 refine ⟨by simp [hl], hc, fun i y hy => ?_⟩;rw [List.getElem?_map, Option.map_eq_some_iff] at hy;obtain ⟨h, hh, rfl⟩ := hy;have hi := (List.getElem?_eq_some_iff.1 hh).1;obtain ⟨ad, e, hS, hb, hcell⟩ := hA (by omega);refine ⟨ad, h.A, h.c, e, hS, hb, (spot_iff w ad i h).2 fun k u hu => hcell _ u ?_, hL h (List.mem_of_getElem? hh)⟩
 have hk : k < 4 := by
  have := (List.getElem?_eq_some_iff.1 hu).1;simpa [Hung.cells] using this
 rw [cells4_at _ _ _ hk, hh];exact hu
theorem cell_ne_of {w : World} {p q : Addr} {u v : Value} (hp : w.cell? p = some u) (hq : w.cell? q = some v) (h : u ≠ v) : p ≠ q := by
 rintro rfl;rw [hp] at hq;cases hq;exact h rfl
theorem lies_swap {w : World} {S : Nat → Prop} {p : Addr} {A1 V : Option Addr} {n1 c1 cv : Nat} (hp : w.cell? p = some (.slice A1 n1 c1)) (hV : n1 ≤ cv ∧ cv ≤ 9223372036854775807 ∧ (V = none → cv = 0))
 (hcl : 0 < n1 → ∃ ad1 ad2, A1 = some ad1 ∧ V = some ad2 ∧ S ad2.block ∧ ad2.block < w.heap.size ∧ ad2.block ≠ p.block ∧ ∀ k, k < n1 * 4 → w.cell? (ad2.add k) = w.cell? (ad1.add k)) :
 ∀ (N : Nat) (x : It) (A : Option Addr) (c : Nat), wt x ≤ N → Lies w S x A c → Lies (w.setCell p (.slice V n1 cv)) S x A c := by
 have hsz : (w.setCell p (.slice V n1 cv)).heap.size = w.heap.size := by simp [World.setCell]
 intro N;induction N with
 | zero => intro x A c hx; have := wt_pos x; omega
 | succ N ih =>
   intro x A c hx h;rw [lies_eq] at h ⊢;refine ⟨h.1, h.2.1, fun i hi => ?_⟩;obtain ⟨ad, A', c', e, hS, hb, ⟨s0, s1, s2, s3⟩, hy⟩ := h.2.2 i hi;have hwt := wt_kid hi;have n0 := cell_ne_of hp s0 (by simp);have n1' := cell_ne_of hp s1 (by simp);have n2 := cell_ne_of hp s2 (by simp);by_cases hq : p = ⟨(ad.add (i * 4)).block, (ad.add (i * 4)).off + 3, none⟩
   · have e3 := hp.symm.trans ((congrArg w.cell? hq).trans s3)
     injection e3 with e3;injection e3 with e4 e5 e6;subst e4; subst e5; subst e6;refine ⟨ad, V, cv, e, hS, by rw [hsz]; exact hb, ⟨(World.cell?_setCell_other w p _ _ n0).trans s0, (World.cell?_setCell_other w p _ _ n1').trans s1, (World.cell?_setCell_other w p _ _ n2).trans s2, ?_⟩, ?_⟩
     · rw [← hq]; exact World.cell?_setCell_same w p _ hp
     · have hy' := hy
       rw [lies_eq] at hy' ⊢;refine ⟨hy'.1, hV, fun k hk => ?_⟩;obtain ⟨b1, A2, c2, e2, _, _, hsp, hz⟩ := hy'.2.2 k hk;obtain ⟨ad1, ad2, f1, f2, f3, f4, f5, f6⟩ := hcl (by omega);cases e2.symm.trans f1;refine ⟨ad2, A2, c2, f2, f3, by rw [hsz]; exact f4, ?_, ih _ _ _ (by have := wt_kid hk; omega) hz⟩;have := (spot_iff w b1 k ⟨_, A2, c2⟩).1 hsp;refine (spot_iff _ ad2 k ⟨_, A2, c2⟩).2 fun j u hu => ?_
       have hj : j < 4 := by
        have := (List.getElem?_eq_some_iff.1 hu).1;simpa [Hung.cells] using this
       rw [World.cell?_setCell_other w p _ _ (fun e => f5 (by rw [e, add_block])), f6 _ (by omega)];exact this j u hu
   · exact ⟨ad, A', c', e, hS, by rw [hsz]; exact hb, ⟨(World.cell?_setCell_other w p _ _ n0).trans s0, (World.cell?_setCell_other w p _ _ n1').trans s1, (World.cell?_setCell_other w p _ _ n2).trans s2, (World.cell?_setCell_other w p _ _ hq).trans s3⟩, ih _ _ _ (by omega) hy⟩
def Itm (T : Nat → Prop) (B : Nat) (w : World) (b : Nat) : Prop := (b < B ∧ T b) ∨ (B < b ∧ ∃ cur, w.heap[b]? = some (.cells cur 95 (0, 0)))
theorem Itm.bel {T : Nat → Prop} {B : Nat} {w w' : World} {b : Nat} (h : Itm T B w b) (hb : Below w.heap.size w w') (hlt : b < w.heap.size) : Itm T B w' b := by
 rcases h with h | ⟨hB, cur, h⟩
 · exact .inl h
 · exact .inr ⟨hB, cur, (hb.block b hlt).trans h⟩
theorem Itm.grown {T : Nat → Prop} {B g : Nat} {w w' : World} {b : Nat} (h : Itm T B w b) (hg : w.grownBy w' (some g)) (hlt : b < w.heap.size) (hne : b ≠ g) : Itm T B w' b := by
 rcases h with h | ⟨hB, cur, h⟩
 · exact .inl h
 · exact .inr ⟨hB, cur, (hg.block b hlt (by simpa using hne)).trans h⟩
theorem set_row (w : World) (p : Addr) (u : Value) {cur : Array Value} {t : TypeId} (h : w.heap[p.block]? = some (.cells cur t (0, 0))) : ∃ cur', (w.setCell p u).heap[p.block]? = some (.cells cur' t (0, 0)) := by
 cases hs : p.spot with
 | none => exact ⟨cur.setIfInBounds p.off u, by simp [World.setCell, Array.getElem?_modify, h, hs]⟩
 | some s => exact ⟨cur, by simp [World.setCell, Array.getElem?_modify, h, hs]⟩
theorem Itm.set {T : Nat → Prop} {B : Nat} {w : World} {b : Nat} (h : Itm T B w b) (p : Addr) (u : Value) : Itm T B (w.setCell p u) b := by
 rcases h with h | ⟨hB, cur, h⟩
 · exact .inl h
 · right
   refine ⟨hB, ?_⟩;by_cases e : p.block = b
   · subst e
     exact set_row w p u h
   · exact ⟨cur, (Below.heap_setCell w p u b (fun h => e h.symm)).trans h⟩
structure Fine (T : Nat → Prop) (B : Nat) (w : World) (A : Option Addr) (n c : Nat) (l : List It) : Prop where
 row : Row w (Itm T B w) A n c l
 own : 0 < n → ∃ g cur, A = some ⟨g, 0, none⟩ ∧ B < g ∧ w.heap[g]? = some (.cells cur 95 (0, 0))
section
variable {T : Nat → Prop} {B : Nat} {w w' : World} {A : Option Addr} {n c : Nat} {l : List It}
theorem Fine.bel (h : Fine T B w A n c l) (hb : Below w.heap.size w w') : Fine T B w' A n c l :=
 ⟨h.row.keep (fun _ hb' hlt => hb'.bel hb hlt) hb.size fun _ _ hp => hb.cell hp, fun hn => by
  obtain ⟨g, cur, e, hB, hg⟩ := h.own hn;exact ⟨g, cur, e, hB, (hb.block g (Array.getElem?_eq_some_iff.1 hg).1).trans hg⟩⟩
theorem Fine.grown {g : Nat} (h : Fine T B w A n c l) (hg : w.grownBy w' (some g)) (hB : B < g) (hne : ∀ cur, w.heap[g]? ≠ some (.cells cur 95 (0, 0))) : Fine T B w' A n c l := by
 have hk : ∀ b, Itm T B w b → b ≠ g := by
  rintro b hb rfl;rcases hb with hb | ⟨_, cur, hb⟩
  · omega
  · exact hne cur hb
 refine ⟨h.row.keep (fun b hb hlt => hb.grown hg hlt (hk b hb)) hg.size fun p hp hlt => World.cell?_of_block (hg.block _ hlt (by simpa using hk _ hp)), fun hn => ?_⟩;obtain ⟨b, cur, e, hB', hb⟩ := h.own hn;exact ⟨b, cur, e, hB', (hg.block b (Array.getElem?_eq_some_iff.1 hb).1 (by simpa using hk b (.inr ⟨hB', cur, hb⟩))).trans hb⟩
end
theorem Fine.swap {T : Nat → Prop} {B : Nat} {w : World} {A : Option Addr} {n c : Nat} {l : List It} (h : Fine T B w A n c l) {p : Addr} {A1 V : Option Addr} {n1 c1 cv : Nat} (hp : w.cell? p = some (.slice A1 n1 c1)) (hV : n1 ≤ cv ∧ cv ≤ 9223372036854775807 ∧ (V = none → cv = 0))
 (hcl : 0 < n1 → ∃ ad1 ad2, A1 = some ad1 ∧ V = some ad2 ∧ Itm T B w ad2.block ∧ ad2.block < w.heap.size ∧ ad2.block ≠ p.block ∧ ∀ k, k < n1 * 4 → w.cell? (ad2.add k) = w.cell? (ad1.add k)) :
 Fine T B (w.setCell p (.slice V n1 cv)) A n c l := by
 have hsz : (w.setCell p (.slice V n1 cv)).heap.size = w.heap.size := by simp [World.setCell]
 refine ⟨?_, fun hn => ?_⟩
 · have h1 : Lies w (Itm T B w) (.mk 0 0 ByteArray.empty l) A c := h.row.lies (by omega) (by omega) (by show (0 : Nat) ≤ _; omega)
   have h2 := lies_swap hp hV hcl _ _ _ _ (Nat.le_refl _) h1;have h3 := (h2.more (S' := Itm T B (w.setCell p (.slice V n1 cv))) fun b hb _ => hb.set p _).row;simp only [It.kids] at h3;rw [h.row.1] at h3;exact h3
 · obtain ⟨g, cur, e, hB, hg⟩ := h.own hn
   by_cases hb : p.block = g
   · subst hb
     obtain ⟨cur', h'⟩ := set_row w p (.slice V n1 cv) hg;exact ⟨_, cur', e, hB, h'⟩
   · exact ⟨g, cur, e, hB, (Below.heap_setCell w p _ g (fun h => hb h.symm)).trans hg⟩
theorem blk4_set {w : World} {g : Nat} {t : TypeId} {a b c d : Value} (h : Blk w g t #[a, b, c, d]) (a' b' c' d' : Value) :
 Blk ((((w.setCell ⟨g, 0, none⟩ a').setCell ⟨g, 1, none⟩ b').setCell ⟨g, 2, none⟩ c').setCell ⟨g, 3, none⟩ d') g t #[a', b', c', d'] ∧ w.grownBy ((((w.setCell ⟨g, 0, none⟩ a').setCell ⟨g, 1, none⟩ b').setCell ⟨g, 2, none⟩ c').setCell ⟨g, 3, none⟩ d') (some g) :=
 ⟨by simpa using (((h.put 0 a').put 1 b').put 2 c').put 3 d', gr_set (p := ⟨g, 3, none⟩) (gr_set (p := ⟨g, 2, none⟩) (gr_set (p := ⟨g, 1, none⟩) (gr_set (p := ⟨g, 0, none⟩) (gr_refl w (some g)) (.inl rfl) _) (.inl rfl) _) (.inl rfl) _) (.inl rfl) _⟩
theorem own_type_ne {w : World} {base : Nat} {e t : TypeId} {size : Nat} {v : Value} {n g : Nat} {xs : List Value} {cur : Array Value} (h : w.ownsRow base e size v n xs) (hg : w.heap[g]? = some (.cells cur t (0, 0))) (hne : e ≠ t) : v.ownBlock ≠ some g := by
 rcases h.2 with ⟨rfl, _⟩ | ⟨b, cap, cur', rfl, _, hb, _⟩
 · simp [Value.ownBlock]
 · intro e'
   have : b = g := (by simpa [Value.ownBlock] using e');subst this;rw [hg] at hb;injection hb with hb;injection hb with _ hb _;exact hne hb.symm
theorem ownsRow_pop {w : World} {base : Nat} {e : TypeId} {V : Option Addr} {n c : Nat} {xs : List Value} {u : Value} (h : w.ownsRow base e 1 (.slice V (n + 1) c) (n + 1) (xs ++ [u])) : w.ownsRow base e 1 (.slice V n c) n xs := by
 obtain ⟨hl, hr⟩ := h;simp at hl;refine ⟨by simpa using hl, ?_⟩;rcases hr with ⟨_, h0⟩ | ⟨g, cap, cur, hv, hb, hg, hn, hm, hs, ht⟩
 · omega
 · injection hv with h1 _ h2
   subst h1; subst h2;refine .inr ⟨g, c, cur, rfl, hb, hg, by omega, hm, hs, ?_⟩;have := congrArg (List.take n) ht;rw [List.take_take, show min n ((n + 1) * 1) = n by omega] at this;rw [Nat.mul_one, this, ← hl];exact List.take_left
theorem owns_low {w : World} {base base' : Nat} {e : TypeId} {s : Nat} {v : Value} {n : Nat} {xs : List Value} (h : w.ownsRow base e s v n xs) (hb : ∀ b, base ≤ b → b < w.heap.size → base' ≤ b) : w.ownsRow base' e s v n xs :=
 ⟨h.1, h.2.imp id fun ⟨g, cap, cur, e1, hg, hh, r⟩ => ⟨g, cap, cur, e1, hb g hg (Array.getElem?_eq_some_iff.1 hh).1, hh, r⟩⟩
def Whole (w : World) (B : Nat) (x : It) (A : Option Addr) (c : Nat) : Prop :=
 Lies w (fun b => B ≤ b) x A c ∧ ∃ hs : List Hung, w.ownsRow B 95 4 (.slice A x.kids.length c) x.kids.length (cells4 hs) ∧ hs.map (·.x) = x.kids ∧
  ∀ h ∈ hs, Lies w (fun b => B ≤ b ∧ some b ≠ (Value.slice A x.kids.length c).ownBlock) h.x h.A h.c
theorem Whole.lies {w : World} {B : Nat} {x : It} {A : Option Addr} {c : Nat} (h : Whole w B x A c) : Lies w (fun b => B ≤ b) x A c := h.1
theorem Whole.grown {w w' : World} {B : Nat} {x : It} {A : Option Addr} {c : Nat} {g : Option Nat} (h : Whole w B x A c) (hg : w.grownBy w' g) (hS : ∀ b, B ≤ b → some b ≠ g) : Whole w' B x A c := by
 obtain ⟨h1, hs, h2, h3, h4⟩ := h;refine ⟨h1.grown hg hS, hs, h2.kept hg ?_, h3, fun k hk => (h4 k hk).grown hg fun b hb => hS b hb.1⟩;cases ho : (Value.slice A x.kids.length c).ownBlock with
 | none => exact .inl rfl
 | some k => exact .inr (hS k (h2.lt k ho).1)
theorem Whole.below {w w' : World} {B : Nat} {x : It} {A : Option Addr} {c : Nat} (h : Whole w B x A c) (hb : Below w.heap.size w w') : Whole w' B x A c := by
 obtain ⟨h1, hs, h2, h3, h4⟩ := h;exact ⟨h1.keep x (fun _ h _ => h) hb.size fun p _ hp => hb.cell hp, hs, ownsRow_below h2 hb, h3, fun k hk => (h4 k hk).keep k.x (fun _ h _ => h) hb.size fun p _ hp => hb.cell hp⟩
theorem Whole.alloc {w : World} {B : Nat} {x : It} {A : Option Addr} {c : Nat} (h : Whole w B x A c) (o : Obj) : Whole (w.alloc o) B x A c := h.below (bel_alloc (Below.refl _ _) o)
theorem Whole.drew {w : World} {B : Nat} {x : It} {A : Option Addr} {c : Nat} (h : Whole w B x A c) : Whole w.drew B x A c := h.below (Below.refl w.heap.size w).drew
theorem Whole.more {w : World} {B B' : Nat} {x : It} {A : Option Addr} {c : Nat} (h : Whole w B x A c) (hS : ∀ b, B ≤ b → b < w.heap.size → B' ≤ b) : Whole w B' x A c := by
 obtain ⟨h1, hs, h2, h3, h4⟩ := h;exact ⟨h1.more hS, hs, owns_low h2 hS, h3, fun k hk => (h4 k hk).more fun b hb hl => ⟨hS b hb.1 hl, hb.2⟩⟩
theorem Whole.bare {w : World} {B : Nat} {x : It} (h : Lies w (fun b => B ≤ b) x none 0) (hk : x.kids = []) : Whole w B x none 0 := by
 refine ⟨h, [], ?_, by rw [hk]; rfl, fun k hk => by cases hk⟩;rw [hk];exact ⟨rfl, .inl ⟨rfl, rfl⟩⟩
end Go.Proofs.YtkejjdoaljoooaaGreatDoor
/- codec.List of any items: the item, in memory of the call's own. -/
namespace Go.Proofs.YtkejjdoaljoooaaGreatDoor
open Lib (hid)
open Go.RowKit Mem Cod
theorem info23 : (Tryz.prog.info? 93).map (fun i => (i.zero, i.size, i.bytes)) = some (some (.slice none 0 0), 1, 24) := by kernel_rfl
structure Ent where
 A : Option Addr
 n : Nat
 c : Nat
 l : List It
def Ent.val (e : Ent) : Value := .slice e.A e.n e.c
def ld : List Ent → Nat
 | [] => 0
 | e :: r => wts e.l + 1 + ld r
theorem ld_append (a b : List Ent) : ld (a ++ b) = ld a + ld b := by
 induction a with
 | nil => simp [ld]
 | cons e a ih => simp [ld, ih]; omega
theorem length_ld (es : List Ent) : es.length ≤ ld es := by
 induction es with
 | nil => simp
 | cons e a ih => simp [ld]; omega
structure Work (T : Nat → Prop) (B : Nat) (w : World) (es : List Ent) (Wv : Option Addr) (cw : Nat) : Prop where
 own : w.ownsRow (B + 1) 93 1 (.slice Wv es.length cw) es.length (es.map Ent.val)
 fine : ∀ e ∈ es, Fine T B w e.A e.n e.c e.l
def zero25 : Obj := .cells #[.int .i64 0, .int .u64 0, .string ⟨#[]⟩, .slice none 0 0] 95
def OutRel (S : Nat → Prop) (w : World) (V : Option Addr) (n c : Nat) (l : List It) (K : Nat) (work : Value) (wr : World) : Prop :=
 ∃ (es : List Ent) (Wv : Option Addr) (cw : Nat), work = .slice Wv es.length cw ∧ Work S w.heap.size wr es Wv cw ∧ ld es ≤ K ∧ K ≤ 200001 ∧ Fine S w.heap.size wr V n c l ∧ Below (w.heap.size + 1) (w.alloc zero25) wr
def InRel (S : Nat → Prop) (w : World) (V : Option Addr) (n c : Nat) (l : List It) (e : Ent) (K : Nat) (work i : Value) (wr : World) : Prop :=
 ∃ (k : Nat) (es : List Ent) (Wv : Option Addr) (cw : Nat), k ≤ e.n ∧ i = .int .i64 k ∧ work = .slice Wv es.length cw ∧ Work S w.heap.size wr es Wv cw ∧ ld es + wts (e.l.drop k) ≤ K ∧ Fine S w.heap.size wr e.A e.n e.c e.l ∧ Fine S w.heap.size wr V n c l ∧ Below (w.heap.size + 1) (w.alloc zero25) wr
theorem fine_clone {T : Nat → Prop} {B : Nat} {w w' : World} {V : Option Addr} {n c : Nat} {hs : List Hung} (ho : w'.ownsRow w.heap.size 95 4 (.slice V n c) n (cells4 hs)) (hb : Below w.heap.size w w') (hB : B < w.heap.size) (hl : ∀ h ∈ hs, Lies w (Itm T B w) h.x h.A h.c) :
 Fine T B w' V n c (hs.map (·.x)) := by
 have hlen : hs.length = n := by have := ho.1; rw [length_cells4] at this; omega
 have hn : n = 0 ∨ 0 < n := by omega
 rcases ho.2 with ⟨e, h0⟩ | ⟨g, cap, cur, e, hg, hh, hnc, hm, hsz, ht⟩
 · injection e with e1 e2 e3
   subst e1; subst e2; subst e3;exact ⟨Row.of_hung hlen ⟨Nat.le_refl _, by omega, fun _ => rfl⟩ (fun h hh => (hl h hh).keep _ (fun _ hb' hlt => hb'.bel hb hlt) hb.size fun _ _ hp => hb.cell hp) (fun h => by omega), fun h => by omega⟩
 · injection e with e1 e2 e3
   subst e1; subst e3;unfold maxLen at hm;have hlt := (Array.getElem?_eq_some_iff.1 hh).1;exact ⟨Row.of_hung hlen ⟨hnc, by omega, (fun e => by cases e)⟩ (fun h hh => (hl h hh).keep _ (fun _ hb' hlt => hb'.bel hb hlt) hb.size fun _ _ hp => hb.cell hp) (fun _ => ⟨_, rfl, .inr ⟨by show B < g; omega, cur, hh⟩, hlt, ho.cells (g := g) rfl⟩), fun _ => ⟨g, cur, rfl, by omega, hh⟩⟩
theorem Fine.pushed {T : Nat → Prop} {B : Nat} {w w' : World} {A : Option Addr} {n c : Nat} {l : List It} {v : Value} {m : Nat} {xs : List Value} (h : Fine T B w A n c l) (ho : w.ownsRow (B + 1) 93 1 v m xs) (hg : w.grownBy w' v.ownBlock) : Fine T B w' A n c l := by
 cases hv : v.ownBlock with
 | none =>
   rw [hv] at hg;exact h.bel (gr_below hg (Nat.le_refl _) fun b hb => by cases hb)
 | some g =>
   rw [hv] at hg;refine h.grown hg (ho.lt g hv).1 fun cur hc => own_type_ne ho hc (by decide) hv
set_option maxHeartbeats 4000000 in
theorem list_more (A : Option Addr) (n c : Nat) (S : Nat → Prop) (l : List It) (w : World) (hl : Row w S A n c l) (hS : ∀ b, S b → b < w.heap.size) (hsz : wts l ≤ 100000) :
 Calls Tryz.prog 65 #[.slice A n c] w fun e w' => ∃ V c', e = .returned (.agg #[.int .i64 2, .int .u64 0, .string ByteArray.empty, .slice V n c']) ∧ Row w' (fun b => b < w'.heap.size ∧ (S b ∨ w.heap.size < b)) V n c' l ∧ Below w.heap.size w w' := by
 obtain ⟨i0, hi, hz0, hz1, hz2⟩ := info_parts info23;obtain ⟨hs, hhs, hLies, hcell⟩ := Row.hung hl;have hlen := hl.1;have hn : n ≤ 100000 := by have := length_wts l; omega
 obtain ⟨hnc, hcm, hA0⟩ := hl.2.1;have hl4 : (cells4 hs).length = n * 4 := by rw [length_cells4, ← hlen, ← hhs]; simp
 have HHS := hid hhs;have HLI := hid hLies;have HCE := hid hcell;have HL4 := hid hl4;have HS := hid hS;have HA0 := hid hA0;clear hhs hLies hcell hl4 hS hl hlen hA0;go_enter Tryz.func65, Tryz.ntmps65
 go_wp2_with fail
 refine (clone_any A n c (cells4 hs) _ HL4.out (by omega) (fun e => by have := HA0.out e; omega) (cells4_one _) (fun ad e j u hu => (World.cell?_alloc_lt w _ _ (World.block_lt_of_cell? w _ (HCE.out ad e j u hu))).trans (HCE.out ad e j u hu))).mono ?_;rintro e w1 ⟨V, cv, rfl, hown1, hb1⟩
 have hf1 : Fine S w.heap.size w1 V n cv l := by
  have := fine_clone (T := S) (B := w.heap.size) hown1 hb1 (by rw [size_alloc]; omega) fun h hh => ((HLI.out h hh).alloc _).more fun b hb _ => .inl ⟨HS.out b hb, hb⟩;rwa [HHS.out] at this
 have hbw1 : Below (w.heap.size + 1) (w.alloc zero25) w1 := by rw [← size_alloc w zero25]; exact hb1
 have hst : OutRel S w V n cv l (wts l + 1) (.slice (some ⟨w1.heap.size, 0, none⟩) 1 1) (w1.alloc (.cells #[.slice V n cv] 93)) := by
  refine ⟨[⟨V, n, cv, l⟩], _, 1, rfl, ⟨World.ownsRow_lit w1 #[.slice V n cv] 1 (by have := hbw1.size; rwa [size_alloc] at this) (by simp [maxLen]) rfl, ?_⟩, by simp [ld], by omega, hf1.bel (bel_alloc (Below.refl _ _) _), hbw1.alloc (by have := hbw1.size; rwa [size_alloc] at this) _⟩;intro e he;rw [List.mem_singleton.1 he];exact hf1.bel (bel_alloc (Below.refl _ _) _)
 clear hown1 hb1 hf1 hbw1;go_wp2_with fail
 go_loopg [4] (wts l + 1) (OutRel S w V n cv l)
 case atStart => exact hst
 case round =>
  clear hst;obtain ⟨es, Wv, cw, rfl, hwk, hld, hK, hfo, hbw⟩ := hrel;rcases List.eq_nil_or_concat es with rfl | ⟨es', ⟨eA, en, ec, el⟩, rfl⟩
  · have HFO := hid hfo
    have HBW := hid hbw;clear hfo hbw hwk;simp only [List.length_nil];have hblk : Blk wr w.heap.size 95 #[.int .i64 0, .int .u64 0, .string ⟨#[]⟩, .slice none 0 0] := (Blk.new w _ _).below HBW.out (by omega);obtain ⟨c0, c1, c2, c3⟩ := blk4 hblk;have z0 := hblk.soft 0;have z1 := hblk.soft 1;have z2 := hblk.soft 2;have z3 := hblk.soft 3;go_wp2_with fail
    obtain ⟨hblk2, hgr⟩ := blk4_set hblk (.int .i64 2) (.int .u64 0) (.string ⟨#[]⟩) (.slice V n cv);generalize (((wr.setCell ⟨w.heap.size, 0, none⟩ (.int .i64 2)).setCell ⟨w.heap.size, 1, none⟩ (.int .u64 0)).setCell ⟨w.heap.size, 2, none⟩ (.string ⟨#[]⟩)).setCell ⟨w.heap.size, 3, none⟩ (.slice V n cv) = w9 at hblk2 hgr ⊢;obtain ⟨d0, d1, d2, d3⟩ := blk4 hblk2;refine bodyPost_ret (v := .agg #[.int .i64 2, .int .u64 0, .string ByteArray.empty, .slice V n cv]) (by simp [results, Tryz.results65, go_sem, d0, d1, d2, d3]; rfl) rfl ?_;refine ⟨V, cv, rfl, HFO.out.row.keep (fun b hi hb => ⟨by have := hgr.size; omega, hi.elim (fun h => .inl h.2) (fun h => .inr h.1)⟩) hgr.size fun q hq hlt => World.cell?_of_block (hgr.block _ hlt fun e => ?_), ?_⟩
    · have e' : q.block = w.heap.size := by simpa using e
      rcases hq with hq | ⟨hq, _⟩ <;> omega
    · exact (bel_alloc (Below.refl _ _) zero25).trans ((HBW.out.mono (by omega)).trans (gr_below hgr (by have := HBW.out.size; rw [size_alloc] at this; omega) fun b hb => by cases hb; exact Nat.le_refl _))
  · rw [List.concat_eq_append] at *
    have hes : (es' ++ [(⟨eA, en, ec, el⟩ : Ent)]).length = es'.length + 1 := (by simp);rw [hes];have hml : es'.length ≤ 200001 := (by have := length_ld (es' ++ [(⟨eA, en, ec, el⟩ : Ent)]); omega);rw [ld_append] at hld;simp only [ld] at hld;have hown := hwk.own;rw [hes, List.map_append] at hown;simp only [List.map_cons, List.map_nil] at hown;have hrd := Rd.own hown;obtain ⟨ad, u, rfl, _, hu, hcu⟩ := hrd.at_ (k := es'.length) (by omega);rw [List.getElem?_append_right (by simp)] at hu;simp at hu;subst hu;have hle := hrd.le;have hcap := hrd.cap;unfold maxLen at hcap;have hwk' : Work S w.heap.size wr es' (some ad) cw := ⟨ownsRow_pop hown, fun e he => hwk.fine e (by simp [he])⟩
    have hfe : Fine S w.heap.size wr eA en ec el := hwk.fine (⟨eA, en, ec, el⟩ : Ent) (by simp);have HST := hid (show InRel S w V n cv l ⟨eA, en, ec, el⟩ (ld es' + wts el) (.slice (some ad) es'.length cw) (.int .i64 0) wr from ⟨0, es', some ad, cw, Nat.zero_le _, rfl, rfl, hwk', by simp, hfe, hfo, hbw⟩);have hcu' : wr.cell? (ad.add es'.length) = some (.slice eA en ec) := hcu;have hen : el.length = en := hfe.row.1;have hec : en ≤ ec ∧ ec ≤ 9223372036854775807 ∧ (eA = none → ec = 0) := hfe.row.2.1;have hew : en ≤ 200001 := (by have := length_wts el; omega);have HEN := hid hen;clear hes hown hrd hcu hwk hwk' hfe hfo hbw hen;go_wp2_with fail
    go_loopw [4, 27] (InRel S w V n cv l ⟨eA, en, ec, el⟩ (ld es' + wts el)) (fun _ i _ => en - (intOf i).toNat)
    case atStart => exact HST.out
    case round =>
     clear HST hcu';obtain ⟨k, es, Wv, cw2, hk, rfl, rfl, hwk, hld2, hfe, hfo, hbw⟩ := hrel;replace hk : k ≤ en := hk;replace hld2 : ld es + wts (el.drop k) ≤ ld es' + wts el := hld2;replace hfe : Fine S w.heap.size wr eA en ec el := hfe;have HWK := hid hwk;have HFE := hid hfe;have HFO := hid hfo;have HBW := hid hbw;clear hwk hfe hfo hbw;by_cases hlt : k < en
     · obtain ⟨g, cur, rfl, hBg, hg⟩ := HFE.out.own (by omega)
       have hkl : k < el.length := (by have := HEN.out; omega);obtain ⟨ad', A1, c1, hA', _, hblk, hsp, hy⟩ := HFE.out.row.2.2 k el[k] (List.getElem?_eq_getElem hkl);cases hA';replace hblk : g < wr.heap.size := hblk
       have hs3 : wr.cell? ⟨g, k * 4 + 3, none⟩ = some (.slice A1 el[k].kids.length c1) := by
        have := (spot_iff wr ⟨g, 0, none⟩ k ⟨el[k], A1, c1⟩).1 hsp 3 _ rfl;rwa [Addr.add_lit, Nat.zero_add] at this
       obtain ⟨hs1, hhs1, hLi1, hce1⟩ := Row.hung hy.row;have hlen1 : hs1.length = el[k].kids.length := (by rw [← hhs1]; simp);have hdrop : wts (el.drop k) = wt el[k] + wts (el.drop (k + 1)) := (by rw [List.drop_eq_getElem_cons hkl]; simp [wts]);rw [wt_eq] at hdrop;have hnl : el[k].kids.length ≤ 200001 := (by have := length_wts el[k].kids; omega);have hbnd := hy.row.2.1;have HY := hid hy;generalize hN1 : el[k].kids.length = n1 at *;have HN1 := hid hN1;have HHS1 := hid hhs1;have HLI1 := hid hLi1;have HCE1 := hid hce1;have HLEN1 := hid hlen1;have HDR := hid hdrop;have HG := hid hg;have HBND := hid hbnd;clear hN1 hhs1 hLi1 hce1 hlen1 hdrop hg hbnd hsp hy;go_wp2_with fail
       refine (clone_any A1 n1 c1 (cells4 hs1) _ (by rw [length_cells4, HLEN1.out]) (by omega) (fun e => by have := HBND.out; have := this.2.2 e; omega) (cells4_one _) HCE1.out).mono ?_;rintro e1 w2 ⟨V1, c2, rfl, hown2, hb2⟩;have hbw2 : Below (w.heap.size + 1) (w.alloc zero25) w2 := HBW.out.trans (hb2.mono (by have := HBW.out.size; rw [size_alloc] at this; omega));have hB1 : w.heap.size + 1 ≤ wr.heap.size := (by have := HBW.out.size; rwa [size_alloc] at this);have hc2 : w2.cell? ⟨g, k * 4 + 3, none⟩ = some (.slice A1 n1 c1) := (hb2.cell hblk).trans hs3;have hg2 : w2.heap[g]? = some (.cells cur 95 (0, 0)) := (hb2.block g hblk).trans HG.out;have hz2' : w2.frozen? ⟨g, k * 4 + 3, none⟩ = false := by simp [World.frozen?, hg2]
       have hnew2 : Fine S w.heap.size w2 V1 n1 c2 el[k].kids := by
        have := fine_clone (T := S) (B := w.heap.size) hown2 hb2 (by omega) fun h hh => HLI1.out h hh;rwa [HHS1.out] at this
       have hV1 : n1 ≤ c2 ∧ c2 ≤ 9223372036854775807 ∧ (V1 = none → c2 = 0) := hnew2.row.2.1
       have hcl : 0 < n1 → ∃ ad1 ad2, A1 = some ad1 ∧ V1 = some ad2 ∧ Itm S w.heap.size w2 ad2.block ∧ ad2.block < w2.heap.size ∧ ad2.block ≠ g ∧ ∀ k, k < n1 * 4 → w2.cell? (ad2.add k) = w2.cell? (ad1.add k) := by
        intro h0;rcases hown2.2 with ⟨_, h00⟩ | ⟨g2, cap2, cur2, e2, hge, hh, _⟩
        · omega
        injection e2 with e3 _ e4;subst e3
        obtain ⟨ad1, f1⟩ : ∃ ad1, A1 = some ad1 := by
         rcases A1 with _ | ad1
         · have := HBND.out.2.2 rfl; have := HBND.out.1; omega
         · exact ⟨ad1, rfl⟩
        refine ⟨ad1, _, f1, rfl, .inr ⟨by show w.heap.size < g2; omega, cur2, hh⟩, (Array.getElem?_eq_some_iff.1 hh).1, by show g2 ≠ g; omega, fun j hj => ?_⟩;have hj' : j < (cells4 hs1).length := (by rw [length_cells4, HLEN1.out]; exact hj);have q1 := hown2.cells (g := g2) rfl j _ (List.getElem?_eq_getElem hj');have q2 := HCE1.out ad1 f1 j _ (List.getElem?_eq_getElem hj');rw [q1, hb2.cell (World.block_lt_of_cell? wr _ q2), q2]
       have hcc : (w2.setCell ⟨g, k * 4 + 3, none⟩ (.slice V1 n1 c2)).cell? ⟨g, k * 4 + 3, none⟩ = some (.slice V1 n1 c2) := World.cell?_setCell_same w2 _ _ hc2;have hgs : w2.grownBy (w2.setCell ⟨g, k * 4 + 3, none⟩ (.slice V1 n1 c2)) (some g) := gr_set (gr_refl _ _) (.inl rfl) _;have hwo2 := ownsRow_below HWK.out.own hb2;have hwo3 := hwo2.kept hgs (.inr (own_type_ne hwo2 hg2 (by decide)));have sw : ∀ (A : Option Addr) (n c : Nat) (l : List It), Fine S w.heap.size wr A n c l → Fine S w.heap.size (w2.setCell ⟨g, k * 4 + 3, none⟩ (.slice V1 n1 c2)) A n c l := fun _ _ _ _ h => (h.bel hb2).swap hc2 hV1 hcl;have hnew3 : Fine S w.heap.size (w2.setCell ⟨g, k * 4 + 3, none⟩ (.slice V1 n1 c2)) V1 n1 c2 el[k].kids := hnew2.swap hc2 hV1 hcl;have hbw3 : Below (w.heap.size + 1) (w.alloc zero25) (w2.setCell ⟨g, k * 4 + 3, none⟩ (.slice V1 n1 c2)) := hbw2.trans (gr_below hgs (by have := hb2.size; omega) fun b hb => by cases hb; omega);have hs3' : w.heap.size + 1 ≤ (w2.setCell ⟨g, k * 4 + 3, none⟩ (.slice V1 n1 c2)).heap.size := (by have := hgs.size; have := hb2.size; omega);have hssz : (w2.setCell ⟨g, k * 4 + 3, none⟩ (.slice V1 n1 c2)).heap.size = w2.heap.size := (by simp [World.setCell]);have hnews := cell_one_new (w2.setCell ⟨g, k * 4 + 3, none⟩ (.slice V1 n1 c2)) (.slice V1 n1 c2) 93;rw [hssz] at hnews hs3';have HNEWS := hid hnews;have HSSZ := hid hssz;have HWO := hid hwo3;have HSW := hid sw;have HN3 := hid hnew3;have HB3 := hid hbw3;have HS3 := hid hs3';have HG2 := hid hg2;have HGS := hid hgs;have HV1 := hid hV1;clear hnews hssz hwo2 hwo3 sw hnew3 hbw3 hs3' hcl hnew2 hV1 hbw2 hg2 hgs hown2;have hel : es.length ≤ 200001 := (by have := length_ld es; omega);by_cases h1 : 0 < n1
       · go_wp2_with (at_builtin; refine wpList_append_lies _ rfl (.tmp 47) (.tmp 53) 192 rfl (w.heap.size + 1) 93 i0 _ 1 24 Tryz.underlying192 hi hz0 hz1 hz2 rfl (by omega) (.slice Wv es.length cw2) es.length (es.map Ent.val) rfl (HWO.out.alloc _) ⟨w2.heap.size, 0, none⟩ 1 1 [.slice V1 n1 c2] rfl rfl HNEWS.out (by intro u hu; simp at hu; subst hu; rfl) (by omega) (by unfold maxLen; omega) (by omega) (by have := HS3.out; rw [size_alloc, HSSZ.out]; omega) (w2.heap.size + 1) (by rw [size_alloc, HSSZ.out]) ?_; intro g' cap' w7 hown7 hgr7 hat7 hlt7)
         have hes2 : (es ++ [(⟨V1, n1, c2, el[k].kids⟩ : Ent)]).length = es.length + 1 := by simp
         have tr : ∀ (A : Option Addr) (n c : Nat) (l : List It), Fine S w.heap.size (w2.setCell ⟨g, k * 4 + 3, none⟩ (.slice V1 n1 c2)) A n c l → Fine S w.heap.size w7 A n c l := fun A n c l h =>
          (h.bel (bel_alloc (Below.refl _ _) _)).pushed (HWO.out.alloc _) hgr7
         refine ⟨⟨k + 1, es ++ [⟨V1, n1, c2, el[k].kids⟩], some ⟨g', 0, none⟩, cap', by show k + 1 ≤ en; omega, by simp, by rw [hes2], ⟨by rw [hes2, List.map_append]; exact hown7, ?_⟩, ?_, tr _ _ _ _ (HSW.out _ _ _ _ HFE.out), tr _ _ _ _ (HSW.out _ _ _ _ HFO.out), ?_⟩, by simp [intOf]; omega⟩
         · intro e he
           rcases List.mem_append.1 he with he | he
           · exact tr _ _ _ _ (HSW.out _ _ _ _ (HWK.out.fine e he))
           · rw [List.mem_singleton.1 he]
             exact tr _ _ _ _ HN3.out
         · rw [ld_append]
           simp only [ld];have := HDR.out;show ld es + (wts el[k].kids + 1 + 0) + wts (el.drop (k + 1)) ≤ _;omega
         · refine (HB3.out.alloc (by rw [HSSZ.out]; exact HS3.out) _).trans (gr_below hgr7 (by rw [size_alloc, HSSZ.out]; have := HS3.out; omega) fun b hb => (HWO.out.lt b hb).1)
       · go_wp2_with fail
         refine ⟨⟨k + 1, es, Wv, cw2, by show k + 1 ≤ en; omega, by simp, rfl, ⟨HWO.out, fun e he => HSW.out _ _ _ _ (HWK.out.fine e he)⟩, ?_, HSW.out _ _ _ _ HFE.out, HSW.out _ _ _ _ HFO.out, HB3.out⟩, by simp [intOf]; omega⟩;have := HDR.out;show ld es + wts (el.drop (k + 1)) ≤ _;omega
     · obtain rfl : k = en := by omega
       go_wp2_with fail
       go_roundg (ld es)
       case measure => omega
       case rel => exact ⟨es, Wv, cw2, rfl, HWK.out, Nat.le_refl _, by omega, HFO.out, HBW.out⟩
theorem list_any (A : Option Addr) (n c : Nat) (S : Nat → Prop) (l : List It) (w : World) (hl : Row w S A n c l) (hS : ∀ b, S b → b < w.heap.size) (hsz : wts l ≤ 100000) :
 Calls Tryz.prog 65 #[.slice A n c] w fun e w' => ∃ V c', e = .returned (.agg #[.int .i64 2, .int .u64 0, .string ByteArray.empty, .slice V n c']) ∧ Row w' (fun b => b < w'.heap.size) V n c' l ∧ Below w.heap.size w w' := by
 refine (list_more A n c S l w hl hS hsz).mono ?_;rintro e w' ⟨V, c', rfl, hr, hb⟩;exact ⟨V, c', rfl, hr.more fun _ h _ => h.1, hb⟩
end Go.Proofs.YtkejjdoaljoooaaGreatDoor
/- Items that lie in memory, of no function: a leaf, an item of an item's list, an ending that hands an item over, a list's row just made. -/
namespace Go.Proofs.YtkejjdoaljoooaaGreatDoor
open Lib (hid)
open Go.RowKit Mem Cod
theorem lies_leaf (w : World) (S : Nat → Prop) {k : Int} {n : Nat} {s : ByteArray} (hk : -9223372036854775808 ≤ k ∧ k ≤ 9223372036854775807) (hn : n ≤ 18446744073709551615) (hs : s.size ≤ 140737488355328) : Lies w S (.mk k n s []) none 0 := by
 rw [lies_eq];exact ⟨⟨hk.1, hk.2, hn, hs⟩, ⟨Nat.le_refl _, by omega, fun _ => rfl⟩, fun i hi => by simp [It.kids] at hi⟩
def GivesIt (w : World) (x : It) (e : Ending) (w' : World) : Prop :=
 ∃ V c, e = .returned (.agg #[.int .i64 x.kind, .int .u64 (x.num : Int), .string x.str, .slice V x.kids.length c]) ∧ Lies w' (fun b => b < w'.heap.size) x V c ∧ Below w.heap.size w w'
def GivesNew (w : World) (x : It) (e : Ending) (w' : World) : Prop :=
 ∃ V c, e = .returned (.agg #[.int .i64 x.kind, .int .u64 (x.num : Int), .string x.str, .slice V x.kids.length c]) ∧ Lies w' (fun b => w.heap.size ≤ b ∧ b < w'.heap.size) x V c ∧ Below w.heap.size w w'
theorem GivesNew.it {w : World} {x : It} {e : Ending} {w' : World} (h : GivesNew w x e w') : GivesIt w x e w' := by
 obtain ⟨V, c, he, hl, hb⟩ := h;exact ⟨V, c, he, hl.more fun _ h _ => h.2, hb⟩
theorem u64_in {v : Int} (h0 : 0 ≤ v) (h1 : v ≤ 18446744073709551615) : IntKind.u64.wrap v = v := by
 simp [IntKind.wrap, IntKind.bits, IntKind.signed];omega
theorem lies_kid {w : World} {S : Nat → Prop} {x : It} {A : Option Addr} {c i : Nat} (h : Lies w S x A c) (hi : i < x.kids.length) :
 ∃ g o A' c', A = some ⟨g, o, none⟩ ∧ S g ∧ g < w.heap.size ∧ w.cell? ⟨g, o + i * 4, none⟩ = some (.int .i64 x.kids[i].kind) ∧ w.cell? ⟨g, o + i * 4 + 1, none⟩ = some (.int .u64 (x.kids[i].num : Int)) ∧ w.cell? ⟨g, o + i * 4 + 2, none⟩ = some (.string x.kids[i].str) ∧ w.cell? ⟨g, o + i * 4 + 3, none⟩ = some (.slice A' x.kids[i].kids.length c') ∧ Lies w S x.kids[i] A' c' := by
 rw [lies_eq] at h;obtain ⟨ad0, A0, c0, e0, _, _, hs0, _⟩ := h.2.2 0 (by omega);obtain ⟨ad, A', c', e, hS, hlt, hs, hl⟩ := h.2.2 i hi;have had : ad0 = ad := by rw [e0] at e; injection e
 subst had
 have hsp : ad0.spot = none := by
  have h2 : w.cell? ad0 = some (.int .i64 x.kids[0].kind) := by simpa [Addr.add] using hs0.1
  unfold World.cell? at h2;cases hsp : ad0.spot with
  | none => rfl
  | some _ =>
    rw [hsp] at h2;split at h2
    · simp at h2
    · cases h2
 obtain ⟨g, o, sp⟩ := ad0;have hs' : sp = none := hsp;subst hs';rw [Addr.add_lit] at hs;exact ⟨g, o, A', c', e, hS, hlt, hs.1, hs.2.1, hs.2.2.1, hs.2.2.2, hl⟩
theorem row_new (w : World) (S : Nat → Prop) (hS : S w.heap.size) (hs : List Hung) (n : Nat) (hn : hs.length = n) (hm : n ≤ 1000) (vs : Array Value) (t : TypeId) (hv : vs.toList = cells4 hs) (hL : ∀ h ∈ hs, Lies (w.alloc (.cells vs t)) S h.x h.A h.c) :
 Row (w.alloc (.cells vs t)) S (some ⟨w.heap.size, 0, none⟩) n n (hs.map (·.x)) := by
 refine Row.of_hung hn ⟨Nat.le_refl _, by omega, fun e => by cases e⟩ hL fun _ => ⟨_, rfl, hS, by rw [size_alloc]; exact Nat.lt_succ_self _, fun j u hu => ?_⟩
 rw [Addr.add_lit, Nat.zero_add, (Blk.new w t vs).cell j, ← hu, ← hv];simp
end Go.Proofs.YtkejjdoaljoooaaGreatDoor
/- The document's Num and List. -/
namespace Go.Proofs.YtkejjdoaljoooaaGreatDoor
open Lib (hid)
open Go.RowKit Mem Cod
end Go.Proofs.YtkejjdoaljoooaaGreatDoor
/- An item that came in, as the row's reading opens it: it lies in memory with all that it leads to. -/
namespace Go.Proofs.YtkejjdoaljoooaaGreatDoor
open Lib (hid)
open Go.ChangeShapes Go.WideShapes Go.Deep Go.RowKit Mem Cod
section
variable {H : Type} {enc : TypeId × Value → H} {W : World} {held : Bool}
end
end Go.Proofs.YtkejjdoaljoooaaGreatDoor
