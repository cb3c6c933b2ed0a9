/-
  slices.Clone and slices.SortFunc of ids; ids.Set of any list: its set, in memory of the call's own.
-/
import Derived.Test.YtmbmgmelnejceaaDoorIdsCompact
import Derived.Test.YtmbmgmelnejceaaDoorIdsRefEq
import Derived.Test.YtmbmgmelnejceaaDoorShelf
namespace Go.Proofs.YtmbmgmelnejceaaDoor
open Go.RowKit Mem Ids Go.Sort Go.Shelf

set_option maxHeartbeats 1000000 in
theorem clone_ids (l : List (Int × Int)) (A : Option Addr) (n c : Nat) (w : World) (ha : Rs w A n c l) (hn : n ≤ 1073741824) :
    Calls Tryd.prog 32 #[.slice A n c] w (Makes w l) := by
  obtain ⟨i0, hi, hz0, hz1, hz2⟩ := info_parts infoId
  have hnil : ∀ (W : World) (a : Option Addr) (n c : Nat), (binOp .eql 22 (.slice a n c) (.slice none 0 0)).run Tryd.prog W = .ok (.bool a.isNone) W := fun W a n c => Lib.run_eql_slice_nil W _ _ a n c 0 0 Tryd.underlying22
  have hla := ha.len
  have HA := Lib.hid ha
  have h0 := ha.none0
  clear ha
  rcases A with _ | ad
  · obtain ⟨rfl, rfl⟩ := h0 rfl
    go_enter Tryd.func32, Tryd.ntmps32
    go_wp2_with fail
    go_ret
    have : l = [] := List.eq_nil_of_length_eq_zero hla
    subst this
    exact ⟨none, 0, rfl, ⟨rfl, .inl ⟨rfl, rfl⟩⟩, Below.refl _ _⟩
  · clear h0
    have HE := Lib.hid (World.ownsRow_made (base := w.heap.size) (e := 24) (size := 2) w #[] 0 (Nat.le_refl _) (Nat.zero_le _) (by simp))
    go_enter Tryd.func32, Tryd.ntmps32
    go_wp2_with (at_builtin; refine wpList_append_rs rfl _ _ 22 rfl w.heap.size 24 i0 _ Tryd.underlying22 hi hz0 hz1 hz2 rfl _ 0 0 [] rfl HE.out (some ad) n c l rfl (HA.out.alloc _) (by omega) (by simp) ?_; intro V3 c3 w3 hown3 _ hb3; rw [Nat.zero_add] at hown3)
    have HO3 := Lib.hid hown3
    have HB3 := Lib.hid hb3
    clear hown3 hb3
    go_ret
    refine ⟨V3, c3, ?_, ?_, (bel_alloc (Below.refl _ _) _).trans HB3.out⟩
    · rw [hla]; rfl
    · rw [hla]; exact HO3.out

theorem lt_cmpf (x y : Int × Int) : ltOf cmpf x y = lt x y := by
  unfold ltOf cmpf
  by_cases h : x = y
  · subst h
    rw [if_pos rfl, lt_irrefl]
    rfl
  · rw [if_neg h]
    cases e : lt x y with
    | true => rfl
    | false => rfl
theorem swo_cmpf : SWO (ltOf cmpf) where
  irrefl x := by rw [lt_cmpf]; exact lt_irrefl x
  trans x y z h1 h2 := by rw [lt_cmpf] at *; exact lt_trans h1 h2
  ntrans x y z h1 h2 := by rw [lt_cmpf] at *; rw [lt_false] at *; omega
theorem cmp_lays (blk off size : Nat) (w : World) : CmpLays Tryd.prog 34 #[] enc 2 cmpf blk off size w := fun _ _ _ _ x y => cmp_grew x y _

theorem flat_at (d : Array (Int × Int)) {j : Nat} {x : Int × Int} (hx : d.toList[j]? = some x) : (flatK enc 2 d)[j * 2]! = .int .i64 x.1 ∧ (flatK enc 2 d)[j * 2 + 1]! = .int .i64 x.2 := by
  have hj : j < d.size := by have := (List.getElem?_eq_some_iff.1 hx).1; simpa using this
  have hd : d[j]! = x := by
    rw [getElem!_pos d j hj]
    have := hx
    rw [List.getElem?_eq_getElem (by simpa using hj)] at this
    injection this
  rw [get_flatK _ _ _ _ (by omega), get_flatK _ _ _ _ (by omega), show j * 2 / 2 = j by omega, show (j * 2 + 1) / 2 = j by omega, show j * 2 % 2 = 0 by omega, show (j * 2 + 1) % 2 = 1 by omega, hd]
  exact ⟨rfl, rfl⟩
theorem Hd.holds {w : World} {g : Nat} {vs : Array Value} {d : List (Int × Int)} (h : Hd w g vs d) : HoldsK enc 2 w g 0 d.toArray := by
  intro t ht
  rw [size_flatK, List.size_toArray] at ht
  refine ⟨?_, h.blk.soft _⟩
  obtain ⟨x, hx⟩ : ∃ x, d[t / 2]? = some x := ⟨_, List.getElem?_eq_getElem (by omega)⟩
  obtain ⟨h1, h2⟩ := h.cell hx
  obtain ⟨f1, f2⟩ := flat_at d.toArray (j := t / 2) (x := x) hx
  rw [Nat.zero_add]
  rcases (show t % 2 = 0 ∨ t % 2 = 1 by omega) with e | e
  · rw [show t / 2 * 2 = t by omega] at h1 f1
    rw [h1, f1]
    rfl
  · rw [show t / 2 * 2 + 1 = t by omega] at h2 f2
    rw [h2, f2]
    rfl
theorem Hd.sorted {w : World} {g : Nat} {vs : Array Value} {d r : List (Int × Int)} (h : Hd w g vs d) (hr : r.length = d.length) (n : Nat) (os : Array Obj) : ∃ vs', Hd (sortWorldK enc 2 w g 0 n r.toArray os) g vs' r := by
  have hk : HoldsK enc 2 (sortWorldK enc 2 w g 0 n r.toArray os) g 0 r.toArray := by
    refine holdsK_grow _ _ _ _ _ _ _ (by show g < (putRow _ _ _ _ _).heap.size; rw [size_putRow]; exact h.blk.lt) ?_
    exact holdsK_putRowK _ _ (Sort.ahead w n) g 0 d.toArray r.toArray (holdsK_ahead _ _ w n g 0 _ h.holds) (by simp [hr])
  have hb : ∃ vs', Blk (sortWorldK enc 2 w g 0 n r.toArray os) g 24 vs' := by
    refine ⟨putCells id 0 (flatK enc 2 r.toArray) vs, ?_⟩
    show ((w.heap.modify g (onCells (putCells id 0 (flatK enc 2 r.toArray)))) ++ os)[g]? = _
    have hb := h.blk
    have hlt := hb.lt
    unfold Blk at hb
    rw [Array.getElem?_append_left (by simpa using hlt), Array.getElem?_modify, if_pos rfl, hb]
    rfl
  obtain ⟨vs', hb⟩ := hb
  refine ⟨vs', hb, fun j x hx => ?_⟩
  have hj : j < r.length := (List.getElem?_eq_some_iff.1 hx).1
  obtain ⟨f1, f2⟩ := flat_at r.toArray (j := j) (x := x) hx
  have k1 := (hk (j * 2) (by rw [size_flatK, List.size_toArray]; omega)).1
  have k2 := (hk (j * 2 + 1) (by rw [size_flatK, List.size_toArray]; omega)).1
  rw [Nat.zero_add, hb.cell, f1] at k1
  rw [Nat.zero_add, hb.cell, f2] at k2
  exact ⟨k1, k2⟩
theorem sorted_bel {B g n : Nat} {w : World} {r : List (Int × Int)} {os : Array Obj} (hB : B ≤ g) (hg : g < w.heap.size) : Below B w (sortWorldK enc 2 w g 0 n r.toArray os) := by
  refine ⟨rfl, rfl, rfl, ?_, fun k hk => ?_⟩
  · show w.heap.size ≤ (w.heap.modify g _ ++ os).size
    simp
  · show (w.heap.modify g _ ++ os)[k]? = w.heap[k]?
    have h : k < w.heap.size := by omega
    rw [Array.getElem?_append_left (by simpa using h), Array.getElem?_modify, if_neg (by omega)]

/-- A row of the call's own, as a block that is known. -/
theorem Hd.of_own {w : World} {base n c : Nat} {V : Option Addr} {l : List (Int × Int)} (h : w.ownsRow base 24 2 (.slice V n c) n (cells l)) (hn : 0 < n) : ∃ g vs, V = some ⟨g, 0, none⟩ ∧ base ≤ g ∧ Hd w g vs l ∧ n ≤ c ∧ c ≤ maxLen := by
  rcases h.2 with ⟨_, h0⟩ | ⟨g, cap, cur, hv, hb, hh, hnc, hm, _, _⟩
  · omega
  · injection hv with e1 _ e2
    subst e1; subst e2
    refine ⟨g, cur, rfl, hb, ⟨hh, fun j x hx => ?_⟩, hnc, hm⟩
    obtain ⟨h1, h2⟩ := cells_at l j x hx
    have k1 := h.cells (g := g) rfl _ _ h1
    have k2 := h.cells (g := g) rfl _ _ h2
    rw [Addr.add_lit, Nat.zero_add, cell_of_row _ _ _ _ _ _ hh] at k1 k2
    exact ⟨k1, k2⟩

theorem sort_ids (l : List (Int × Int)) (g n c : Nat) (vs : Array Value) (w : World) (hd : Hd w g vs l) (hl : l.length = n) (hn : n ≤ 1073741824) :
    Calls Tryd.prog 33 #[.slice (some ⟨g, 0, none⟩) n c, .func (.func 34) #[] #[]] w fun e w' =>
      e = .returned (.tuple #[]) ∧ ∃ n os, w' = sortWorldK enc 2 w g 0 n (l.mergeSort fun x y => !lt y x).toArray os := by
  subst hl
  have hsf := AnyQ.slices_SortFunc_total Tryd.sortIds 2 Tryd.isAgg24 Tryd.sizeOf24 enc (fun _ => rfl) (fun x v hv => by simp [enc] at hv; rcases hv with rfl | rfl <;> rfl) cmpf swo_cmpf 34 #[] g 0 c l.toArray w (enters_of Tryd.func34 (by kernel_rfl) rfl) (cmp_lays g 0 _ w) hd.holds hd.blk.lt (by simp; omega) (fun x y h1 h2 => by rw [lt_cmpf] at h1 h2; exact lt_tri h1 h2)
  have e : (fun x y : Int × Int => !ltOf cmpf y x) = fun x y => !lt y x := by funext x y; rw [lt_cmpf]
  rw [e] at hsf
  exact hsf

/-- The ending: a slice that holds l; what was there stays. -/
def Gets (w : World) (l : List (Int × Int)) (e : Ending) (w' : World) : Prop :=
  ∃ A c, e = .returned (.slice A l.length c) ∧ Rs w' A l.length c l ∧ Below w.heap.size w w'
theorem Makes.gets {w : World} {l : List (Int × Int)} {e : Ending} {w' : World} (h : Makes w l e w') : Gets w l e w' := by
  obtain ⟨A, c, he, ho, hb⟩ := h
  exact ⟨A, c, he, Rs.own ho, hb⟩

theorem compact_none (V : Option Addr) (c : Nat) (w : World) : Calls Tryd.prog 35 #[.slice V 0 c] w fun e w' => e = .returned (.slice V 0 c) ∧ w' = w := by
  go_enter Tryd.func35, Tryd.ntmps35
  go_wp2_with fail
  go_ret
  exact ⟨rfl, rfl⟩

set_option maxHeartbeats 1000000 in
theorem set_any (l : List (Int × Int)) (A : Option Addr) (n c : Nat) (w : World) (ha : Rs w A n c l) (hn : n ≤ 1073741824) :
    Calls Tryd.prog 8 #[.slice A n c] w (Gets w (setl l)) := by
  have hla := ha.len
  have HC := Lib.hid (clone_ids l A n c w ha hn)
  clear ha
  go_enter Tryd.func8, Tryd.ntmps8
  go_wp2_with fail
  refine HC.out.mono ?_
  rintro e w1 ⟨V, cv, rfl, hown, hb1⟩
  have hs1 := hb1.size
  have HB1 := Lib.hid hb1
  clear hb1
  rcases Nat.eq_zero_or_pos n with h0 | h0
  · have hl0 : l = [] := List.eq_nil_of_length_eq_zero (by omega)
    subst hl0
    have HR := Lib.hid (Rs.own hown)
    have hsf := fun fv W => AnyF.slices_SortFunc_none Tryd.sortIds V cv fv W
    change ∀ fv W, Calls Tryd.prog 33 _ _ _ at hsf
    have HS := Lib.hid hsf
    clear hown hsf
    simp only [List.length_nil]
    go_wp2_with fail
    refine (HS.out _ _).mono ?_
    rintro e w2 ⟨rfl, rfl⟩
    have HK := Lib.hid (compact_none V cv w2)
    go_wp2_with fail
    refine HK.out.mono ?_
    rintro e w3 ⟨rfl, rfl⟩
    go_wp2_with fail
    go_ret
    have hs0 : setl [] = [] := List.eq_nil_of_length_eq_zero (Nat.le_zero.1 (length_setl []))
    rw [hs0]
    exact ⟨V, cv, rfl, HR.out, HB1.out⟩
  · obtain ⟨g, vs, rfl, hg, hd, hnc, hm⟩ := Hd.of_own hown (by omega)
    have HS := Lib.hid (sort_ids l g n cv vs w1 hd hla hn)
    have HD := Lib.hid hd
    clear hown
    go_wp2_with fail
    refine HS.out.mono ?_
    rintro e w2 ⟨rfl, n2, os2, rfl⟩
    obtain ⟨r, hr⟩ : ∃ r, l.mergeSort (fun x y => !lt y x) = r := ⟨_, rfl⟩
    have hrl : r.length = l.length := by rw [← hr]; exact (List.mergeSort_perm l _).length_eq
    rw [hr]
    obtain ⟨vs2, hd2⟩ := HD.out.sorted hrl n2 os2
    have hb2 : Below w.heap.size w1 (sortWorldK enc 2 w1 g 0 n2 r.toArray os2) := sorted_bel hg HD.out.blk.lt
    have hset : dd r = setl l := by rw [← hr]; rfl
    generalize sortWorldK enc 2 w1 g 0 n2 r.toArray os2 = w2 at hd2 hb2 ⊢
    have HK := Lib.hid (compact_any r g w.heap.size n cv vs2 w2 hd2 (hrl.trans hla) (by omega) hm hg)
    rw [hset] at HK
    have HB2 := Lib.hid hb2
    clear hd2 hb2 hr hset
    go_wp2_with fail
    refine HK.out.mono ?_
    rintro e w3 ⟨vs3, rfl, hd3, hb3⟩
    have HD3 := Lib.hid hd3
    have HB3 := Lib.hid hb3
    have hle := length_setl l
    clear hd3 hb3
    go_wp2_with fail
    go_ret
    exact ⟨_, cv, rfl, HD3.out.rs rfl (by omega) hm, (HB1.out.trans HB2.out).trans HB3.out⟩
end Go.Proofs.YtmbmgmelnejceaaDoor
