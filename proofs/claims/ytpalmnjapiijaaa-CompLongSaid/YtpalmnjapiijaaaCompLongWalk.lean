/-
  Texts of earlier layers, as one.
-/
import Derived.Test.YtpalmnjapiijaaaCompHas
import Derived.Test.YtpalmnjapiijaaaCompApartWalk
/- CompLong's walk: a long row, and a long ring. -/
namespace Go.Proofs.Ytpalmnjapiijaaa.Gr
open Go.RowKit Mem Dsk

/-- The row as far as it is made. -/
def lsI (k i : Nat) : Graph := (List.range k).map fun j => if j < i then [((j + 1 : Nat) : Int)] else []
theorem lsI_length (k i : Nat) : (lsI k i).length = k := by simp [lsI]
theorem lsI_zero (k : Nat) : lsI k 0 = List.replicate k [] := by
  unfold lsI
  apply List.ext_getElem?
  intro j
  by_cases h : j < k <;> simp [h]
theorem lsI_next {k i : Nat} : (lsI k i).set i [((i + 1 : Nat) : Int)] = lsI k (i + 1) := by
  apply List.ext_getElem?
  intro j
  rw [List.getElem?_set, lsI_length]
  unfold lsI
  rw [List.getElem?_map, List.getElem?_map]
  by_cases hj : j < k
  · rw [List.getElem?_range hj]
    by_cases e : i = j
    · subst e
      rw [if_pos rfl, if_pos hj]
      simp
    · rw [if_neg e]
      by_cases h2 : j < i
      · simp [h2, show j < i + 1 by omega]
      · simp [h2, show ¬ j < i + 1 by omega]
  · rw [List.getElem?_eq_none (by simp; omega)]
    by_cases e : i = j
    · rw [if_pos e, if_neg (by omega)]; rfl
    · rw [if_neg e]; rfl
theorem lsI_row {k : Nat} (h : 0 < k) : lsI k (k - 1) = rowG k [] := by
  unfold lsI rowG
  refine List.map_congr_left fun j hj => ?_
  have := List.mem_range.1 hj
  by_cases h2 : j + 1 < k
  · rw [if_pos (by omega), if_pos h2]
  · rw [if_neg (by omega), if_neg h2]
theorem row_ring {k : Nat} (h : 0 < k) : (rowG k []).set (k - 1) [0] = rowG k [0] := by
  apply List.ext_getElem?
  intro j
  rw [List.getElem?_set, rowG_length]
  unfold rowG
  rw [List.getElem?_map, List.getElem?_map]
  by_cases hj : j < k
  · rw [List.getElem?_range hj]
    by_cases e : k - 1 = j
    · rw [if_pos e, if_pos (by omega)]
      simp [show ¬ j + 1 < k by omega]
    · rw [if_neg e]
      simp [show j + 1 < k by omega]
  · rw [List.getElem?_eq_none (by simp; omega)]
    by_cases e : k - 1 = j
    · rw [if_pos e, if_neg (by omega)]; rfl
    · rw [if_neg e]; rfl
theorem rowG_short {k : Nat} {last : List Int} (hl : last.length ≤ 1) : ∀ l ∈ rowG k last, l.length ≤ 17592186044416 := fun l hl' => by
  unfold rowG at hl'
  obtain ⟨j, _, rfl⟩ := List.mem_map.1 hl'
  split
  · simp
  · omega
theorem mi_new (w : World) (k : Nat) (hk : k ≤ 1000000) : MI (w.alloc (.cells (madeCells #[.slice none 0 0] k) 27)) w.heap.size (some ⟨w.heap.size, 0, none⟩) k k (List.replicate k (none, 0, 0)) (lsI k 0) := by
  refine ⟨⟨by rw [length_flat, List.length_replicate], .inr ⟨w.heap.size, k, madeCells #[.slice none 0 0] k, rfl, Nat.le_refl _, heap_alloc_new w _, Nat.le_refl _, by unfold maxLen; omega, by simp [madeCells, LS], ?_⟩⟩, by rw [List.length_replicate, lsI_length], fun j a l ha hl => ?_, fun a ha hn => ?_⟩
  · rw [toList_madeCells_one, List.take_of_length_le (by simp [LS]), flat_hd, List.map_replicate]
    rfl
  · rw [lsI_zero] at hl
    have h1 := List.eq_of_mem_replicate (List.mem_of_getElem? ha)
    have h2 := List.eq_of_mem_replicate (List.mem_of_getElem? hl)
    subst h1 h2
    exact Rw.nil_ _
  · have h1 := List.eq_of_mem_replicate ha
    subst h1
    exact absurd hn (Nat.lt_irrefl 0)
theorem alloc_set {w : World} {g i : Nat} {v : Value} {o : Obj} (h : g < w.heap.size) : (w.alloc o).setCell ⟨g, i, none⟩ v = (w.setCell ⟨g, i, none⟩ v).alloc o := by
  unfold World.setCell World.alloc
  simp only
  congr 1
  apply Array.ext_getElem?
  intro j
  rw [Array.getElem?_modify, Array.getElem?_push, Array.getElem?_push, Array.getElem?_modify, Array.size_modify]
  by_cases e1 : g = j
  · subst e1
    rw [if_pos rfl, if_neg (by omega), if_neg (by omega), if_pos rfl]
  · rw [if_neg e1, if_neg e1]
def Lg1Rel (w : World) (k g : Nat) (v5 : Value) (wr : World) : Prop := ∃ (i : Nat) (hs : List Hd), v5 = .int .i64 (i : Int) ∧ i + 1 ≤ k ∧ MI wr w.heap.size (some ⟨g, 0, none⟩) k k hs (lsI k i) ∧ Below w.heap.size w wr
theorem rowZ_at {k i : Nat} (h : i < k) : (compsZ (rowG k []))[i]? = some [((k - 1 - i : Nat) : Int)] := by
  unfold compsZ
  rw [row_comps, List.map_map, List.getElem?_map, List.getElem?_range h]
  rfl
theorem rowZ_length (k : Nat) : (compsZ (rowG k [])).length = k := by
  unfold compsZ
  rw [row_comps]
  simp
theorem ringZ {k : Nat} (h : 0 < k) : compsZ (rowG k [0]) = [toZ (List.range k)] := by
  unfold compsZ
  rw [ring_comps h]
  rfl
theorem MI.bel {w w' : World} {B : Nat} {A : Option Addr} {m c : Nat} {hs : List Hd} {ls : Graph} (h : MI w B A m c hs ls) (hb : Below w.heap.size w w') : MI w' B A m c hs ls := h.keep hb.size fun q _ hq => hb.block q hq
theorem mi_cell {w : World} {B g m c i : Nat} {hs : List Hd} {ls : Graph} (h : MI w B (some ⟨g, 0, none⟩) m c hs ls) (hi : i < m) : ∃ x, w.cell? ⟨g, i, none⟩ = some (hdV x) := by
  obtain ⟨g', o, R, rn, rc, l, e, _, _, hc, _⟩ := h.mat.at_ hi
  cases e
  rw [Nat.zero_add] at hc
  exact ⟨(R, rn, rc), hc⟩
def Lg2Rel (k : Nat) (u : World) (v8 : Value) (wr : World) : Prop := ∃ i : Nat, v8 = .int .i64 (i : Int) ∧ i ≤ k ∧ wr = u
set_option maxRecDepth 20000 in
set_option maxHeartbeats 16000000 in
theorem complong_nat (x : Nat) (w : World) (hx : x < 65536) : Calls Try.prog 5 #[.int .u16 (x : Int)] w (Tells true w) := by
  have HAW := Lib.hid (fun u => comp_awake has_comps u)
  go_enter Try.func5, Try.ntmps5
  go_upto_region 2 with fail
  obtain ⟨k, hk⟩ : ∃ k : Nat, 1 + (x : Int) % 2000 = (k : Int) := ⟨1 + x % 2000, by omega⟩
  have hk0 : 0 < k := by omega
  have hk1 : k ≤ 2000 := by omega
  rw [hk]
  have hmk := run_make_row' (P := Try.prog) 22 27 (.slice none 0 0) 24 Try.underlying22 info_irow rfl .i64 .i64 k (by omega) (by omega)
  clear hk hx
  go_upto_region 3 with fail
  obtain ⟨W1, hW1⟩ : ∃ y, w.alloc (.cells (madeCells #[.slice none 0 0] k) 27) = y := ⟨_, rfl⟩
  obtain ⟨g, hg⟩ : ∃ y, w.heap.size = y := ⟨_, rfl⟩
  have hmi := mi_new w k (by omega)
  have hb1 : Below w.heap.size w W1 := by rw [← hW1]; exact bel_alloc (Below.refl _ _) _
  rw [hW1, hg] at hmi ⊢
  have HST := Lib.hid (show Lg1Rel w k g (.int .i64 ((0 : Nat) : Int)) W1 from ⟨0, _, rfl, by omega, by rw [hg]; exact hmi, hb1⟩)
  have HG := Lib.hid hg
  clear hW1 hmi hb1 hmk hg
  go_wp2_with fail
  go_loopw [5] (Lg1Rel w k g) (fun v _ => k - (intOf v).toNat)
  case atStart => simpa using HST.out
  case round =>
    rename World => wr
    obtain ⟨i, hs, rfl, hik, hmi, hbr⟩ := hrel
    clear HST
    have hwi : IntKind.i64.wrap ((i : Int) + 1) = (i : Int) + 1 := wr64 (by omega) (by omega)
    by_cases hlt : i + 1 < k
    · have hlt' : (i : Int) + 1 < (k : Int) := by omega
      obtain ⟨h0, c1⟩ := mi_cell hmi (show i < k by omega)
      have f1 := own_soft hmi.own i
      have hik' : i < k := by omega
      have hbl : Below wr.heap.size wr (wr.alloc (.cells #[.int .i64 ((i : Int) + 1)] 3)) := bel_alloc (Below.refl _ _) _
      have hgr : g < wr.heap.size := by have := hbr.size; have h9 := (hmi.own.lt g rfl).2; exact h9
      have hst := (hmi.bel hbl).store (i := i) (R := some ⟨wr.heap.size, 0, none⟩) (rn := 1) (rc := 1) (l := [((i + 1 : Nat) : Int)]) (Rw.lit (L := LN) wr ((i + 1 : Nat) : Int) 3) (fun _ ad e => by
        cases e
        exact ⟨hbr.size, fun e => by have e : g = wr.heap.size := e; omega⟩)
      rw [lsI_next] at hst
      have hbs := (bel_trans hbr hbl).setCell (p := ⟨g, i, none⟩) (Nat.le_of_eq HG.out) (.slice (some ⟨wr.heap.size, 0, none⟩) 1 1)
      rw [alloc_set hgr] at hst
      rw [alloc_set hgr] at hbs
      have HF := Lib.hid (show Lg1Rel w k g (.int .i64 ((i + 1 : Nat) : Int)) ((wr.setCell ⟨g, i, none⟩ (.slice (some ⟨wr.heap.size, 0, none⟩) 1 1)).alloc (.cells #[.int .i64 ((i : Int) + 1)] 3)) from ⟨i + 1, _, rfl, by omega, hst, hbs⟩)
      clear hmi hbr hbl hst hik hbs
      go_wp2_with fail
      go_roundw
      case rel => simpa using HF.out
      case measure =>
        simp [intOf]
        omega
    · have hlt' : ¬ ((i : Int) + 1 < (k : Int)) := by omega
      have hie : i = k - 1 := by omega
      rw [hie, lsI_row hk0] at hmi
      have hkl : (compsZ (rowG k [])).length = k := rowZ_length k
      have HCR : Hid (Calls Try.prog 10 #[.slice (some ⟨g, 0, none⟩) k k] wr (fun x w' => ∃ A c hs, x = .returned (.slice A k c) ∧ MI w' wr.heap.size A k c hs (compsZ (rowG k [])) ∧ Below wr.heap.size wr w')) := Lib.hid (by
        have := comps_new (some ⟨g, 0, none⟩) k k (rowG k []) wr hmi.mat (by omega) (rowG_short (by simp))
        unfold NewMI at this
        rw [hkl] at this
        exact this)
      have HX := Lib.hid (And.intro hmi hbr)
      clear hmi hbr hkl hie hik
      go_wp2_with fail
      (with_reducible refine HCR.out.mono ?_)
      rintro r u1 ⟨A6, c6, hs6, rfl, hm6, hb1⟩
      clear HCR
      obtain ⟨hmi, hbr⟩ := HX.out
      have hm1 := hmi.bel hb1
      obtain ⟨h0, c1⟩ := mi_cell hm1 (show k - 1 < k by omega)
      have f1 := own_soft hm1.own (k - 1)
      have hgr : g < wr.heap.size := (hmi.own.lt g rfl).2
      have hg1 : g < u1.heap.size := Nat.lt_of_lt_of_le hgr hb1.size
      have hbl : Below u1.heap.size u1 (u1.alloc (.cells #[.int .i64 0] 3)) := bel_alloc (Below.refl _ _) _
      have hst := (hm1.bel hbl).store (i := k - 1) (R := some ⟨u1.heap.size, 0, none⟩) (rn := 1) (rc := 1) (l := [0]) (Rw.lit (L := LN) u1 0 3) (fun _ ad e => by
        cases e
        have := hbr.size
        have := hb1.size
        exact ⟨by show w.heap.size ≤ u1.heap.size; omega, fun e => by have e : g = u1.heap.size := e; omega⟩)
      rw [row_ring hk0] at hst
      obtain ⟨q, hq⟩ : ∃ q, k - 1 = q := ⟨_, rfl⟩
      rw [hq] at c1 f1 hst
      have hqk : IntKind.i64.wrap ((k : Int) - 1) = (q : Int) := by rw [show (k : Int) - 1 = (q : Int) by omega]; exact wr64 (by omega) (by omega)
      have hqk' : wrap64 (q : Int) = (q : Int) := by unfold wrap64; omega
      have hqlt : q < k := by omega
      obtain ⟨W3, hW3⟩ : ∃ y, (u1.alloc (.cells #[.int .i64 0] 3)).setCell ⟨g, q, none⟩ (.slice (some ⟨u1.heap.size, 0, none⟩) 1 1) = y := ⟨_, rfl⟩
      have hW3' : (u1.setCell ⟨g, q, none⟩ (.slice (some ⟨u1.heap.size, 0, none⟩) 1 1)).alloc (.cells #[.int .i64 0] 3) = W3 := by rw [← alloc_set hg1, hW3]
      rw [hW3] at hst
      have hm63 : MI W3 wr.heap.size A6 k c6 hs6 (compsZ (rowG k [])) := hm6.keep (by rw [← hW3]; simp) fun q' h1 h2 => by
        rw [← hW3]
        exact (Below.heap_setCell _ ⟨g, q, none⟩ _ q' fun e => by have e : q' = g := e; omega).trans (hbl.block q' h2)
      have hbw3 : Below w.heap.size w W3 := by rw [← hW3]; exact ((bel_trans (bel_trans hbr hb1) hbl).setCell (p := ⟨g, q, none⟩) (Nat.le_of_eq HG.out) _)
      have hrl : (compsZ (rowG k [0])).length = 1 := by rw [ringZ hk0]; rfl
      have HCR : Hid (Calls Try.prog 10 #[.slice (some ⟨g, 0, none⟩) k k] W3 (fun x w' => ∃ A c hs, x = .returned (.slice A 1 c) ∧ MI w' W3.heap.size A 1 c hs [toZ (List.range k)] ∧ Below W3.heap.size W3 w')) := Lib.hid (by
        have := comps_new (some ⟨g, 0, none⟩) k k (rowG k [0]) W3 hst.mat (by omega) (rowG_short (by simp))
        unfold NewMI at this
        rw [hrl, ringZ hk0] at this
        exact this)
      have HX2 := Lib.hid (And.intro hm63 (And.intro hbw3 hq))
      have HW3 := Lib.hid hW3'
      clear hmi hbr hm6 hb1 hm1 hgr hbl hst hW3 hm63 hbw3 hrl HX hq hW3'
      go_upto_region 9 with fail
      rw [HW3.out]
      clear c1 f1 hg1 hqk hqk'
      go_wp2_with fail
      (with_reducible refine HCR.out.mono ?_)
      rintro r u2 ⟨A7, c7, hs7, rfl, hm7, hb2⟩
      clear HCR
      obtain ⟨g7, o7, R7, rn7, rc7, l7, rfl, hg7, hl7, c7a, hr7⟩ := hm7.mat.at_ (k := 0) (by omega)
      simp only [List.getElem?_cons_zero, Option.some.injEq] at hl7
      subst hl7
      have hrn7 : rn7 = k := by rw [← hr7.len, toZ_length, List.length_range]
      rw [hrn7] at c7a hr7
      simp only [Nat.add_zero] at c7a
      have hm6 := HX2.out.1.bel hb2
      obtain ⟨g6, o6, hA6⟩ := mat_some hm6.mat hk0
      subst hA6
      have HY := Lib.hid (And.intro hm6 (And.intro hr7 (bel_trans HX2.out.2.1 hb2)))
      clear hm6 hm7 hb2 hr7 hg7 hrn7 hqlt
      go_wp2_with fail
      go_loopw [8] (Lg2Rel k u2) (fun v _ => k - (intOf v).toNat)
      case atStart => exact ⟨0, rfl, Nat.zero_le _, rfl⟩
      case round =>
        obtain ⟨i, rfl, hi, rfl⟩ := hrel
        by_cases hin : i < k
        · obtain ⟨R, rn, rc, l, hg6, hl, d1, hr⟩ := mat_at HY.out.1.mat hin
          rw [rowZ_at hin] at hl
          cases hl
          have hrn : rn = 1 := hr.len.symm
          subst hrn
          obtain ⟨g2, o2, z, hR, _, hz, d2⟩ := int_at hr (k := 0) (by omega)
          subst hR
          simp only [List.getElem?_cons_zero, Option.some.injEq] at hz
          subst hz
          simp only [Nat.add_zero] at d2
          obtain ⟨g8, o8, z, hR, _, hz, d3⟩ := int_at HY.out.2.1 hin
          subst hR
          have hz : z = (i : Int) := by
            unfold toZ at hz
            rw [List.getElem?_map, List.getElem?_range hin] at hz
            simpa using hz.symm
          subst hz
          obtain ⟨t, ht⟩ : ∃ t, k - 1 - i = t := ⟨_, rfl⟩
          rw [ht] at d2
          have hw1 : IntKind.i64.wrap ((k : Int) - 1) = (k : Int) - 1 := wr64 (by omega) (by omega)
          have hw2 : IntKind.i64.wrap ((k : Int) - 1 - (i : Int)) = (t : Int) := by rw [show (k : Int) - 1 - (i : Int) = (t : Int) by omega]; exact wr64 (by omega) (by omega)
          have hwi : IntKind.i64.wrap ((i : Int) + 1) = (i : Int) + 1 := wr64 (by omega) (by omega)
          have hw3 : wrap64 (t : Int) = (t : Int) := by unfold wrap64; omega
          have HT := Lib.hid ht
          clear hr hg6 ht
          go_wp2_with fail
          go_roundw
          case rel => exact ⟨i + 1, by simp, by omega, rfl⟩
          case measure =>
            simp [intOf]
            omega
        · have hin' : ¬ ((i : Int) < (k : Int)) := by omega
          go_wp2_with (go_at_call 9; (with_reducible refine (HAW.out _).mono ?_); rintro r w10 ⟨rfl, hb10⟩; have HB10 := Lib.hid hb10; clear hb10)
          go_ret
          exact ⟨rfl, bel_trans HY.out.2.2 HB10.out⟩
theorem complong_any (y : Int) (w : World) (hy : 0 ≤ y ∧ y ≤ 65535) : Calls Try.prog 5 #[.int .u16 y] w (Tells true w) := by
  obtain ⟨x, rfl⟩ := Int.eq_ofNat_of_zero_le hy.1
  exact complong_nat x w (by omega)
end Go.Proofs.Ytpalmnjapiijaaa.Gr
