/-
  ids.Text and the document's: an id's text.
-/
import Derived.Test.YtmbmgmelnejceaaDoorIdsSet
import Derived.Test.YtmbmgmelnejceaaDoorTxt
import Derived.Shelf.SlSortCmp.QuietGrown
import Derived.Lib.SmallJoins
namespace Go.Proofs.YtmbmgmelnejceaaDoor
open Go.RowKit Mem Ids Go.Sort

def itoaS (n : Int) : ByteArray := ⟨(Lib.itoa n).toArray⟩
/-- The library's table of powers lies as its text lays it. -/
def Tab (w : World) : Prop := Lib.TabIs Tryd.prog w "internal/strconv.uint64pow10" .u64 Lib.pow10Tab
theorem gPow : Tryd.prog.globalNamed "internal/strconv.uint64pow10" = some 0 := by kernel_rfl
theorem Tab.below {w w' : World} (h : Tab w) (hb : Below w.heap.size w w') : Tab w' := Joins.tab_stays gPow h hb (Nat.le_refl _)
theorem dec_len : ∀ (k u : Nat), u < 10 ^ (k + 1) → (Lib.decDigits u).length ≤ k + 1
  | 0, u, h => by rw [Lib.decDigits, dif_pos (by simpa using h)]; simp
  | k + 1, u, h => by
    rw [Lib.decDigits]
    split
    · simp
    · have := dec_len k (u / 10) (by rw [Nat.div_lt_iff_lt_mul (by omega)]; rw [Nat.pow_succ] at h; omega)
      simp
      omega
theorem itoa_size (n : Int) (h0 : -9223372036854775808 ≤ n) (h1 : n ≤ 9223372036854775807) : (itoaS n).size ≤ 21 := by
  show (Lib.itoa n).toArray.size ≤ 21
  rw [List.size_toArray]
  unfold Lib.itoa
  split
  · have := dec_len 19 n.natAbs (by omega)
    simp
    omega
  · have := dec_len 19 n.toNat (by omega)
    omega
def idText (x : Int × Int) : ByteArray := itoaS x.1 ++ ⟨#[46]⟩ ++ itoaS x.2

set_option maxHeartbeats 1000000 in
theorem text_any (x : Int × Int) (hx1 : -9223372036854775808 ≤ x.1 ∧ x.1 ≤ 9223372036854775807) (hx2 : -9223372036854775808 ≤ x.2 ∧ x.2 ≤ 9223372036854775807) (w : World) (hT : Tab w) :
    Calls Tryd.prog 17 #[.agg #[.int .i64 x.1, .int .i64 x.2]] w fun e w' => e = .returned (.string (idText x)) ∧ Grew w w' := by
  have hblk := Blk.new w 24 #[.int .i64 x.1, .int .i64 x.2]
  have hg1 : Grew w (w.alloc (.cells #[.int .i64 x.1, .int .i64 x.2] 24)) := ⟨0, #[_], by rw [alloc_eq_grow]; rfl⟩
  have hT1 := hT.below hg1.bel
  obtain ⟨W, hW⟩ : ∃ W, W = w.alloc (.cells #[.int .i64 x.1, .int .i64 x.2] 24) := ⟨_, rfl⟩
  rw [← hW] at hblk hg1 hT1
  have hgt : ∀ q os, Grew w (grow (W.drewN q) os) := fun q os => by
    rw [hW]
    exact ⟨q, #[_] ++ os, by rw [alloc_eq_grow]; show grow (grow (w.drewN q) _) os = _; rw [grow_grow]⟩
  have HT := Lib.hid hgt
  have H1 := Lib.hid (fun q os => Tryd.strconv_Itoa x.1 hx1.1 hx1.2 (grow (W.drewN q) os) (hT1.below (Grew.bel ⟨q, os, rfl⟩)))
  have H2 := Lib.hid (fun q os => Tryd.strconv_Itoa x.2 hx2.1 hx2.2 (grow (W.drewN q) os) (hT1.below (Grew.bel ⟨q, os, rfl⟩)))
  have a0 := fun q os => cell_grown (w := W) (a := ⟨w.heap.size, 0, none⟩) hblk.lt (hblk.cell 0) q os
  have a1 := fun q os => cell_grown (w := W) (a := ⟨w.heap.size, 1, none⟩) hblk.lt (hblk.cell 1) q os
  have z1 := itoa_size x.1 hx1.1 hx1.2
  have z2 := itoa_size x.2 hx2.1 hx2.2
  unfold idText
  unfold itoaS at z1 z2 ⊢
  generalize (⟨(Lib.itoa x.1).toArray⟩ : ByteArray) = s1 at H1 z1 ⊢
  generalize (⟨(Lib.itoa x.2).toArray⟩ : ByteArray) = s2 at H2 z2 ⊢
  have n1 : ¬ (9223372036854775807 < s1.size + 1) := by omega
  have n2 : ¬ (9223372036854775807 < s1.size + 1 + s2.size) := by omega
  obtain ⟨x1, x2⟩ := x
  simp only at a0 a1
  clear hblk hg1 hT1 hT hgt
  go_enter Tryd.func17, Tryd.ntmps17
  go_wp2_with fail
  rw [← hW]
  clear hW
  refine wp_region_quiet_grown (by kernel_rfl) (by kernel_rfl) ?_
  repeat (first | ((with_reducible refine wpQuiet_skip ?_ ?_); (focus rfl); simp only [Act.put, List.setIfInBounds_toArray, List.set_cons_zero, List.set_cons_succ]) | ((with_reducible refine wpQuiet_step (fun K hK => ?_)); go_simp; (with_reducible refine hK _ ?_); clear hK K))
  with_reducible refine wpQuiet_step (fun K hK => ?_)
  go_simp
  apply Exists.intro
  refine ⟨fun _ => ?_, hK _ ?_⟩
  exact Calls.grown_of (H1.out _ _)
  clear hK K
  repeat (first | ((with_reducible refine wpQuiet_skip ?_ ?_); (focus rfl); simp only [Act.put, List.setIfInBounds_toArray, List.set_cons_zero, List.set_cons_succ]) | ((with_reducible refine wpQuiet_step (fun K hK => ?_)); go_simp; (with_reducible refine hK _ ?_); clear hK K))
  with_reducible refine wpQuiet_step (fun K hK => ?_)
  go_simp
  apply Exists.intro
  refine ⟨fun _ => ?_, hK _ ?_⟩
  exact Calls.grown_of (H2.out _ _)
  clear hK K
  repeat (first | ((with_reducible refine wpQuiet_skip ?_ ?_); (focus rfl); simp only [Act.put, List.setIfInBounds_toArray, List.set_cons_zero, List.set_cons_succ]) | ((with_reducible refine wpQuiet_step (fun K hK => ?_)); go_simp; (with_reducible refine hK _ ?_); clear hK K))
  with_reducible refine wpQuiet_nil ?_
  intro _ hw'
  obtain ⟨⟨nq, osq⟩, hw''⟩ := hw'
  subst hw''
  go_wp2_with fail
  go_ret
  exact ⟨rfl, HT.out _ _⟩

/-- The digits of v ahead of its last one. -/
def ahd (v : Nat) : List UInt8 := if v < 10 then [] else Lib.decDigits (v / 10)
theorem dec_last (v : Nat) : Lib.decDigits v = ahd v ++ [UInt8.ofNat (48 + v % 10)] := by
  unfold ahd
  rw [Lib.decDigits]
  split
  · rename_i h
    rw [Nat.mod_eq_of_lt h]
    rfl
  · rfl
def TxRel (v0 : Int) (w : World) (a b : Value) (wr : World) : Prop :=
  ∃ (v : Int) (s : ByteArray), a = .int .i64 v ∧ b = .string s ∧ 0 ≤ v ∧ v ≤ v0 ∧ Lib.decDigits v0.toNat = ahd v.toNat ++ s.data.toList ∧ Below w.heap.size w wr
theorem tx_more {v0 v : Int} {s : ByteArray} {d : Nat} (h9 : 9 < v) (h : Lib.decDigits v0.toNat = ahd v.toNat ++ s.data.toList) (hd : 48 + v / 10 % 10 = (d : Int)) : Lib.decDigits v0.toNat = ahd (v / 10).toNat ++ (txt [d] ++ s).data.toList := by
  have e1 : (v / 10).toNat = v.toNat / 10 := by omega
  have e2 : ahd v.toNat = Lib.decDigits (v.toNat / 10) := by unfold ahd; rw [if_neg (by omega)]
  have e3 : d = 48 + v.toNat / 10 % 10 := by omega
  rw [h, e1, e2, dec_last (v.toNat / 10), ByteArray.data_append, e3]
  simp [txt]
theorem tx_size {v0 v : Int} {s : ByteArray} (h0 : v0 ≤ 9223372036854775807) (h : Lib.decDigits v0.toNat = ahd v.toNat ++ s.data.toList) : s.size ≤ 20 := by
  have h1 := dec_len 19 v0.toNat (by omega)
  have h2 := congrArg List.length h
  have h3 : s.data.toList.length = s.size := by simp
  rw [List.length_append, h3] at h2
  omega
theorem conv1 (W : World) (d : Nat) : (convert 64 9 (.slice (some ⟨W.heap.size, 0, none⟩) 1 1)).run Tryd.prog (W.alloc (.cells #[.int .u8 (d : Int)] 5)) = .ok (.string (txt [d])) (W.alloc (.cells #[.int .u8 (d : Int)] 5)) :=
  run_text (bs := [d]) 64 9 5 Tryd.underlying64 Tryd.underlying5 Tryd.underlying9 (Rd.one W (.int .u8 (d : Int)) 5)

set_option maxHeartbeats 1000000 in
theorem reftext_pos (v : Int) (h0 : 0 ≤ v) (hv : v ≤ 9223372036854775807) (w : World) :
    Calls Tryd.prog 38 #[.int .i64 v] w fun e w' => e = .returned (.string (itoaS v)) ∧ Below w.heap.size w w' := by
  have hn : ¬ v < 0 := by omega
  obtain ⟨r, hr⟩ : ∃ r, v % 10 = r := ⟨_, rfl⟩
  have hrb : 0 ≤ r ∧ r ≤ 9 := by omega
  obtain ⟨d, hd⟩ : ∃ d : Nat, 48 + r = (d : Int) := ⟨(48 + r).toNat, by omega⟩
  have hwr : IntKind.i64.wrap r = r := wrap64 (by omega) (by omega)
  have hw1 : IntKind.i64.wrap (48 + r) = (d : Int) := by rw [wrap64 (by omega) (by omega), hd]
  have hw2 : IntKind.u8.wrap (d : Int) = (d : Int) := by
    simp [IntKind.wrap, IntKind.bits, IntKind.signed]
    omega
  have hconv := fun W => conv1 W d
  have hst : Lib.decDigits v.toNat = ahd v.toNat ++ (txt [d]).data.toList := by
    rw [dec_last v.toNat, show d = 48 + v.toNat % 10 by omega]
    simp [txt]
  have HS := Lib.hid hst
  clear hd hst
  go_enter Tryd.func38, Tryd.ntmps38
  go_wp2_with fail
  clear hconv hw1 hw2 hwr
  go_loopw [0, 3] (TxRel v w) (fun a _ _ => (intOf a).toNat)
  case atStart => exact ⟨v, txt [d], rfl, rfl, h0, Int.le_refl _, HS.out, bel_alloc (Below.refl _ _) _⟩
  case round =>
    obtain ⟨u, s, rfl, rfl, hu0, huv, hdig, hbw⟩ := hrel
    have hss := tx_size hv hdig
    have HD := Lib.hid hdig
    have HB := Lib.hid hbw
    have hsz := hbw.size
    clear hdig hbw
    by_cases h9 : 9 < u
    · obtain ⟨q, hq⟩ : ∃ q, u / 10 = q := ⟨_, rfl⟩
      have hqb : 0 ≤ q ∧ q < u := by omega
      obtain ⟨r, hr⟩ : ∃ r, q % 10 = r := ⟨_, rfl⟩
      have hrb : 0 ≤ r ∧ r ≤ 9 := by omega
      obtain ⟨d, hd⟩ : ∃ d : Nat, 48 + r = (d : Int) := ⟨(48 + r).toNat, by omega⟩
      have hwr : IntKind.i64.wrap r = r := wrap64 (by omega) (by omega)
      have hw1 : IntKind.i64.wrap (48 + r) = (d : Int) := by rw [wrap64 (by omega) (by omega), hd]
      have hw2 : IntKind.u8.wrap (d : Int) = (d : Int) := by
        simp [IntKind.wrap, IntKind.bits, IntKind.signed]
        omega
      have hconv := fun W => conv1 W d
      have hts : (txt [d]).size = 1 := size_txt _
      have n1 : ¬ (9223372036854775807 < 1 + s.size) := by omega
      have HM := Lib.hid (tx_more (d := d) h9 HD.out (by rw [hq, hr, hd]))
      rw [hq] at HM
      clear hd
      go_wp2_with fail
      go_roundw
      case rel => exact ⟨q, _, by rw [hq], rfl, hqb.1, by omega, HM.out, HB.out.alloc hsz _⟩
      case measure =>
        simp [intOf]
        omega
    · go_wp2_with fail
      go_ret
      have hres : itoaS v = s := by
        have := HD.out
        rw [show ahd u.toNat = [] by unfold ahd; rw [if_pos (by omega)], List.nil_append] at this
        unfold itoaS Lib.itoa
        rw [if_neg (by omega), this]
      exact ⟨by rw [hres]; rfl, HB.out⟩

set_option maxHeartbeats 1000000 in
theorem reftext1 (v : Int) (h0 : -4611686018427387904 ≤ v) (hv : v ≤ 9223372036854775807) (w : World) :
    Calls Tryd.prog 38 #[.int .i64 v] w fun e w' => e = .returned (.string (itoaS v)) ∧ Below w.heap.size w w' := by
  by_cases hn : v < 0
  · have hwn : IntKind.i64.wrap (-v) = -v := wrap64 (by omega) (by omega)
    have HP := Lib.hid (reftext_pos (-v) (by omega) (by omega) w)
    have hss := itoa_size (-v) (by omega) (by omega)
    have hres : itoaS v = ⟨#[45]⟩ ++ itoaS (-v) := by
      unfold itoaS Lib.itoa
      rw [if_pos hn, if_neg (by omega), show (-v).toNat = v.natAbs by omega]
      apply ByteArray.ext
      rw [ByteArray.data_append]
      simp
    rw [hres]
    generalize itoaS (-v) = s at HP hss ⊢
    have n1 : ¬ (9223372036854775807 < 1 + s.size) := by omega
    clear hres
    go_enter Tryd.func38, Tryd.ntmps38
    go_wp2_with fail
    refine HP.out.mono ?_
    rintro e w2 ⟨rfl, hb2⟩
    have HB := Lib.hid hb2
    clear hb2
    go_wp2_with fail
    go_ret
    exact ⟨rfl, HB.out⟩
  · exact reftext_pos v (by omega) hv w
end Go.Proofs.YtmbmgmelnejceaaDoor
