/-
  Texts of earlier layers, as one.
-/
import Derived.Test.YtkejjdoaljoooaaGreatDoorRNum
import Derived.Test.YtkejjdoaljoooaaGreatDoorRCrc
/- slices.Concat of any parts of bytes: their bytes, one behind the other, in memory of the call's own. -/
namespace Go.Proofs.YtkejjdoaljoooaaGreatDoor.Lg
open Lib (hid)
open Go.RowKit Mem
def OwnB (bs : List Nat) (w : World) (e : Ending) (w' : World) : Prop :=
 ∃ V c, e = .returned (.slice V bs.length c) ∧ w'.ownsRow w.heap.size 5 1 (.slice V bs.length c) bs.length (cs bs) ∧ Below w.heap.size w w'
theorem grow_any (t : Nat) (w : World) (ht : t ≤ 70368744177664) : Calls Tryz.prog 131 #[.slice none 0 0, .int .i64 (t : Int)] w (OwnB [] w) := by
 by_cases h0 : t = 0
 · subst h0
   exact (Any8.slices_Grow_room Tryz.growA none 0 0 0 w (Nat.le_refl _) (by decide) (by decide) (Nat.le_refl _)).mono fun e w' ⟨he, hw⟩ => by
    subst hw;exact ⟨none, 0, he, ⟨rfl, .inl ⟨rfl, rfl⟩⟩, Below.refl _ _⟩
 · obtain ⟨i0, hi, hz0, hz1, hz2⟩ := info_parts Cp.info5
   have hG := grownCap_le_maxLen w (0 + t) 0 5 (by unfold maxLen; omega);have h := Any8.slices_Grow_grow Tryz.growA i0 _ hi hz0 (by omega) none 0 0 t [] w (Nat.le_refl _) (by omega) (by rw [hz2]; omega) (by omega) (by simp) (fun _ => rfl) (fun a e => by cases e);refine h.mono fun e w' ⟨he, hw⟩ => ?_;subst hw;refine ⟨_, _, he, ⟨rfl, .inr ⟨w.heap.size, _, _, rfl, Nat.le_refl _, heap_alloc_new _ _, Nat.zero_le _, hG, ?_, by simp [cs]⟩⟩, ?_⟩
   · have := grownCap_ge w (0 + t) 0 5
     show (#[] ++ Builtin.zeroCells _ (0 + t - 0) ++ Builtin.zeroCells _ (grownCap w (0 + t) 0 5 - (0 + t))).size = grownCap w (0 + t) 0 5 * 1;generalize grownCap w (0 + t) 0 5 = G at this ⊢;simp only [Array.size_append, List.size_toArray, List.length_nil, Builtin.zeroCells, Array.size_map, Array.size_range];simp only [Value.cells, List.size_toArray, List.length_cons, List.length_nil];omega
   · exact bel_alloc (Below.refl _ _).drew _
def SizeRel (w : World) (n : Nat) (ps : List Cr.Part) (i s : Value) (wr : World) : Prop :=
 ∃ k : Nat, k ≤ n ∧ i = .int .i64 k ∧ s = .int .i64 (((Cr.bytes (ps.take k)).length : Nat) : Int) ∧ wr = w
def CatRel (w : World) (n : Nat) (ps : List Cr.Part) (i s : Value) (wr : World) : Prop :=
 ∃ k : Nat, k ≤ n ∧ i = .int .i64 k ∧ ∃ V c, s = .slice V (Cr.bytes (ps.take k)).length c ∧ wr.ownsRow w.heap.size 5 1 (.slice V (Cr.bytes (ps.take k)).length c) (Cr.bytes (ps.take k)).length (cs (Cr.bytes (ps.take k))) ∧ Below w.heap.size w wr
theorem bytes_next {ps : List Cr.Part} {k : Nat} {p : Cr.Part} (hp : ps[k]? = some p) : Cr.bytes (ps.take (k + 1)) = Cr.bytes (ps.take k) ++ p.bs := by
 rw [List.take_add_one, hp, Cr.bytes_append];simp [Cr.bytes]
theorem bytes_take_le (ps : List Cr.Part) (k : Nat) : (Cr.bytes (ps.take k)).length ≤ (Cr.bytes ps).length := by
 have h := Cr.bytes_append (ps.take k) (ps.drop k);rw [List.take_append_drop] at h;rw [h, List.length_append];omega
set_option maxRecDepth 20000 in
set_option maxHeartbeats 2000000 in
theorem concat_any (A : Option Addr) (n c : Nat) (ps : List Cr.Part) (w : World) (hm : Cr.Mat w A n c ps) (hl : (Cr.bytes ps).length ≤ 70368744177664) :
 Calls Tryz.prog 80 #[.slice A n c] w (OwnB (Cr.bytes ps) w) := by
 obtain ⟨i0, hi, hz0, hz1, hz2⟩ := info_parts Cp.info5;have lx := hm.row.len;rw [List.length_map] at lx;have bx := hm.row.le;have cx := hm.row.cap;unfold maxLen at cx;have LX := hid lx;have HM := hid hm;have HL := hid hl;clear lx hm hl;go_enter Tryz.func80, Tryz.ntmps80
 go_wp2
 go_loopw [11, 3] (SizeRel w n ps) (fun i _ _ => n - (intOf i).toNat)
 case atStart => exact ⟨0, Nat.zero_le _, rfl, rfl, rfl⟩
 case round =>
  obtain ⟨k, hk, rfl, rfl, rfl⟩ := hrel;by_cases hlt : k < n
  · obtain ⟨ad, u, rfl, _, hx, hc⟩ := HM.out.row.at_ hlt
    rw [List.getElem?_map, Option.map_eq_some_iff] at hx;obtain ⟨p, hp, rfl⟩ := hx;have hpl := (HM.out.part p (List.mem_of_getElem? hp)).1.len;rw [length_cs] at hpl;have hn : (Cr.bytes (ps.take (k + 1))).length = (Cr.bytes (ps.take k)).length + p.n := (by rw [bytes_next hp, List.length_append, hpl]);have hle := bytes_take_le ps (k + 1);have HN := hid hn;have hb1 : (Cr.bytes (ps.take k)).length + p.n ≤ 70368744177664 := (by have := HL.out; omega);clear hn hle hpl;unfold Cr.pv at hc;generalize (Cr.bytes (ps.take k)).length = B at hb1 HN ⊢;have b1 : decide (((B : Int) + (p.n : Int)) < 0) = false := decide_eq_false (by omega)
    go_wp2
    exact ⟨⟨k + 1, by omega, by simp, by rw [HN.out]; simp, rfl⟩, by simp [intOf]; omega⟩
  · obtain rfl : k = n := by omega
    rename World => w0
    have hg := grow_any (Cr.bytes ps).length w0 HL.out;have et : ps.take k = ps := List.take_of_length_le (by have := LX.out; omega);rw [et];have HG := hid hg;clear hg;go_wp2_with fail
    refine HG.out.mono ?_;rintro e w1 ⟨V1, c1, rfl, hown1, hb1⟩;have HO := hid hown1;have HB := hid hb1;clear hown1 hb1;go_wp2_with fail
    go_loopw [27, 6] (CatRel w0 k ps) (fun i _ _ => k - (intOf i).toNat)
    case atStart => exact ⟨0, Nat.zero_le _, rfl, V1, c1, rfl, HO.out, HB.out⟩
    case round =>
     obtain ⟨j, hj, rfl, V, cv, rfl, hown, hbel⟩ := hrel;by_cases hlt : j < k
     · obtain ⟨ad, u, rfl, had, hx, hc⟩ := HM.out.row.at_ hlt
       rw [List.getElem?_map, Option.map_eq_some_iff] at hx;obtain ⟨p, hp, rfl⟩ := hx;have hpr := (HM.out.part p (List.mem_of_getElem? hp)).1.below hbel;have hc2 := (hbel.cell (p := ad.add j) (by rw [add_block]; exact had)).trans hc;have hpl := hpr.len;rw [length_cs] at hpl;have hn := bytes_next hp;have hle := bytes_take_le ps (j + 1);rw [hn, List.length_append, hpl] at hle;have hb2 : (Cr.bytes (ps.take j)).length + p.n ≤ 70368744177664 := (by have := HL.out; omega);have HN := hid hn;have HPL := hid hpl;clear hn hle hpl hc;unfold Cr.pv at hc2;generalize Cr.bytes (ps.take j) = B at hb2 HN hown ⊢;obtain ⟨b, hB⟩ : ∃ b, B.length = b := ⟨_, rfl⟩
       rw [hB] at hown hb2;have HO2 := hid hown;have HB2 := hid hbel;have HR := hid hpr;have HBL := hid hB;rw [HBL.out];clear hown hbel hpr hB;go_wp2_with (at_builtin; refine wpList_append_rd rfl (.tmp 31) (.tmp 32) 71 rfl w0.heap.size 5 i0 _ 1 Tryz.underlying71 hi hz0 hz1 hz2 rfl V b cv (cs B) rfl HO2.out p.A p.n p.c (cs p.bs) rfl HR.out (cs_one _) (by unfold maxLen; omega) (by omega) HB2.out.size ?_; intro V4 c4 w4 hown4 hb4)
       refine ⟨⟨j + 1, by omega, by simp, V4, c4, ?_, ?_, HB2.out.trans hb4⟩, by simp [intOf]; omega⟩
       · rw [HN.out, List.length_append, HBL.out, HPL.out]
       · rw [HN.out, List.length_append, HBL.out, HPL.out, cs_append]
         exact hown4
     · obtain rfl : j = k := by omega
       have et : ps.take j = ps := List.take_of_length_le (by have := LX.out; omega);rw [et] at hown ⊢;have HO2 := hid hown;have HB2 := hid hbel;clear hown hbel;go_wp2_with fail
       go_ret;exact ⟨_, _, rfl, HO2.out, HB2.out⟩
end Go.Proofs.YtkejjdoaljoooaaGreatDoor.Lg
