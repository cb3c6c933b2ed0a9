/-
  Texts of earlier layers, as one.
-/
import Derived.Test.YtcnjjabjdepjgaaDskMovesWalk
import Derived.Test.YtcnjjabjdepjgaaRNum
import Derived.Test.YtcnjjabjdepjgaaRBase
import Derived.Deep.Cut
/- The law of a file that was cut. -/
namespace Go.Proofs.Ytcnjjabjdepjgaa.Dsk
open Go.RowKit Mem Cod

theorem cut_row {w' : World} {S : Nat → Prop} {V : Option Addr} {n c : Nat} {xs : List Value} {B : Nat} (h : w'.ownsRow B 5 1 (.slice V n c) n xs) (hS : ∀ k, S k → k < B) : FRd V n c xs w' S := by
  refine ⟨Rd.own h, fun h0 ad e hs => ?_⟩
  rcases h.2 with ⟨_, h1⟩ | ⟨g, cap, cur, ev, hg, _⟩
  · omega
  · injection ev with ev _ _
    rw [ev] at e
    injection e with e
    subst e
    have : g < B := hS g hs
    omega
theorem cuts_bad {a b : List Nat} {n : Int} (h : n < 0 ∨ ((a ++ b).length : Int) < n) : whole (doCut nx n) ⟨[⟨nx, a, b⟩], 1000, -1, false⟩ = (6, ⟨[⟨nx, a, b⟩], 1000, -1, false⟩) := by rw [cuts_cut, if_pos h]
theorem cuts_good {a b : List Nat} {k : Nat} (h : k ≤ a.length + b.length) : whole (doCut nx (k : Int)) ⟨[⟨nx, a, b⟩], 1000, -1, false⟩ = (0, ⟨[⟨nx, (a ++ b).take k, []⟩], 1000, -1, false⟩) := by
  rw [cuts_cut, if_neg (by rw [List.length_append]; omega), Int.toNat_natCast]
set_option maxRecDepth 20000 in
set_option maxHeartbeats 8000000 in
theorem disk_cuts {I : Held} (hH : Has I) (A B : Option Addr) (n c m c' : Nat) (a b : List Nat) (z keep : Int) (w : World) (hx : Rd w A n c (cs a)) (hy : Rd w B m c' (cs b)) :
    Calls Try.prog 7 #[.slice A n c, .slice B m c', .int .i64 z, .int .i64 keep] w (Tells true w) := by
  obtain ⟨i0, hi, hz0, hz1, hz2⟩ := info_parts info5
  have hFr : Frame (fun v S => FNew w v S ∧ (FRd A n c (cs a) v S ∧ FRd B m c' (cs b) v S)) := (frame_new w).and ((frame_rd A n c (cs a)).and (frame_rd B m c' (cs b)))
  have hla := hx.len
  have hlb := hy.len
  rw [length_cs] at hla hlb
  have HX := Lib.hid hx
  have HY := Lib.hid hy
  have HW := Lib.hid (fun (u : World) => disk_awake hH u)
  clear hx hy
  go_enter Try.func7, Try.ntmps7
  by_cases h1 : 100 < n
  · have b1 : decide ((100 : Int) < (n : Int)) = true := decide_eq_true (by omega)
    go_wp2_with fail
    refine (HW.out w).mono ?_
    rintro e w1 ⟨rfl, hb⟩
    have HB := Lib.hid hb
    clear hb
    go_wp2_with fail
    go_ret
    exact ⟨rfl, HB.out⟩
  have b1 : decide ((100 : Int) < (n : Int)) = false := decide_eq_false (by omega)
  by_cases h2 : 100 < m
  · have b2 : decide ((100 : Int) < (m : Int)) = true := decide_eq_true (by omega)
    go_wp2_with fail
    refine (HW.out w).mono ?_
    rintro e w1 ⟨rfl, hb⟩
    have HB := Lib.hid hb
    clear hb
    go_wp2_with fail
    go_ret
    exact ⟨rfl, HB.out⟩
  have b2 : decide ((100 : Int) < (m : Int)) = false := decide_eq_false (by omega)
  have HN := Lib.hid (hH.new 1000 w)
  go_wp2_with fail
  refine HN.out.mono ?_
  rintro e w0 ⟨p, S, rfl, hI, hl, hb⟩
  have hm0 : Mine I (fun v S => FNew w v S ∧ (FRd A n c (cs a) v S ∧ FRd B m c' (cs b) v S)) w0 p (newDk 1000) := ⟨S, hI, ⟨hl, hb⟩, frd_arg HX.out hl hb, frd_arg HY.out hl hb⟩
  clear hI hl hb HN
  obtain ⟨S0, hI0, hF0⟩ := hm0
  have ha := hH.append p S0 _ nx A n c a w0 hI0 (fine_new (by decide)) hF0.2.1.1 hF0.2.1.2 (by decide) (by omega)
  rw [first_append name_x (by omega)] at ha
  have HA0 := Lib.hid ha
  have HF0 := Lib.hid hF0
  clear hI0 hF0 ha
  go_wp2_with fail
  refine HA0.out.mono ?_
  rintro e w1 ⟨rfl, hs⟩
  have hm1 := hs.mine hFr HF0.out
  clear hs HA0 HF0
  obtain ⟨S1, hI1, hF1⟩ := hm1
  have ha := hH.sync p S1 _ nx w1 hI1 (fine_one (by simp only [List.length_nil]; omega) (by omega) (by decide)) (by decide)
  rw [first_sync, List.nil_append] at ha
  have HA1 := Lib.hid ha
  have HF1 := Lib.hid hF1
  clear hI1 hF1 ha
  go_wp2_with fail
  refine HA1.out.mono ?_
  rintro e w2 ⟨rfl, hs⟩
  have hm2 := hs.mine hFr HF1.out
  clear hs HA1 HF1
  obtain ⟨S2, hI2, hF2⟩ := hm2
  have ha := hH.append p S2 _ nx B m c' b w2 hI2 (fine_one (by simp only [List.length_nil]; omega) (by omega) (by decide)) hF2.2.2.1 hF2.2.2.2 (by decide) (by omega)
  rw [more_append name_x (by decide) (by simp only [List.length_nil]; omega), if_neg (by decide), List.nil_append] at ha
  have HA2 := Lib.hid ha
  have HF2 := Lib.hid hF2
  clear hI2 hF2 ha
  go_wp2_with fail
  refine HA2.out.mono ?_
  rintro e w3 ⟨rfl, hs⟩
  have hm3 := hs.mine hFr HF2.out
  clear hs HA2 HF2
  obtain ⟨S3, hI3, hF3⟩ := hm3
  have hlow := hH.low hI3
  have HRA := Lib.hid (hF3.2.1.1.alloc (.cells #[] 5))
  have HRB := Lib.hid hF3.2.2.1
  have HI3 := Lib.hid hI3
  have HF3 := Lib.hid hF3
  have HLOW := Lib.hid hlow
  clear hI3 hF3 hlow
  go_wp2_with (first
    | (at_builtin; refine wpList_append_rd rfl (.tmp 39) (.tmp 40) 29 rfl w3.heap.size 5 i0 _ 1 Try.underlying29 hi hz0 hz1 hz2 rfl (some ⟨w3.heap.size, 0, none⟩) 0 0 [] rfl ⟨rfl, .inr ⟨w3.heap.size, 0, #[], rfl, Nat.le_refl _, heap_alloc_new w3 _, Nat.le_refl _, by unfold maxLen; omega, rfl, rfl⟩⟩ A n c (cs a) rfl HRA.out (cs_one _) (by unfold maxLen; omega) (by omega) (by rw [size_alloc]; omega) ?_; intro V4 c4 w4 hown4 hb4; simp only [Nat.zero_add, List.nil_append] at hown4; have hb34 : Below w3.heap.size w3 w4 := (bel_alloc (Below.refl _ _) _).trans hb4)
    | (at_builtin; refine wpList_append_rd rfl (.tmp 41) (.tmp 42) 29 rfl w3.heap.size 5 i0 _ 1 Try.underlying29 hi hz0 hz1 hz2 rfl V4 n c4 (cs a) rfl hown4 B m c' (cs b) rfl (HRB.out.below hb34) (cs_one _) (by unfold maxLen; omega) (by omega) hb34.size ?_; intro V5 c5 w5 hown5 hb5))
  rw [← cs_append] at hown5
  have hb35 := hb34.trans hb5
  have hfr5 := cut_row (S := S3) hown5 HLOW.out
  have hF5 := hFr.go HF3.out (Keeps.ofBelow (S := S3) hb35) (Grew.refl S3 w3)
  have hI5 := hH.keep HI3.out (T := fun _ => False) (Keeps.ofBelow hb35) (fun _ _ h => h)
  have hFr2 : Frame (fun v S => (FNew w v S ∧ (FRd A n c (cs a) v S ∧ FRd B m c' (cs b) v S)) ∧ FRd V5 (n + m) c5 (cs (a ++ b)) v S) := hFr.and (frame_rd V5 (n + m) c5 (cs (a ++ b)))
  have hlim := And.intro hfr5.1.le hfr5.1.cap
  unfold maxLen at hlim
  have hm5 : Mine I (fun v S => (FNew w v S ∧ (FRd A n c (cs a) v S ∧ FRd B m c' (cs b) v S)) ∧ FRd V5 (n + m) c5 (cs (a ++ b)) v S) w5 p _ := ⟨S3, hI5, ⟨hF5, hfr5⟩⟩
  clear hb4 hb34 hown4 hb5 hown5 hb35 hfr5 hF5 hI5 HI3 HF3 HRA HRB HLOW
  have hlab : (a ++ b).length = n + m := by rw [List.length_append, hla, hlb]
  by_cases hz : z < 0 ∨ ((n + m : Nat) : Int) < z
  · by_cases hneg : z < 0
    · have b4 : decide (z < 0) = true := decide_eq_true hneg
      obtain ⟨S5, hI5, hF5⟩ := hm5
      have ha := hH.cut p S5 _ nx z w5 hI5 (fine_one (by omega) (by omega) (by decide)) (by decide)
      rw [cuts_bad (by rw [hlab]; exact hz)] at ha
      have HA5 := Lib.hid ha
      have HF5 := Lib.hid hF5
      clear hI5 hF5 ha
      go_wp2_with fail
      refine HA5.out.mono ?_
      rintro e w6 ⟨rfl, hs⟩
      have hm6 := hs.mine hFr2 HF5.out
      clear hs HA5 HF5
      obtain ⟨S6, hI6, hF6⟩ := hm6
      have ha := hH.used p S6 _  w6 hI6 (fine_one (by omega) (by omega) (by decide))
      simp only [Bool.false_eq_true, if_false, used_one, hla, hlb] at ha
      have HA6 := Lib.hid ha
      have HF6 := Lib.hid hF6
      clear hI6 hF6 ha
      go_wp2_with fail
      refine HA6.out.mono ?_
      rintro e w7 ⟨rfl, hs⟩
      have hm7 := hs.mine hFr2 HF6.out
      clear hs HA6 HF6
      obtain ⟨S7, hI7, hF7⟩ := hm7
      have HF7 := Lib.hid hF7
      clear hI7 hF7
      go_wp2_with fail
      refine (HW.out w7).mono ?_
      rintro e w99 ⟨rfl, hb9⟩
      have HB9 := Lib.hid (HF7.out.1.1.2.trans (hb9.mono HF7.out.1.1.2.size))
      clear hb9
      go_wp2_with fail
      go_ret
      exact ⟨rfl, HB9.out⟩
    · have b4 : decide (z < 0) = false := decide_eq_false hneg
      have b5 : decide (((n + m : Nat) : Int) < z) = true := decide_eq_true (hz.resolve_left hneg)
      rw [Int.natCast_add] at b5
      obtain ⟨S5, hI5, hF5⟩ := hm5
      have ha := hH.cut p S5 _ nx z w5 hI5 (fine_one (by omega) (by omega) (by decide)) (by decide)
      rw [cuts_bad (by rw [hlab]; exact hz)] at ha
      have HA5 := Lib.hid ha
      have HF5 := Lib.hid hF5
      clear hI5 hF5 ha
      go_wp2_with fail
      refine HA5.out.mono ?_
      rintro e w6 ⟨rfl, hs⟩
      have hm6 := hs.mine hFr2 HF5.out
      clear hs HA5 HF5
      obtain ⟨S6, hI6, hF6⟩ := hm6
      have ha := hH.used p S6 _  w6 hI6 (fine_one (by omega) (by omega) (by decide))
      simp only [Bool.false_eq_true, if_false, used_one, hla, hlb] at ha
      have HA6 := Lib.hid ha
      have HF6 := Lib.hid hF6
      clear hI6 hF6 ha
      go_wp2_with fail
      refine HA6.out.mono ?_
      rintro e w7 ⟨rfl, hs⟩
      have hm7 := hs.mine hFr2 HF6.out
      clear hs HA6 HF6
      obtain ⟨S7, hI7, hF7⟩ := hm7
      have HF7 := Lib.hid hF7
      clear hI7 hF7
      go_wp2_with fail
      refine (HW.out w7).mono ?_
      rintro e w99 ⟨rfl, hb9⟩
      have HB9 := Lib.hid (HF7.out.1.1.2.trans (hb9.mono HF7.out.1.1.2.size))
      clear hb9
      go_wp2_with fail
      go_ret
      exact ⟨rfl, HB9.out⟩
  · obtain ⟨k, rfl⟩ : ∃ k : Nat, z = (k : Int) := ⟨z.toNat, by omega⟩
    have hkn : k ≤ n + m := by omega
    have b4 : decide ((k : Int) < 0) = false := decide_eq_false (by omega)
    have b5 : decide (((n + m : Nat) : Int) < (k : Int)) = false := decide_eq_false (by omega)
    have hslc : ∀ w : World, (Instr.slice 29 (.slice V5 (n + m) c5) none (some (.int .i64 (k : Int))) none).run Try.prog w = .ok (.slice V5 k c5) w := fun w => by
      have hsz : ∀ w, (sizeOf (Try.prog.elem 29)).run Try.prog w = .ok 1 w := fun w => by kernel_rfl
      have hm : (V5.map fun a => a.add (0 * 1)) = V5 := by cases V5 <;> simp [Addr.add]
      rw [run_slice_h w 29 V5 _ c5 Try.underlying29 .i64 (k : Int) (by omega) (by omega), hsz]
      simp only [Result.andThen, sliced, hm, ite_self, Int.toNat_natCast, Nat.sub_zero]
    rw [Int.natCast_add] at b5
    obtain ⟨S5, hI5, hF5⟩ := hm5
    have ha := hH.cut p S5 _ nx (k : Int) w5 hI5 (fine_one (by omega) (by omega) (by decide)) (by decide)
    rw [cuts_good (by rw [hla, hlb]; omega)] at ha
    have HA5 := Lib.hid ha
    have HF5 := Lib.hid hF5
    clear hI5 hF5 ha
    go_wp2_with fail
    refine HA5.out.mono ?_
    rintro e w6 ⟨rfl, hs⟩
    have hm6 := hs.mine hFr2 HF5.out
    clear hs HA5 HF5
    obtain ⟨S6, hI6, hF6, hn6⟩ := Mine.lit hm6 hH hFr2 (.cells #[.int .i64 keep] 3)
    have ha := hH.boot p S6 _ (some ⟨w6.heap.size, 0, none⟩) 1 1 [keep] _ hI6 (fine_one (by simp only [List.length_nil, List.length_take]; omega) (by omega) (by decide)) (Rd.lit w6 (vs [keep]) 3 1 rfl (by unfold maxLen; decide)) (outs_lit hn6)
    rw [boot_one] at ha
    have HA6 := Lib.hid ha
    have HF6 := Lib.hid hF6
    clear hI6 hF6 hn6 hm6 ha
    go_wp2_with fail
    refine HA6.out.mono ?_
    rintro e w7 ⟨rfl, hs⟩
    have hm7 := hs.mine hFr2 HF6.out
    clear hs HA6 HF6
    obtain ⟨S7, hI7, hF7⟩ := hm7
    have ha := hH.read p S7 _ nx w7 hI7 (fine_one (by simp only [List.length_nil, List.length_take]; omega) (by omega) (by decide)) (by decide)
    rw [read_one, List.append_nil] at ha
    have HA7 := Lib.hid ha
    have HF7 := Lib.hid hF7
    clear hI7 hF7 ha
    go_wp2_with fail
    refine HA7.out.mono ?_
    rintro e w8 ⟨PA, pn, pc, rfl, ho, S', hI, hg, hk, hou⟩
    have hsm := same_any PA V5 pn k pc c5 ((a ++ b).take k) ((a ++ b).take k) w8 (Rd.own ho) (by have h := (hFr2.go HF7.out hk hg).2.1.take (k := k) (by omega); rwa [cs_take] at h)
    rw [decide_eq_true rfl] at hsm
    have HSM := Lib.hid hsm
    have HM := Lib.hid (show Mine I (fun v S => (FNew w v S ∧ (FRd A n c (cs a) v S ∧ FRd B m c' (cs b) v S)) ∧ FRd V5 (n + m) c5 (cs (a ++ b)) v S) w8 p _ from ⟨S', hI, hFr2.go HF7.out hk hg⟩)
    clear ho hI hg hk hou HA7 HF7 hsm
    go_wp2_with fail
    refine HSM.out.mono ?_
    rintro e w9 ⟨rfl, q9, hq9⟩
    have hb9 : Below w8.heap.size w8 w9 := by rw [hq9]; exact below_drewN (Below.refl _ _) q9
    have hm9 := HM.out.bel hH hFr2 hb9
    clear hq9 hb9 HSM HM
    obtain ⟨S9, hI9, hF9⟩ := hm9
    have ha := hH.used p S9 _  w9 hI9 (fine_one (by simp only [List.length_nil, List.length_take]; omega) (by omega) (by decide))
    simp only [Bool.false_eq_true, if_false, used_one, List.length_nil, Nat.add_zero, List.length_take, hlab, Nat.min_eq_left hkn] at ha
    have HA9 := Lib.hid ha
    have HF9 := Lib.hid hF9
    clear hI9 hF9 ha
    go_wp2_with fail
    refine HA9.out.mono ?_
    rintro e w10 ⟨rfl, hs⟩
    have hm10 := hs.mine hFr2 HF9.out
    clear hs HA9 HF9
    obtain ⟨S10, hI10, hF10⟩ := hm10
    have HF10 := Lib.hid hF10
    clear hI10 hF10
    go_wp2_with fail
    refine (HW.out w10).mono ?_
    rintro e w99 ⟨rfl, hb9⟩
    have HB9 := Lib.hid (HF10.out.1.1.2.trans (hb9.mono HF10.out.1.1.2.size))
    clear hb9
    go_wp2_with fail
    go_ret
    exact ⟨rfl, HB9.out⟩
end Go.Proofs.Ytcnjjabjdepjgaa.Dsk
