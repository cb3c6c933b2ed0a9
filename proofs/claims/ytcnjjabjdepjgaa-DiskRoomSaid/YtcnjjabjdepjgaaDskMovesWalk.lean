/-
  Texts of earlier layers, as one.
-/
import Derived.Test.YtcnjjabjdepjgaaDskAwake
import Derived.Test.YtcnjjabjdepjgaaRNum
import Derived.Test.YtcnjjabjdepjgaaRBase
import Derived.Deep.Cut
/- The law of a file that has moved. -/
namespace Go.Proofs.Ytcnjjabjdepjgaa.Dsk
open Go.RowKit Mem Cod

theorem frd_arg {w w1 : World} {S : Nat → Prop} {A : Option Addr} {n c : Nat} {xs : List Value} (h : Rd w A n c xs) (hl : ∀ k, S k → w.heap.size ≤ k) (hb : Below w.heap.size w w1) : FRd A n c xs w1 S := by
  refine ⟨h.below hb, fun h0 ad e hs => ?_⟩
  obtain ⟨ad', e', hlt, _⟩ := h.spot h0
  cases e.symm.trans e'
  have := hl _ hs
  omega
theorem fine_two {a b : List Nat} (ha : a.length ≤ 100) (hb : b.length ≤ 100) : Fine (twoOld a b) := by
  have hu : used (twoOld a b).fs = b.length + a.length := by simp [twoOld, used, Fl.len]
  refine ⟨⟨by show (0 : Int) ≤ 1000; decide, by rw [hu]; show _ ≤ (1000 : Int); omega, by simp [twoOld]⟩, by show (1000 : Int) ≤ _; decide, by show (_ : Int) ≤ -1; decide, by show (-1 : Int) ≤ _; decide⟩
theorem used_one (s : ByteArray) (a t : List Nat) : used [⟨s, a, t⟩] = a.length + t.length := by simp [used, Fl.len]
set_option maxRecDepth 20000 in
set_option maxHeartbeats 8000000 in
theorem disk_moves {I : Held} (hH : Has I) (A B : Option Addr) (n c m c' : Nat) (a b : List Nat) (keep : Int) (w : World) (hx : Rd w A n c (cs a)) (hy : Rd w B m c' (cs b)) :
    Calls Try.prog 5 #[.slice A n c, .slice B m c', .int .i64 keep] w (Tells true w) := by
  have hFr : Frame (fun v S => FNew w v S ∧ (FRd A n c (cs a) v S ∧ FRd B m c' (cs b) v S)) := (frame_new w).and ((frame_rd A n c (cs a)).and (frame_rd B m c' (cs b)))
  have hla := hx.len
  have hlb := hy.len
  rw [length_cs] at hla hlb
  have HX := Lib.hid hx
  have HY := Lib.hid hy
  have HW := Lib.hid (fun (u : World) => disk_awake hH u)
  clear hx hy
  go_enter Try.func5, Try.ntmps5
  by_cases h1 : 100 < n
  · have b1 : decide ((100 : Int) < (n : Int)) = true := decide_eq_true (by omega)
    go_wp2_with fail
    refine (HW.out w).mono ?_
    rintro e w1 ⟨rfl, hb⟩
    have HB := Lib.hid hb
    clear hb
    go_wp2_with fail
    go_ret
    exact ⟨rfl, HB.out⟩
  have b1 : decide ((100 : Int) < (n : Int)) = false := decide_eq_false (by omega)
  by_cases h2 : 100 < m
  · have b2 : decide ((100 : Int) < (m : Int)) = true := decide_eq_true (by omega)
    go_wp2_with fail
    refine (HW.out w).mono ?_
    rintro e w1 ⟨rfl, hb⟩
    have HB := Lib.hid hb
    clear hb
    go_wp2_with fail
    go_ret
    exact ⟨rfl, HB.out⟩
  have b2 : decide ((100 : Int) < (m : Int)) = false := decide_eq_false (by omega)
  have HN := Lib.hid (hH.new 1000 w)
  go_wp2_with fail
  refine HN.out.mono ?_
  rintro e w0 ⟨p, S, rfl, hI, hl, hb⟩
  have hm0 : Mine I (fun v S => FNew w v S ∧ (FRd A n c (cs a) v S ∧ FRd B m c' (cs b) v S)) w0 p (newDk 1000) := ⟨S, hI, ⟨hl, hb⟩, frd_arg HX.out hl hb, frd_arg HY.out hl hb⟩
  clear hI hl hb HN
  obtain ⟨S0, hI0, hF0⟩ := hm0
  have ha := hH.append p S0 _ nold A n c a w0 hI0 (fine_new (by decide)) hF0.2.1.1 hF0.2.1.2 (by decide) (by omega)
  rw [first_append name_old (by omega)] at ha
  have HA0 := Lib.hid ha
  have HF0 := Lib.hid hF0
  clear hI0 hF0 ha
  go_wp2_with fail
  refine HA0.out.mono ?_
  rintro e w1 ⟨rfl, hs⟩
  have hm1 := hs.mine hFr HF0.out
  clear hs HA0 HF0
  obtain ⟨S1, hI1, hF1⟩ := hm1
  have ha := hH.append p S1 _ nnew B m c' b w1 hI1 (fine_one (by simp only [List.length_nil]; omega) (by omega) (by decide)) hF1.2.2.1 hF1.2.2.2 (by decide) (by omega)
  rw [moves_two (by omega) (by omega)] at ha
  have HA1 := Lib.hid ha
  have HF1 := Lib.hid hF1
  clear hI1 hF1 ha
  go_wp2_with fail
  refine HA1.out.mono ?_
  rintro e w2 ⟨rfl, hs⟩
  have hm2 := hs.mine hFr HF1.out
  clear hs HA1 HF1
  obtain ⟨S2, hI2, hF2⟩ := hm2
  have ha := hH.move p S2 _ nnew nold w2 hI2 (fine_two (by omega) (by omega)) (by decide) (by decide)
  rw [moves_one] at ha
  have HA2 := Lib.hid ha
  have HF2 := Lib.hid hF2
  clear hI2 hF2 ha
  go_wp2_with fail
  refine HA2.out.mono ?_
  rintro e w3 ⟨rfl, hs⟩
  have hm3 := hs.mine hFr HF2.out
  clear hs HA2 HF2
  obtain ⟨S3, hI3, hF3, hn3⟩ := Mine.lit hm3 hH hFr (.cells #[.int .i64 keep] 3)
  have ha := hH.boot p S3 _ (some ⟨w3.heap.size, 0, none⟩) 1 1 [keep] _ hI3 (fine_one (by simp only [List.length_nil]; omega) (by omega) (by decide)) (Rd.lit w3 (vs [keep]) 3 1 rfl (by unfold maxLen; decide)) (outs_lit hn3)
  rw [boot_one] at ha
  have HA3 := Lib.hid ha
  have HF3 := Lib.hid hF3
  clear hI3 hF3 hn3 hm3 ha
  go_wp2_with fail
  refine HA3.out.mono ?_
  rintro e w4 ⟨rfl, hs⟩
  have hm4 := hs.mine hFr HF3.out
  clear hs HA3 HF3
  obtain ⟨S4, hI4, hF4⟩ := hm4
  have ha := hH.read p S4 _ nold w4 hI4 (fine_one (by simp only [List.length_nil]; omega) (by omega) (by decide)) (by decide)
  rw [read_one, List.append_nil] at ha
  have HA4 := Lib.hid ha
  have HF4 := Lib.hid hF4
  clear hI4 hF4 ha
  go_wp2_with fail
  refine HA4.out.mono ?_
  rintro e w5 ⟨PA, pn, pc, rfl, ho, S', hI, hg, hk, hou⟩
  have hFr2 : Frame (fun v S => (FNew w v S ∧ (FRd A n c (cs a) v S ∧ FRd B m c' (cs b) v S)) ∧ FRd PA pn pc (cs b) v S) := hFr.and (frame_rd PA pn pc (cs b))
  have hm5 : Mine I (fun v S => (FNew w v S ∧ (FRd A n c (cs a) v S ∧ FRd B m c' (cs b) v S)) ∧ FRd PA pn pc (cs b) v S) w5 p _ := ⟨S', hI, ⟨hFr.go HF4.out hk hg, Rd.own ho, hou⟩⟩
  clear ho hI hg hk hou HA4 HF4
  obtain ⟨S5, hI5, hF5⟩ := hm5
  have ha := hH.read p S5 _ nnew w5 hI5 (fine_one (by simp only [List.length_nil]; omega) (by omega) (by decide)) (by decide)
  rw [read_new] at ha
  have HA5 := Lib.hid ha
  have HF5 := Lib.hid hF5
  clear hI5 hF5 ha
  go_wp2_with fail
  refine HA5.out.mono ?_
  rintro e w6 ⟨QA, qn, qc, rfl, ho, S', hI, hg, hk, hou⟩
  have hm6 : Mine I (fun v S => (FNew w v S ∧ (FRd A n c (cs a) v S ∧ FRd B m c' (cs b) v S)) ∧ FRd PA pn pc (cs b) v S) w6 p _ := ⟨S', hI, hFr2.go HF5.out hk hg⟩
  clear ho hI hg hk hou HA5 HF5
  obtain ⟨S6, hI6, hF6⟩ := hm6
  have hsm := same_any PA B pn m pc c' b b w6 hF6.2.1 hF6.1.2.2.1
  rw [decide_eq_true rfl] at hsm
  have HSM := Lib.hid hsm
  have HI6 := Lib.hid hI6
  have HF6 := Lib.hid hF6
  clear hsm hI6 hF6
  go_wp2_with fail
  refine HSM.out.mono ?_
  rintro e w7 ⟨rfl, q7, hq7⟩
  have hb7 : Below w6.heap.size w6 w7 := by rw [hq7]; exact below_drewN (Below.refl _ _) q7
  have hm6 : Mine I (fun v S => (FNew w v S ∧ (FRd A n c (cs a) v S ∧ FRd B m c' (cs b) v S)) ∧ FRd PA pn pc (cs b) v S) w6 p _ := ⟨S6, HI6.out, HF6.out⟩
  have hm7 := hm6.bel hH hFr2 hb7
  clear hm6
  clear hq7 hb7 HSM HI6 HF6
  obtain ⟨S7, hI7, hF7⟩ := hm7
  have ha := hH.used p S7 _  w7 hI7 (fine_one (by simp only [List.length_nil]; omega) (by omega) (by decide))
  simp only [Bool.false_eq_true, if_false, used_one, List.length_nil, Nat.add_zero, hlb] at ha
  have HA7 := Lib.hid ha
  have HF7 := Lib.hid hF7
  clear hI7 hF7 ha
  go_wp2_with fail
  refine HA7.out.mono ?_
  rintro e w8 ⟨rfl, hs⟩
  have hm8 := hs.mine hFr2 HF7.out
  clear hs HA7 HF7
  obtain ⟨S8, hI8, hF8⟩ := hm8
  have HF8 := Lib.hid hF8
  clear hI8 hF8
  go_wp2_with fail
  refine (HW.out w8).mono ?_
  rintro e w9 ⟨rfl, hb9⟩
  have HB9 := Lib.hid (HF8.out.1.1.2.trans (hb9.mono HF8.out.1.1.2.size))
  clear hb9
  go_wp2_with fail
  go_ret
  exact ⟨rfl, HB9.out⟩
end Go.Proofs.Ytcnjjabjdepjgaa.Dsk
