/-
  Texts of earlier layers, as one.
-/
import Derived.Test.YtcnjjabjdepjgaaDskCutsWalk
import Derived.Test.YtcnjjabjdepjgaaRNum
import Derived.Test.YtcnjjabjdepjgaaRBase
import Derived.Deep.RegionHeld
import Derived.Deep.Cut
/- The law of what was synced. -/
namespace Go.Proofs.Ytcnjjabjdepjgaa.Dsk
open Go.RowKit Mem Cod

theorem same_append (s : ByteArray) (b : List Nat) (d : Dk) : (doAppend s b d).2.room = d.room ∧ (doAppend s b d).2.fuse = d.fuse := by
  unfold doAppend
  repeat' split
  all_goals exact ⟨rfl, rfl⟩
theorem same_sync (s : ByteArray) (d : Dk) : (doSync s d).2.room = d.room ∧ (doSync s d).2.fuse = d.fuse := by
  unfold doSync
  repeat' split
  all_goals exact ⟨rfl, rfl⟩
theorem same_cut (s : ByteArray) (n : Int) (d : Dk) : (doCut s n d).2.room = d.room ∧ (doCut s n d).2.fuse = d.fuse := by
  unfold doCut
  repeat' split
  all_goals exact ⟨rfl, rfl⟩
theorem same_move (s t : ByteArray) (d : Dk) : (doMove s t d).2.room = d.room ∧ (doMove s t d).2.fuse = d.fuse := by
  unfold doMove
  repeat' split
  all_goals exact ⟨rfl, rfl⟩
theorem same_remove (s : ByteArray) (d : Dk) : (doRemove s d).2.room = d.room ∧ (doRemove s d).2.fuse = d.fuse := by
  unfold doRemove
  repeat' split
  all_goals exact ⟨rfl, rfl⟩
theorem Fine.whole {d : Dk} {f : Dk → Nat × Dk} (h : Fine d) (hs : ∀ d, (f d).2.room = d.room ∧ (f d).2.fuse = d.fuse) (hf : Fits (Dsk.deed d) → Fits (f (Dsk.deed d)).2) : Fine (Dsk.whole f d).2 := by
  have hd := h.deed
  obtain ⟨h1, h2, h3, h4⟩ := hd
  refine ⟨fits_whole h.1 hf, ?_⟩
  unfold Dsk.whole
  split
  · exact ⟨h2, h3, h4⟩
  · rw [(hs _).1, (hs _).2]
    exact ⟨h2, h3, h4⟩
theorem Fine.append {d : Dk} (h : Fine d) (s : ByteArray) (b : List Nat) : Fine (Dsk.whole (doAppend s b) d).2 := h.whole (same_append s b) fun h => fits_append h s b
theorem Fine.sync {d : Dk} (h : Fine d) (s : ByteArray) : Fine (Dsk.whole (doSync s) d).2 := h.whole (same_sync s) fun h => fits_sync h s
theorem Fine.cut {d : Dk} (h : Fine d) (s : ByteArray) (n : Int) : Fine (Dsk.whole (doCut s n) d).2 := h.whole (same_cut s n) fun h => fits_cut h s n
theorem Fine.move {d : Dk} (h : Fine d) (s t : ByteArray) : Fine (Dsk.whole (doMove s t) d).2 := h.whole (same_move s t) fun h => fits_move h s t
theorem Fine.remove {d : Dk} (h : Fine d) (s : ByteArray) : Fine (Dsk.whole (doRemove s) d).2 := h.whole (same_remove s) fun h => fits_remove h s
theorem Fine.boot {d : Dk} (h : Fine d) (ks : List Int) : Fine (Dsk.boot ks d) := ⟨fits_boot h.1 ks, h.2.1, by show (-9223372036854775808 : Int) ≤ -1; decide, by show (-1 : Int) ≤ 9223372036854775807; decide⟩
theorem Fine.fused {d : Dk} (h : Fine d) {n : Int} (hn : n ≤ 9223372036854775807) : Fine { d with fuse := max n (-1) } := ⟨h.1, h.2.1, by show (-9223372036854775808 : Int) ≤ max n (-1); omega, by show max n (-1) ≤ (9223372036854775807 : Int); omega⟩
set_option maxRecDepth 20000 in
/-- s[k:]. -/
theorem run_low (A : Option Addr) (n c k : Nat) (hk : k ≤ n) (w : World) : (Instr.slice 29 (.slice A n c) (some (.int .i64 (k : Int))) none none).run Try.prog w = .ok (.slice (cutA A c k) (n - k) (c - k)) w := by
  have hsz : ∀ w, (sizeOf (Try.prog.elem 29)).run Try.prog w = .ok 1 w := fun w => by kernel_rfl
  rw [run_slice_l w 29 A n c Try.underlying29 .i64 (k : Int) (by omega) (by omega), hsz]
  simp [Result.andThen, sliced, cutA]
set_option maxRecDepth 20000 in
theorem run_high (A : Option Addr) (n c k : Nat) (hk : k ≤ c) (w : World) : (Instr.slice 29 (.slice A n c) none (some (.int .i64 (k : Int))) none).run Try.prog w = .ok (.slice A k c) w := by
  have hsz : ∀ w, (sizeOf (Try.prog.elem 29)).run Try.prog w = .ok 1 w := fun w => by kernel_rfl
  have hm : (A.map fun a => a.add (0 * 1)) = A := by cases A <;> simp [Addr.add]
  rw [run_slice_h w 29 A _ c Try.underlying29 .i64 (k : Int) (by omega) (by omega), hsz]
  simp only [Result.andThen, sliced, hm, ite_self, Int.toNat_natCast, Nat.sub_zero]
theorem rem3 (x : Nat) : ∃ k : Int, (x : Int).tmod 3 = k ∧ (k = 0 ∨ k = 1 ∨ k = 2) := ⟨((x % 3 : Nat) : Int), by rw [Int.tmod_eq_emod_of_nonneg (by omega)]; omega, by omega⟩
set_option maxRecDepth 20000 in
set_option maxHeartbeats 8000000 in
theorem disk_keeps {I : Held} (hH : Has I) (A B : Option Addr) (n c m c' : Nat) (a b : List Nat) (keep : Int) (x : Nat) (w : World) (hx : Rd w A n c (cs a)) (hy : Rd w B m c' (cs b)) (hx8 : x < 256) :
    Calls Try.prog 4 #[.slice A n c, .slice B m c', .int .i64 keep, .int .u8 (x : Int)] w (Tells true w) := by
  have hFr : Frame (fun v S => FNew w v S ∧ (FRd A n c (cs a) v S ∧ FRd B m c' (cs b) v S)) := (frame_new w).and ((frame_rd A n c (cs a)).and (frame_rd B m c' (cs b)))
  have hla := hx.len
  have hlb := hy.len
  rw [length_cs] at hla hlb
  have HX := Lib.hid hx
  have HY := Lib.hid hy
  have HW := Lib.hid (fun (u : World) => disk_awake hH u)
  clear hx hy
  go_enter Try.func4, Try.ntmps4
  by_cases h1 : 100 < n
  · have b1 : decide ((100 : Int) < (n : Int)) = true := decide_eq_true (by omega)
    go_wp2_with fail
    refine (HW.out w).mono ?_
    rintro e w1 ⟨rfl, hb⟩
    have HB := Lib.hid hb
    clear hb
    go_wp2_with fail
    go_ret
    exact ⟨rfl, HB.out⟩
  have b1 : decide ((100 : Int) < (n : Int)) = false := decide_eq_false (by omega)
  by_cases h2 : 100 < m
  · have b2 : decide ((100 : Int) < (m : Int)) = true := decide_eq_true (by omega)
    go_wp2_with fail
    refine (HW.out w).mono ?_
    rintro e w1 ⟨rfl, hb⟩
    have HB := Lib.hid hb
    clear hb
    go_wp2_with fail
    go_ret
    exact ⟨rfl, HB.out⟩
  have b2 : decide ((100 : Int) < (m : Int)) = false := decide_eq_false (by omega)
  have HN := Lib.hid (hH.new 1000 w)
  go_wp2_with fail
  refine HN.out.mono ?_
  rintro e w0 ⟨p, S, rfl, hI, hl, hb⟩
  have hm0 : Mine I (fun v S => FNew w v S ∧ (FRd A n c (cs a) v S ∧ FRd B m c' (cs b) v S)) w0 p (newDk 1000) := ⟨S, hI, ⟨hl, hb⟩, frd_arg HX.out hl hb, frd_arg HY.out hl hb⟩
  clear hI hl hb HN
  obtain ⟨S0, hI0, hF0⟩ := hm0
  have ha := hH.append p S0 _ nx A n c a w0 hI0 (fine_new (by decide)) hF0.2.1.1 hF0.2.1.2 (by decide) (by omega)
  rw [first_append name_x (by omega)] at ha
  have HA0 := Lib.hid ha
  have HF0 := Lib.hid hF0
  clear hI0 hF0 ha
  go_wp2_with fail
  refine HA0.out.mono ?_
  rintro e w1 ⟨rfl, hs⟩
  have hm1 := hs.mine hFr HF0.out
  clear hs HA0 HF0
  obtain ⟨S1, hI1, hF1⟩ := hm1
  have ha := hH.sync p S1 _ nx w1 hI1 (fine_one (by simp only [List.length_nil]; omega) (by omega) (by decide)) (by decide)
  rw [first_sync, List.nil_append] at ha
  have HA1 := Lib.hid ha
  have HF1 := Lib.hid hF1
  clear hI1 hF1 ha
  go_wp2_with fail
  refine HA1.out.mono ?_
  rintro e w2 ⟨rfl, hs⟩
  have hm2 := hs.mine hFr HF1.out
  clear hs HA1 HF1
  obtain ⟨kk, hkk, hk3⟩ := rem3 x
  have hwx : IntKind.i64.wrap (x : Int) = (x : Int) := wrap64 (by omega) (by omega)
  have hwk : IntKind.i64.wrap kk = kk := wrap64 (by omega) (by omega)
  obtain ⟨S2, hI2, hF2⟩ := hm2
  have ha := hH.fuse p S2 _ kk w2 hI2 (fine_one (by simp only [List.length_nil]; omega) (by omega) (by decide))
  rw [show max kk (-1) = kk by omega] at ha
  have HA2 := Lib.hid ha
  have HF2 := Lib.hid hF2
  clear hI2 hF2 ha
  go_wp2_with fail
  refine HA2.out.mono ?_
  rintro e w3 ⟨rfl, hs⟩
  have hm3 := hs.mine hFr HF2.out
  clear hs HA2 HF2
  obtain ⟨D2, hD2⟩ : ∃ D : Dk, (⟨[⟨nx, a, []⟩], 1000, kk, false⟩ : Dk) = D := ⟨_, rfl⟩
  have fi2 : Fine D2 := by rw [← hD2]; exact fine_one (by simp only [List.length_nil]; omega) (by omega) (by omega)
  rw [hD2] at hm3
  clear hkk hwx hwk
  obtain ⟨S3, hI3, hF3⟩ := hm3
  have ha := hH.append p S3 _ nx B m c' b w3 hI3 fi2 hF3.2.2.1 hF3.2.2.2 (by decide) (by omega)
  have HA3 := Lib.hid ha
  have HF3 := Lib.hid hF3
  clear hI3 hF3 ha
  go_wp2_with fail
  refine HA3.out.mono ?_
  rintro e w4 ⟨rfl, hs⟩
  have hm4 := hs.mine hFr HF3.out
  clear hs HA3 HF3
  have fi3 := fi2.append nx b
  obtain ⟨D3, hD3⟩ : ∃ D, (whole (doAppend nx b) D2).2 = D := ⟨_, rfl⟩
  rw [hD3] at fi3 hm4
  obtain ⟨S4, hI4, hF4⟩ := hm4
  have ha := hH.append p S4 _ ny B m c' b w4 hI4 fi3 hF4.2.2.1 hF4.2.2.2 (by decide) (by omega)
  have HA4 := Lib.hid ha
  have HF4 := Lib.hid hF4
  clear hI4 hF4 ha
  go_wp2_with fail
  refine HA4.out.mono ?_
  rintro e w5 ⟨rfl, hs⟩
  have hm5 := hs.mine hFr HF4.out
  clear hs HA4 HF4
  have fi4 := fi3.append ny b
  obtain ⟨D4, hD4⟩ : ∃ D, (whole (doAppend ny b) D3).2 = D := ⟨_, rfl⟩
  rw [hD4] at fi4 hm5
  obtain ⟨S5, hI5, hF5⟩ := hm5
  have ha := hH.sync p S5 _ ny w5 hI5 fi4 (by decide)
  have HA5 := Lib.hid ha
  have HF5 := Lib.hid hF5
  clear hI5 hF5 ha
  go_wp2_with fail
  refine HA5.out.mono ?_
  rintro e w6 ⟨rfl, hs⟩
  have hm6 := hs.mine hFr HF5.out
  clear hs HA5 HF5
  have fi5 := fi4.sync ny
  obtain ⟨D5, hD5⟩ : ∃ D, (whole (doSync ny) D4).2 = D := ⟨_, rfl⟩
  rw [hD5] at fi5 hm6
  obtain ⟨S6, hI6, hF6, hn6⟩ := Mine.lit hm6 hH hFr (.cells #[.int .i64 keep, .int .i64 keep] 3)
  have ha := hH.boot p S6 _ (some ⟨w6.heap.size, 0, none⟩) 2 2 [keep, keep] _ hI6 fi5 (Rd.lit w6 (vs [keep, keep]) 3 2 rfl (by unfold maxLen; decide)) (outs_lit hn6)
  have HA6 := Lib.hid ha
  have HF6 := Lib.hid hF6
  clear hI6 hF6 hn6 hm6 ha
  go_wp2_with fail
  refine HA6.out.mono ?_
  rintro e w7 ⟨rfl, hs⟩
  have hm7 := hs.mine hFr HF6.out
  clear hs HA6 HF6
  have fi6 := fi5.boot [keep, keep]
  have hend : boot [keep, keep] D5 = keepsEnd a b keep kk := by rw [← hD5, ← hD4, ← hD3, ← hD2]; rfl
  obtain ⟨hdn, j, hrd⟩ := keeps_end (a := a) (b := b) (by omega) (by omega) keep hk3
  rw [← hend] at hdn hrd
  obtain ⟨D6, hD6⟩ : ∃ D, boot [keep, keep] D5 = D := ⟨_, rfl⟩
  rw [hD6] at fi6 hm7 hdn hrd
  clear hD2 hD3 hD4 hD5 hD6 hend fi2 fi3 fi4 fi5
  obtain ⟨S7, hI7, hF7⟩ := hm7
  have ha := hH.read p S7 _ nx w7 hI7 fi6 (by decide)
  rw [hrd] at ha
  have HA7 := Lib.hid ha
  have HF7 := Lib.hid hF7
  clear hI7 hF7 ha
  go_wp2_with fail
  refine HA7.out.mono ?_
  rintro e w8 ⟨PA, pn, pc, rfl, ho, S', hI, hg, hk, hou⟩
  have hpn : pn = n + (b.take j).length := by have h := ho.1; rw [length_cs, List.length_append, hla] at h; omega
  have hjl : (b.take j).length ≤ m := by rw [List.length_take, hlb]; omega
  have hbj : b.take (b.take j).length = b.take j := by rw [List.length_take, ← List.take_take, List.take_of_length_le (Nat.le_refl b.length)]
  have hrow := Rd.own ho
  have hlim := And.intro hrow.le hrow.cap
  unfold maxLen at hlim
  have hF8 := hFr.go HF7.out hk hg
  have hFr2 : Frame (fun v S => (FNew w v S ∧ (FRd A n c (cs a) v S ∧ FRd B m c' (cs b) v S)) ∧ FRd PA pn pc (cs (a ++ b.take j)) v S) := hFr.and (frame_rd PA pn pc (cs (a ++ b.take j)))
  have hm8 : Mine I (fun v S => (FNew w v S ∧ (FRd A n c (cs a) v S ∧ FRd B m c' (cs b) v S)) ∧ FRd PA pn pc (cs (a ++ b.take j)) v S) w8 p _ := ⟨S', hI, ⟨hF8, hrow, hou⟩⟩
  have b4 : decide ((pn : Int) < (n : Int)) = false := decide_eq_false (by omega)
  have b6 : n ≤ pn := by omega
  have b7 : pn ≤ n + m := by omega
  have hwn : IntKind.i64.wrap ((n : Int) + (m : Int)) = (n : Int) + (m : Int) := wrap64 (by omega) (by omega)
  have b5 : decide ((n : Int) + (m : Int) < (pn : Int)) = false := decide_eq_false (by omega)
  have HPN := Lib.hid hpn
  have HJL := Lib.hid hjl
  have HBJ := Lib.hid hbj
  clear ho hI hg hk hou HA7 HF7 hF8 hrow hpn hjl hbj
  obtain ⟨S8, hI8, hF8⟩ := hm8
  have ha := hH.down p S8 _ w8 hI8
  rw [hdn] at ha
  have HA8 := Lib.hid ha
  have HF8 := Lib.hid hF8
  clear hI8 hF8 ha
  go_wp2_with fail
  refine HA8.out.mono ?_
  rintro e w9 ⟨rfl, hs⟩
  obtain ⟨S9, hI9, hF9⟩ := hs.mine hFr2 HF8.out
  have hpn := HPN.out
  have hjl := HJL.out
  have hbj := HBJ.out
  obtain ⟨q, hq⟩ : ∃ q, (b.take j).length = q := ⟨_, rfl⟩
  rw [hq] at hpn hjl hbj
  have hdrop : (a ++ b.take j).drop n = b.take j := by rw [← hla, List.drop_left]
  have htake : (a ++ b.take j).take n = a := by rw [← hla, List.take_left]
  have hra : ∀ u, Below w9.heap.size w9 u → Rd u PA n pc (cs a) := fun u hu => by
    have h := (hF9.2.1.below hu).take (k := n) (by omega)
    rwa [cs_take, htake] at h
  have hrb : ∀ u, Below w9.heap.size w9 u → Rd u (cutA PA pc n) q (pc - n) (cs (b.take j)) := fun u hu => by
    have h := (hF9.2.1.below hu).cut (k := n) (by omega)
    rw [cs_drop, hdrop, show pn - n = q by omega] at h
    exact h
  have hrc : ∀ u, Below w9.heap.size w9 u → Rd u B q c' (cs (b.take j)) := fun u hu => by
    have h := (hF9.1.2.2.1.below hu).take (k := q) hjl
    rwa [cs_take, hbj] at h
  have hs1 : ∀ u, Below w9.heap.size w9 u → Calls Try.prog 14 #[.slice PA n pc, .slice A n c] u (Says true u) := fun u hu => by
    have h := same_any PA A n n pc c a a u (hra u hu) (hF9.1.2.1.1.below hu)
    rwa [decide_eq_true rfl] at h
  have hs2 : ∀ u, Below w9.heap.size w9 u → Calls Try.prog 14 #[.slice (cutA PA pc n) q (pc - n), .slice B q c'] u (Says true u) := fun u hu => by
    have h := same_any (cutA PA pc n) B q q (pc - n) c' (b.take j) (b.take j) u (hrb u hu) (hrc u hu)
    rwa [decide_eq_true rfl] at h
  have hwq : IntKind.i64.wrap ((pn : Int) - (n : Int)) = (q : Int) := by rw [wrap64 (by omega) (by omega)]; omega
  have hsa := run_high PA pn pc n (by omega)
  have hsb := run_low PA pn pc n (by omega)
  rw [show pn - n = q by omega] at hsb
  have hyl := And.intro hF9.1.2.2.1.le hF9.1.2.2.1.cap
  have hsc := run_high B m c' q (by omega)
  have HS1 := Lib.hid hs1
  have HS2 := Lib.hid hs2
  have HSA := Lib.hid hsa
  have HSB := Lib.hid hsb
  have HSC := Lib.hid hsc
  have HWQ := Lib.hid hwq
  have HF9 := Lib.hid hF9
  have HC := Lib.hid (Below.drew (Below.refl w9.heap.size w9))
  clear HPN HJL HBJ hs hI9 hF9 hra hrb hrc hs1 hs2 hsa hsb hsc hyl hdrop htake HA8 HF8 hpn hjl hbj hq hdn hrd hlim
  go_upto_region 14 with fail
  refine wp_region_held_drew (S := (fun _ => True)) (by kernel_rfl) trivial (fun hHeld => ?_)
  refine held_take (i := 0) (d := 77) (v := (.slice PA pn pc)) rfl rfl (by kernel_rfl) (by kernel_rfl) (by kernel_rfl) (fun _ _ _ h => h) (by kernel_rfl) (fun w hSw => by (obtain _ := hSw); go_simp) hHeld ?_
  try simp only [List.setIfInBounds_toArray, List.set_cons_zero, List.set_cons_succ]
  refine held_take (i := 1) (d := 78) (v := (.slice A n c)) rfl rfl (by kernel_rfl) (by kernel_rfl) (by kernel_rfl) (fun _ _ _ h => h) (by kernel_rfl) (fun w hSw => by (obtain _ := hSw); go_simp) hHeld ?_
  try simp only [List.setIfInBounds_toArray, List.set_cons_zero, List.set_cons_succ]
  refine held_take (i := 2) (d := 79) (v := (.int .i64 (n : Int))) rfl rfl (by kernel_rfl) (by kernel_rfl) (by kernel_rfl) (fun _ _ _ h => h) (by kernel_rfl) (fun w hSw => by (obtain _ := hSw); go_simp) hHeld ?_
  try simp only [List.setIfInBounds_toArray, List.set_cons_zero, List.set_cons_succ]
  refine held_take (i := 3) (d := 80) (v := (.slice PA n pc)) rfl rfl (by kernel_rfl) (by kernel_rfl) (by kernel_rfl) (fun _ _ _ h => h) (by kernel_rfl) (fun w hS => by have hx := HSA.out w; go_simp) hHeld ?_
  try simp only [List.setIfInBounds_toArray, List.set_cons_zero, List.set_cons_succ]
  refine held_take (i := 4) (d := 81) (v := (.slice A n c)) rfl rfl (by kernel_rfl) (by kernel_rfl) (by kernel_rfl) (fun _ _ _ h => h) (by kernel_rfl) (fun w hSw => by (obtain _ := hSw); go_simp) hHeld ?_
  try simp only [List.setIfInBounds_toArray, List.set_cons_zero, List.set_cons_succ]
  refine wpAnyH_ready (rs := [5]) (by kernel_rfl) (by simp) ?_
  refine AllReadyH.cons rfl (fun K hK => ?_) AllReadyH.nil
  go_simp
  go_at_call 14
  refine (HS1.out _ HC.out).mono ?_
  rintro e v5 ⟨rfl, q5, hq5⟩
  replace HC := Lib.hid (show Below w9.heap.size w9 v5 by rw [hq5]; exact below_drewN HC.out q5)
  clear hq5
  refine hK.out _ _ trivial (fun hHeld => ?_)
  clear hK K
  refine held_take (i := 6) (d := 83) (v := (.bool true)) rfl rfl (by kernel_rfl) (by kernel_rfl) (by kernel_rfl) (fun _ _ _ h => h) (by kernel_rfl) (fun w hSw => by (obtain _ := hSw); go_simp) hHeld ?_
  try simp only [List.setIfInBounds_toArray, List.set_cons_zero, List.set_cons_succ]
  refine held_take (i := 7) (d := 84) (v := (.slice PA pn pc)) rfl rfl (by kernel_rfl) (by kernel_rfl) (by kernel_rfl) (fun _ _ _ h => h) (by kernel_rfl) (fun w hSw => by (obtain _ := hSw); go_simp) hHeld ?_
  try simp only [List.setIfInBounds_toArray, List.set_cons_zero, List.set_cons_succ]
  refine held_take (i := 8) (d := 85) (v := (.slice A n c)) rfl rfl (by kernel_rfl) (by kernel_rfl) (by kernel_rfl) (fun _ _ _ h => h) (by kernel_rfl) (fun w hSw => by (obtain _ := hSw); go_simp) hHeld ?_
  try simp only [List.setIfInBounds_toArray, List.set_cons_zero, List.set_cons_succ]
  refine held_take (i := 9) (d := 86) (v := (.int .i64 (n : Int))) rfl rfl (by kernel_rfl) (by kernel_rfl) (by kernel_rfl) (fun _ _ _ h => h) (by kernel_rfl) (fun w hSw => by (obtain _ := hSw); go_simp) hHeld ?_
  try simp only [List.setIfInBounds_toArray, List.set_cons_zero, List.set_cons_succ]
  refine held_take (i := 10) (d := 87) (v := (.slice (cutA PA pc n) q (pc - n))) rfl rfl (by kernel_rfl) (by kernel_rfl) (by kernel_rfl) (fun _ _ _ h => h) (by kernel_rfl) (fun w hS => by have hx := HSB.out w; go_simp) hHeld ?_
  try simp only [List.setIfInBounds_toArray, List.set_cons_zero, List.set_cons_succ]
  refine held_take (i := 11) (d := 88) (v := (.slice B m c')) rfl rfl (by kernel_rfl) (by kernel_rfl) (by kernel_rfl) (fun _ _ _ h => h) (by kernel_rfl) (fun w hSw => by (obtain _ := hSw); go_simp) hHeld ?_
  try simp only [List.setIfInBounds_toArray, List.set_cons_zero, List.set_cons_succ]
  refine held_take (i := 12) (d := 89) (v := (.slice PA pn pc)) rfl rfl (by kernel_rfl) (by kernel_rfl) (by kernel_rfl) (fun _ _ _ h => h) (by kernel_rfl) (fun w hSw => by (obtain _ := hSw); go_simp) hHeld ?_
  try simp only [List.setIfInBounds_toArray, List.set_cons_zero, List.set_cons_succ]
  refine held_take (i := 13) (d := 90) (v := (.int .i64 (pn : Int))) rfl rfl (by kernel_rfl) (by kernel_rfl) (by kernel_rfl) (fun _ _ _ h => h) (by kernel_rfl) (fun w hSw => by (obtain _ := hSw); go_simp) hHeld ?_
  try simp only [List.setIfInBounds_toArray, List.set_cons_zero, List.set_cons_succ]
  refine held_take (i := 14) (d := 91) (v := (.slice A n c)) rfl rfl (by kernel_rfl) (by kernel_rfl) (by kernel_rfl) (fun _ _ _ h => h) (by kernel_rfl) (fun w hSw => by (obtain _ := hSw); go_simp) hHeld ?_
  try simp only [List.setIfInBounds_toArray, List.set_cons_zero, List.set_cons_succ]
  refine held_take (i := 15) (d := 92) (v := (.int .i64 (n : Int))) rfl rfl (by kernel_rfl) (by kernel_rfl) (by kernel_rfl) (fun _ _ _ h => h) (by kernel_rfl) (fun w hSw => by (obtain _ := hSw); go_simp) hHeld ?_
  try simp only [List.setIfInBounds_toArray, List.set_cons_zero, List.set_cons_succ]
  refine held_take (i := 16) (d := 93) (v := (.int .i64 (q : Int))) rfl rfl (by kernel_rfl) (by kernel_rfl) (by kernel_rfl) (fun _ _ _ h => h) (by kernel_rfl) (fun w hS => by have hx := HWQ.out; go_simp) hHeld ?_
  try simp only [List.setIfInBounds_toArray, List.set_cons_zero, List.set_cons_succ]
  refine held_take (i := 17) (d := 94) (v := (.slice B q c')) rfl rfl (by kernel_rfl) (by kernel_rfl) (by kernel_rfl) (fun _ _ _ h => h) (by kernel_rfl) (fun w hS => by have hx := HSC.out w; go_simp) hHeld ?_
  try simp only [List.setIfInBounds_toArray, List.set_cons_zero, List.set_cons_succ]
  refine wpAnyH_ready (rs := [18]) (by kernel_rfl) (by simp) ?_
  refine AllReadyH.cons rfl (fun K hK => ?_) AllReadyH.nil
  go_simp
  go_at_call 14
  refine (HS2.out _ HC.out).mono ?_
  rintro e v18 ⟨rfl, q18, hq18⟩
  replace HC := Lib.hid (show Below w9.heap.size w9 v18 by rw [hq18]; exact below_drewN HC.out q18)
  clear hq18
  refine hK.out _ _ trivial (fun hHeld => ?_)
  clear hK K
  refine held_take (i := 19) (d := 96) (v := (.bool true)) rfl rfl (by kernel_rfl) (by kernel_rfl) (by kernel_rfl) (fun _ _ _ h => h) (by kernel_rfl) (fun w hSw => by (obtain _ := hSw); go_simp) hHeld ?_
  try simp only [List.setIfInBounds_toArray, List.set_cons_zero, List.set_cons_succ]
  refine held_take (i := 20) (d := 97) (v := (.bool true)) rfl rfl (by kernel_rfl) (by kernel_rfl) (by kernel_rfl) (fun _ _ _ h => h) (by kernel_rfl) (fun w hSw => by (obtain _ := hSw); go_simp) hHeld ?_
  try simp only [List.setIfInBounds_toArray, List.set_cons_zero, List.set_cons_succ]
  refine wpAnyH_ready (rs := [21]) (by kernel_rfl) (by simp) ?_
  refine AllReadyH.cons rfl (fun K hK => ?_) AllReadyH.nil
  go_simp
  go_at_call 9
  refine (HW.out _).mono ?_
  rintro e v21 ⟨rfl, hb21⟩
  replace HC := Lib.hid (HC.out.trans (hb21.mono HC.out.size))
  clear hb21
  refine hK.out _ _ trivial (fun hHeld => ?_)
  clear hK K
  refine held_take (i := 22) (d := 99) (v := (.bool true)) rfl rfl (by kernel_rfl) (by kernel_rfl) (by kernel_rfl) (fun _ _ _ h => h) (by kernel_rfl) (fun w hSw => by (obtain _ := hSw); go_simp) hHeld ?_
  try simp only [List.setIfInBounds_toArray, List.set_cons_zero, List.set_cons_succ]
  refine held_take (i := 23) (d := 8) (v := (.bool true)) rfl rfl (by kernel_rfl) (by kernel_rfl) (by kernel_rfl) (fun _ _ _ h => h) (by kernel_rfl) (fun w hSw => by (obtain _ := hSw); go_simp) hHeld ?_
  try simp only [List.setIfInBounds_toArray, List.set_cons_zero, List.set_cons_succ]
  refine wpAnyH_done (by kernel_rfl) ?_ _
  go_wp2_with fail
  go_ret
  exact ⟨rfl, HF9.out.1.1.2.trans (HC.out.mono HF9.out.1.1.2.size)⟩
end Go.Proofs.Ytcnjjabjdepjgaa.Dsk
