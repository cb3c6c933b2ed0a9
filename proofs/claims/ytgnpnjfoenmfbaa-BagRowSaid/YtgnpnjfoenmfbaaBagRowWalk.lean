/-
  Texts of earlier layers, as one.
-/
import Derived.Test.YtgnpnjfoenmfbaaBagEnv
/- The law of envelopes that are taken from the front. -/
namespace Go.Proofs.Ytgnpnjfoenmfbaa.Bg
open Go.RowKit Mem Dsk

def RowRel1 (l : List Pn) (p : Nat) (w : World) (v : Value) (wr : World) : Prop :=
  ∃ k : Nat, v = .int .i64 (k : Int) ∧ k ≤ l.length ∧ (∀ x ∈ l.take k, x.e.bs.length ≤ 100) ∧ Mine (FNew w) wr p ⟨(l.take k).map (·.e), 100, (k : Int)⟩
def RowRel2 (l : List Pn) (ext : List En) (nx : Int) (p : Nat) (w : World) (v : Value) (wr : World) : Prop :=
  ∃ k : Nat, v = .int .i64 (k : Int) ∧ k ≤ l.length ∧ Mine (FNew w) wr p ⟨(l.map (·.e) ++ ext).drop k, 100, nx⟩
set_option maxRecDepth 20000 in
set_option maxHeartbeats 8000000 in
theorem bag_row (A : Option Addr) (n c : Nat) (l : List Pn) (twice : Int) (w : World) (h : Envs w A n c l) :
    Calls Try.prog 5 #[.slice A n c, .int .i64 twice] w (Tells true w) := by
  have HWALK := Lib.hid (fun (u : World) => bag_awake u)
  have HE := Lib.hid h
  have HN := Lib.hid h.row.len
  have hlc := h.row.le
  have hcc := h.row.cap
  unfold maxLen at hcc
  clear h
  go_enter Try.func5, Try.ntmps5
  by_cases h40 : 40 < n
  · have b1 : decide ((40 : Int) < (n : Int)) = true := decide_eq_true (by omega)
    go_wp2_with fail
    refine (HWALK.out _).mono ?_
    rintro e w1 ⟨rfl, hb⟩
    have HB := Lib.hid hb
    clear hb
    go_wp2_with fail
    go_ret
    exact ⟨rfl, HB.out⟩
  have b1 : decide ((40 : Int) < (n : Int)) = false := decide_eq_false (by omega)
  have HNEW := Lib.hid (new_any 100 w)
  have e0 : newBag 100 = ⟨[], 100, 0⟩ := rfl
  rw [e0] at HNEW
  go_wp2_with fail
  refine HNEW.out.mono ?_
  rintro e w1 ⟨p, S, rfl, hI, hl, hb⟩
  have hm0 : Mine (FNew w) w1 p ⟨[], 100, 0⟩ := ⟨S, hI, hl, hb⟩
  have HM0 := Lib.hid hm0
  clear hI hl hb hm0 HNEW b1 e0
  unfold ptr
  go_wp2_with fail
  go_loopw [6] (RowRel1 l p w) (fun v _ => n - (intOf v).toNat)
  case atStart => exact ⟨0, rfl, Nat.zero_le _, by simp, by simpa using HM0.out⟩
  case round =>
    obtain ⟨k, rfl, hk, hsm, hm⟩ := hrel
    rw [HN.out] at hk
    obtain ⟨S, hI, hF⟩ := hm
    by_cases hlt : k < n
    · obtain ⟨g, o, y, rfl, hg, hy, hrng⟩ := HE.out.row.at_ hlt
      have hrd := HE.out.byt y (List.mem_of_getElem? hy)
      obtain ⟨c0, c1, c2⟩ := three hrng
      rw [show o + k * LN.s = o + k * 3 from rfl] at c0 c1 c2
      have d0 := (hF.2.cell (p := ⟨g, _, none⟩) hg).trans c0
      have d1 := (hF.2.cell (p := ⟨g, _, none⟩) hg).trans c1
      have d2 := (hF.2.cell (p := ⟨g, _, none⟩) hg).trans c2
      have HS := Lib.hid (And.intro hsm (And.intro hy hF))
      clear c0 c1 c2 hrng hsm
      by_cases hbig : 100 < y.e.bs.length
      · have b2 : decide ((100 : Int) < (y.e.bs.length : Int)) = true := decide_eq_true (by omega)
        clear hy hI hrd hg
        obtain ⟨⟨f, t, bs⟩, yA, yc⟩ := y
        simp only at d0 d1 d2 b2
        obtain ⟨m, hm⟩ : ∃ m, bs.length = m := ⟨_, rfl⟩
        rw [hm] at d2 b2
        clear hm hbig hF
        go_wp2_with fail
        refine (HWALK.out _).mono ?_
        rintro e w2 ⟨rfl, hb⟩
        have HB := Lib.hid (HS.out.2.2.2.trans (hb.mono HS.out.2.2.2.size))
        clear hb
        go_wp2_with fail
        go_ret
        exact ⟨rfl, HB.out⟩
      · have b2 : decide ((100 : Int) < (y.e.bs.length : Int)) = false := decide_eq_false (by omega)
        have hfine : Fine ⟨(l.take k).map (·.e), 100, (k : Int)⟩ := ⟨by show ((l.take k).map (·.e)).length ≤ _; rw [List.length_map, List.length_take]; omega, by show (0 : Int) ≤ k; omega, by show (k : Int) ≤ _; omega, fun x hx => by
          obtain ⟨z, hz, rfl⟩ := List.mem_map.1 hx
          have := HS.out.1 z hz
          omega⟩
        have hput := put_any p S _ y.e y.A y.c wr hI hfine (hrd.below hF.2) (by omega)
        have hft : fits ⟨(l.take k).map (·.e), 100, (k : Int)⟩ = true := decide_eq_true (by show (((l.take k).map (·.e)).length : Int) < 100; rw [List.length_map, List.length_take, HN.out]; omega)
        unfold putB at hput
        rw [hft, if_pos rfl] at hput
        have htk : (l.take k).map (·.e) ++ [y.e] = (l.take (k + 1)).map (·.e) := by rw [List.take_add_one, hy, List.map_append]; rfl
        simp only [htk] at hput
        have hsm2 : ∀ x ∈ l.take (k + 1), x.e.bs.length ≤ 100 := fun x hx => by
          rw [List.take_add_one, hy] at hx
          rcases List.mem_append.1 hx with hx | hx
          · exact HS.out.1 x hx
          · simp at hx
            rw [hx]
            omega
        have HP := Lib.hid hput
        have HS2 := Lib.hid hsm2
        unfold ptr at HP
        clear hy hI hrd hg hfine hput hft htk hsm2
        obtain ⟨⟨f, t, bs⟩, yA, yc⟩ := y
        simp only at d0 d1 d2 b2 HP
        obtain ⟨m, hm⟩ : ∃ m, bs.length = m := ⟨_, rfl⟩
        rw [hm] at d2 b2 HP
        clear hm hbig hF
        go_wp2_with fail
        refine HP.out.mono ?_
        rintro e w2 ⟨rfl, hst⟩
        have HM := Lib.hid (hst.mine (frame_new w) HS.out.2.2)
        clear hst HP d0 d1 d2
        go_wp2_with fail
        go_roundw
        case rel => exact ⟨k + 1, by simp, by rw [HN.out]; omega, HS2.out, HM.out⟩
        case measure =>
          simp [intOf]
          omega
    · have hkn : n = k := by omega
      subst hkn
      have hall : l.take n = l := List.take_of_length_le (by rw [HN.out]; exact Nat.le_refl _)
      rw [hall] at hsm hI
      have hmb : ∀ x ∈ l.map (·.e), x.bs.length ≤ 1000 := fun x hx => by
        obtain ⟨z, hz, rfl⟩ := List.mem_map.1 hx
        have := hsm z hz
        omega
      have hfine : Fine ⟨l.map (·.e), 100, (n : Int)⟩ := ⟨by show (l.map (·.e)).length ≤ _; rw [List.length_map, HN.out]; omega, by show (0 : Int) ≤ (n : Int); omega, by show (n : Int) ≤ _; omega, hmb⟩
      have hft : fits ⟨l.map (·.e), 100, (n : Int)⟩ = true := decide_eq_true (by show ((l.map (·.e)).length : Int) < 100; rw [List.length_map, HN.out]; omega)
      have htw := twice_any p S _ twice wr hI hfine
      rw [hft, Bool.and_true] at htw
      unfold twiceB at htw
      have HF := Lib.hid (And.intro hF hmb)
      unfold ptr at htw
      clear hsm hI hF hfine hlt hall hmb
      cases hat : atB twice ⟨l.map (·.e), 100, (n : Int)⟩ with
      | some z =>
        obtain ⟨j, rfl, hz⟩ := at_in hat
        rw [List.getElem?_map, Option.map_eq_some_iff] at hz
        obtain ⟨y, hy, rfl⟩ := hz
        have hjn : j < n := by rw [← HN.out]; exact (List.getElem?_eq_some_iff.1 hy).1
        rw [hat] at htw
        simp only [Option.isSome_some] at htw
        unfold putB at htw
        rw [hft, if_pos rfl] at htw
        have b3 : decide ((0 : Int) ≤ (j : Int)) = true := decide_eq_true (by omega)
        have b4 : decide ((j : Int) < (n : Int)) = true := decide_eq_true (by omega)
        have HTW := Lib.hid htw
        have HJ := Lib.hid (And.intro hjn hy)
        clear htw hat hft hy
        go_wp2_with fail
        refine HTW.out.mono ?_
        rintro e w2 ⟨rfl, hst⟩
        have HM2 := Lib.hid (hst.mine (frame_new w) HF.out.1)
        have HFINE := Lib.hid (fun (i : Nat) => (show Fine ⟨(l.map (·.e) ++ [y.e]).drop i, 100, (n : Int) + 1⟩ from ⟨by show ((l.map (·.e) ++ [y.e]).drop i).length ≤ _; rw [List.length_drop, List.length_append, List.length_map, HN.out]; simp; omega, by show (0 : Int) ≤ (n : Int) + 1; omega, by show (n : Int) + 1 ≤ _; omega, fun x hx => by
          rcases List.mem_append.1 (List.mem_of_mem_drop hx) with hx | hx
          · exact HF.out.2 x hx
          · rw [List.mem_singleton.1 hx]
            exact HF.out.2 _ (List.mem_map.2 ⟨y, List.mem_of_getElem? HJ.out.2, rfl⟩)⟩))
        clear hst HTW b3 b4
        go_wp2_with fail
        go_loopw [8] (RowRel2 l [y.e] ((n : Int) + 1) p w) (fun v _ => n - (intOf v).toNat)
        case atStart => exact ⟨0, rfl, Nat.zero_le _, HM2.out⟩
        case round =>
          obtain ⟨k, rfl, hk, hm⟩ := hrel
          rw [HN.out] at hk
          obtain ⟨S, hI, hF⟩ := hm
          have hfew : Fine ⟨(l.map (·.e) ++ [y.e]).drop k, 100, ((n : Int) + 1)⟩ := HFINE.out k
          have htk := take_any p S _ 0 wr hI hfew
          have hte : takeB 0 ⟨(l.map (·.e) ++ [y.e]).drop k, 100, ((n : Int) + 1)⟩ = ⟨(l.map (·.e) ++ [y.e]).drop (k + 1), 100, ((n : Int) + 1)⟩ := by
            unfold takeB
            rw [if_pos (by decide)]
            show (⟨((l.map (·.e) ++ [y.e]).drop k).eraseIdx 0, 100, ((n : Int) + 1)⟩ : Bag) = _
            rw [drop_erase]
          have hae : atB 0 ⟨(l.map (·.e) ++ [y.e]).drop k, 100, ((n : Int) + 1)⟩ = (l.map (·.e) ++ [y.e])[k]? := by
            unfold atB
            rw [if_pos (by decide)]
            show ((l.map (·.e) ++ [y.e]).drop k)[0]? = _
            rw [List.getElem?_drop, Nat.add_zero]
          rw [hte, hae] at htk
          clear hte hae hfew
          by_cases hlt : k < n
          · obtain ⟨g, o, q, rfl, hg, hy, hrng⟩ := HE.out.row.at_ hlt
            have hrd := HE.out.byt q (List.mem_of_getElem? hy)
            have hat : (l.map (·.e) ++ [y.e])[k]? = some q.e := by rw [List.getElem?_append_left (by rw [List.length_map, HN.out]; exact hlt), List.getElem?_map, hy]; rfl
            rw [hat] at htk
            unfold Shows at htk
            simp only [Option.getD_some, Option.isSome_some] at htk
            obtain ⟨⟨f, t, bs⟩, yA, yc⟩ := q
            simp only at htk hrd
            obtain ⟨m, hm⟩ : ∃ m, bs.length = m := ⟨_, rfl⟩
            rw [hm] at htk
            have hrng2 : w.rangeAt g (o + k * 3) [.int .i64 f, .int .i64 t, .slice yA m yc] := by rw [← hm]; exact hrng
            have HTK := Lib.hid htk
            have HI := Lib.hid (And.intro hF (And.intro hrng2 (And.intro hrd (And.intro hm hg))))
            unfold ptr at HTK
            clear htk hI hF hy hat hrng hrng2 hrd hm hg
            go_wp2_with fail
            refine HTK.out.mono ?_
            rintro e u ⟨⟨B, d, rfl, hby⟩, hI2, hk2⟩
            have hm2 := mine_keep hI2 hk2 (frame_new w) HI.out.1
            have hba := bel_alloc (Below.refl u.heap.size u) (.cells #[.int .i64 f, .int .i64 t, .slice B m d] 29)
            have hkb := Blk.new u 29 #[.int .i64 f, .int .i64 t, .slice B m d]
            have hby2 := hby.alloc (.cells #[.int .i64 f, .int .i64 t, .slice B m d] 29)
            have hm3 := hm2.bel (frame_new w) hba
            obtain ⟨U, hU⟩ : ∃ U, u.alloc (.cells #[.int .i64 f, .int .i64 t, .slice B m d] 29) = U := ⟨_, rfl⟩
            rw [hU] at hba hkb hby2 hm3
            have hbw : Below w.heap.size w U := by
              obtain ⟨_, _, hF3⟩ := hm3
              exact hF3.2
            have hsame : Calls Try.prog 11 #[.agg #[.int .i64 f, .int .i64 t, .slice B bs.length d], .agg #[.int .i64 f, .int .i64 t, .slice yA bs.length yc]] U.drew (Tells true U.drew) :=
              refsame_any ⟨f, t, bs⟩ B yA d yc U.drew (by rw [← HI.out.2.2.2.1] at hby2; exact (Rd.own hby2).drew) ((HI.out.2.2.1.below hbw).drew)
            rw [HI.out.2.2.2.1] at hsame
            have HSAME := Lib.hid hsame
            have HS0 := Lib.hid (show Blk U.drew u.heap.size 29 #[.int .i64 f, .int .i64 t, .slice B m d] ∧ U.drew.rangeAt g (o + k * 3) [.int .i64 f, .int .i64 t, .slice yA m yc] from ⟨hkb, fun i v hv => (hbw.cell (p := ⟨g, _, none⟩) HI.out.2.2.2.2).trans (HI.out.2.1 i v hv)⟩)
            have HM3 := Lib.hid hm3
            have HU := Lib.hid hU
            have HGL := Lib.hid (show g < U.drew.heap.size from Nat.lt_of_lt_of_le HI.out.2.2.2.2 hbw.size)
            clear hby hI2 hk2 hm2 hba hkb hby2 hm3 hU hbw hsame HTK
            go_upto_region 18 with fail
            rw [HU.out]
            refine wp_region_held_drew (S := (fun w' => Blk w' u.heap.size 29 #[.int .i64 f, .int .i64 t, .slice B m d] ∧ w'.rangeAt g (o + k * 3) [.int .i64 f, .int .i64 t, .slice yA m yc])) (by kernel_rfl) (by first | (with_reducible exact HS8.out) | (with_reducible exact HS7.out) | (with_reducible exact HS5.out) | (with_reducible exact HS0.out)) (fun hHeld => ?_)
            refine held_take (i := 0) (d := 63) (v := (.bool true)) rfl rfl (by kernel_rfl) (by kernel_rfl) (by kernel_rfl) (fun _ _ _ h => h) (by kernel_rfl) (fun w hSw => by (obtain ⟨hS0, hS1⟩ := hSw); go_simp) hHeld ?_
            try simp only [List.setIfInBounds_toArray, List.set_cons_zero, List.set_cons_succ]
            refine held_take (i := 1) (d := 64) (v := (.bool false)) rfl rfl (by kernel_rfl) (by kernel_rfl) (by kernel_rfl) (fun _ _ _ h => h) (by kernel_rfl) (fun w hSw => by (obtain ⟨hS0, hS1⟩ := hSw); go_simp) hHeld ?_
            try simp only [List.setIfInBounds_toArray, List.set_cons_zero, List.set_cons_succ]
            refine held_take (i := 2) (d := 65) (v := (.bool false)) rfl rfl (by kernel_rfl) (by kernel_rfl) (by kernel_rfl) (fun _ _ _ h => h) (by kernel_rfl) (fun w hSw => by (obtain ⟨hS0, hS1⟩ := hSw); go_simp) hHeld ?_
            try simp only [List.setIfInBounds_toArray, List.set_cons_zero, List.set_cons_succ]
            refine held_take (i := 3) (d := 66) (v := (.agg #[.int .i64 f, .int .i64 t, .slice B m d])) rfl rfl (by kernel_rfl) (by kernel_rfl) (by kernel_rfl) (fun _ _ _ h => h) (by kernel_rfl) (run_load_blk 29 (.tmp 9) rfl u.heap.size 29 _ _ rfl (fun w hSw => hSw.1) Try.underlying29 rfl (by kernel_rfl)) hHeld ?_
            try simp only [List.setIfInBounds_toArray, List.set_cons_zero, List.set_cons_succ]
            refine held_take (i := 4) (d := 67) (v := (.slice (some ⟨g, o, none⟩) n c)) rfl rfl (by kernel_rfl) (by kernel_rfl) (by kernel_rfl) (fun _ _ _ h => h) (by kernel_rfl) (fun w hSw => by (obtain ⟨hS0, hS1⟩ := hSw); go_simp) hHeld ?_
            try simp only [List.setIfInBounds_toArray, List.set_cons_zero, List.set_cons_succ]
            refine held_take (i := 5) (d := 68) (v := (.int .i64 (k : Int))) rfl rfl (by kernel_rfl) (by kernel_rfl) (by kernel_rfl) (fun _ _ _ h => h) (by kernel_rfl) (fun w hSw => by (obtain ⟨hS0, hS1⟩ := hSw); go_simp) hHeld ?_
            try simp only [List.setIfInBounds_toArray, List.set_cons_zero, List.set_cons_succ]
            refine held_take (i := 6) (d := 69) (v := (.pointer (some ⟨g, o + k * 3, none⟩))) rfl rfl (by kernel_rfl) (by kernel_rfl) (by kernel_rfl) (fun _ _ _ h => h) (by kernel_rfl) (fun w hSw => by (obtain ⟨hS0, hS1⟩ := hSw); go_simp) hHeld ?_
            try simp only [List.setIfInBounds_toArray, List.set_cons_zero, List.set_cons_succ]
            refine held_take (i := 7) (d := 70) (v := (.agg #[.int .i64 f, .int .i64 t, .slice yA m yc])) rfl rfl (by kernel_rfl) (by kernel_rfl) (by kernel_rfl) (fun _ _ _ h => h) (by kernel_rfl) (run_load_row 29 (.tmp 69) rfl g (o + k * 3) [.int .i64 f, .int .i64 t, .slice yA m yc] _ rfl (fun w hSw => hSw.2) Try.underlying29 rfl (by kernel_rfl)) hHeld ?_
            try simp only [List.setIfInBounds_toArray, List.set_cons_zero, List.set_cons_succ]
            refine wpAnyH_ready (rs := [8]) (by kernel_rfl) (by simp) ?_
            refine AllReadyH.cons rfl (fun K hK => ?_) AllReadyH.nil
            go_simp
            go_at_call 11
            (with_reducible refine HSAME.out.mono ?_)
            rintro e u5 ⟨rfl, hb5⟩
            have HS5 := Lib.hid (show Blk u5 u.heap.size 29 #[.int .i64 f, .int .i64 t, .slice B m d] ∧ u5.rangeAt g (o + k * 3) [.int .i64 f, .int .i64 t, .slice yA m yc] from ⟨HS0.out.1.bel hb5, fun i u hu => (hb5.cell (p := ⟨g, _, none⟩) HGL.out).trans (HS0.out.2 i u hu)⟩)
            have HB5 := Lib.hid hb5
            clear hb5
            refine hK.out _ _ (by first | (with_reducible exact HS8.out) | (with_reducible exact HS7.out) | (with_reducible exact HS5.out) | (with_reducible exact HS0.out)) (fun hHeld => ?_)
            clear hK K
            refine held_take (i := 9) (d := 72) (v := (.bool false)) rfl rfl (by kernel_rfl) (by kernel_rfl) (by kernel_rfl) (fun _ _ _ h => h) (by kernel_rfl) (fun w hSw => by (obtain ⟨hS0, hS1⟩ := hSw); go_simp) hHeld ?_
            try simp only [List.setIfInBounds_toArray, List.set_cons_zero, List.set_cons_succ]
            refine held_take (i := 10) (d := 73) (v := (.bool false)) rfl rfl (by kernel_rfl) (by kernel_rfl) (by kernel_rfl) (fun _ _ _ h => h) (by kernel_rfl) (fun w hSw => by (obtain ⟨hS0, hS1⟩ := hSw); go_simp) hHeld ?_
            try simp only [List.setIfInBounds_toArray, List.set_cons_zero, List.set_cons_succ]
            refine wpAnyH_done (by kernel_rfl) ?_ _
            go_wp2_with fail
            go_roundw
            case rel => exact ⟨k + 1, by simp, by rw [HN.out]; omega, HM3.out.bel (frame_new w) ((Below.drew (Below.refl _ _)).trans HB5.out)⟩
            case measure =>
              simp [intOf]
              omega
          · have hkn : n = k := by omega
            subst hkn
            have hlm : (l.map (·.e)).length = n := by rw [List.length_map, HN.out]
            have hdl : (l.map (·.e) ++ [y.e])[n]? = [y.e][0]? := by rw [List.getElem?_append_right (by rw [hlm]; exact Nat.le_refl _), hlm, Nat.sub_self]
            have hdd : (l.map (·.e) ++ [y.e]).drop (n + 1) = [y.e].drop 1 := by rw [List.drop_append, List.drop_of_length_le (by rw [hlm]; omega), List.nil_append, hlm, Nat.add_sub_cancel_left]
            rw [hdl, hdd] at htk
            clear hdl hdd hlt hlm
            unfold Shows at htk
            simp only [List.getElem?_cons_zero, Option.getD_some, Option.isSome_some, List.drop_succ_cons, List.drop_zero] at htk
            obtain ⟨g, o, y', rfl, hg, hy', hrng⟩ := HE.out.row.at_ HJ.out.1
            rw [HJ.out.2] at hy'
            injection hy' with hy'
            subst hy'
            have hrd := HE.out.byt y (List.mem_of_getElem? HJ.out.2)
            obtain ⟨⟨f, t, bs⟩, yA, yc⟩ := y
            simp only at htk hrd
            obtain ⟨m, hm⟩ : ∃ m, bs.length = m := ⟨_, rfl⟩
            rw [hm] at htk
            have hrng2 : w.rangeAt g (o + j * 3) [.int .i64 f, .int .i64 t, .slice yA m yc] := by rw [← hm]; exact hrng
            have HTK := Lib.hid htk
            have HI := Lib.hid (And.intro hF (And.intro hrng2 (And.intro hrd (And.intro hm hg))))
            have hjk : j < n := HJ.out.1
            unfold ptr at HTK
            clear htk hI hF hrng hrng2 hrd hm hg
            go_wp2_with fail
            refine HTK.out.mono ?_
            rintro e u ⟨⟨B, d, rfl, hby⟩, hI2, hk2⟩
            have hm2 := mine_keep hI2 hk2 (frame_new w) HI.out.1
            have hba := bel_alloc (Below.refl u.heap.size u) (.cells #[.int .i64 f, .int .i64 t, .slice B m d] 29)
            have hkb := Blk.new u 29 #[.int .i64 f, .int .i64 t, .slice B m d]
            have hby2 := hby.alloc (.cells #[.int .i64 f, .int .i64 t, .slice B m d] 29)
            have hm3 := hm2.bel (frame_new w) hba
            obtain ⟨U, hU⟩ : ∃ U, u.alloc (.cells #[.int .i64 f, .int .i64 t, .slice B m d] 29) = U := ⟨_, rfl⟩
            rw [hU] at hba hkb hby2 hm3
            obtain ⟨S3, hI3, hF3⟩ := hm3
            have hbw : Below w.heap.size w U := hF3.2
            have hsame : Calls Try.prog 11 #[.agg #[.int .i64 f, .int .i64 t, .slice B bs.length d], .agg #[.int .i64 f, .int .i64 t, .slice yA bs.length yc]] U.drew (Tells true U.drew) :=
              refsame_any ⟨f, t, bs⟩ B yA d yc U.drew (by rw [← HI.out.2.2.2.1] at hby2; exact (Rd.own hby2).drew) ((HI.out.2.2.1.below hbw).drew)
            rw [HI.out.2.2.2.1] at hsame
            have HSAME := Lib.hid hsame
            have HS0 := Lib.hid (show Blk U.drew u.heap.size 29 #[.int .i64 f, .int .i64 t, .slice B m d] ∧ U.drew.rangeAt g (o + j * 3) [.int .i64 f, .int .i64 t, .slice yA m yc] from ⟨hkb, fun i v hv => (hbw.cell (p := ⟨g, _, none⟩) HI.out.2.2.2.2).trans (HI.out.2.1 i v hv)⟩)
            have HLEN : Hid (∀ v, Below U.drew.heap.size U.drew v → Calls Try.prog 16 #[.pointer (some ⟨p, 0, none⟩)] v (fun e w' => e = .returned (.int .i64 0) ∧ w' = v)) := Lib.hid fun v hv => len_any p S3 ⟨[], 100, _⟩ v (bi_below hI3 ((Below.drew (Below.refl _ _)).trans hv))
            have HBW := Lib.hid (show Below w.heap.size w U.drew from Below.drew hbw)
            have HU := Lib.hid hU
            have HGL := Lib.hid (show g < U.drew.heap.size from Nat.lt_of_lt_of_le HI.out.2.2.2.2 hbw.size)
            clear hby hI2 hk2 hm2 hba hkb hby2 hI3 hF3 hU hbw hsame HTK
            go_upto_region 21 with fail
            rw [HU.out]
            refine wp_region_held_drew (S := (fun w' => Blk w' u.heap.size 29 #[.int .i64 f, .int .i64 t, .slice B m d] ∧ w'.rangeAt g (o + j * 3) [.int .i64 f, .int .i64 t, .slice yA m yc])) (by kernel_rfl) (by first | (with_reducible exact HS8.out) | (with_reducible exact HS7.out) | (with_reducible exact HS5.out) | (with_reducible exact HS0.out)) (fun hHeld => ?_)
            refine held_take (i := 0) (d := 79) (v := (.bool true)) rfl rfl (by kernel_rfl) (by kernel_rfl) (by kernel_rfl) (fun _ _ _ h => h) (by kernel_rfl) (fun w hSw => by (obtain ⟨hS0, hS1⟩ := hSw); go_simp) hHeld ?_
            try simp only [List.setIfInBounds_toArray, List.set_cons_zero, List.set_cons_succ]
            refine held_take (i := 1) (d := 80) (v := (.bool true)) rfl rfl (by kernel_rfl) (by kernel_rfl) (by kernel_rfl) (fun _ _ _ h => h) (by kernel_rfl) (fun w hSw => by (obtain ⟨hS0, hS1⟩ := hSw); go_simp) hHeld ?_
            try simp only [List.setIfInBounds_toArray, List.set_cons_zero, List.set_cons_succ]
            refine held_take (i := 2) (d := 81) (v := (.bool true)) rfl rfl (by kernel_rfl) (by kernel_rfl) (by kernel_rfl) (fun _ _ _ h => h) (by kernel_rfl) (fun w hSw => by (obtain ⟨hS0, hS1⟩ := hSw); go_simp) hHeld ?_
            try simp only [List.setIfInBounds_toArray, List.set_cons_zero, List.set_cons_succ]
            refine held_take (i := 3) (d := 82) (v := (.bool true)) rfl rfl (by kernel_rfl) (by kernel_rfl) (by kernel_rfl) (fun _ _ _ h => h) (by kernel_rfl) (fun w hSw => by (obtain ⟨hS0, hS1⟩ := hSw); go_simp) hHeld ?_
            try simp only [List.setIfInBounds_toArray, List.set_cons_zero, List.set_cons_succ]
            refine held_take (i := 4) (d := 83) (v := (.bool true)) rfl rfl (by kernel_rfl) (by kernel_rfl) (by kernel_rfl) (fun _ _ _ h => h) (by kernel_rfl) (fun w hSw => by (obtain ⟨hS0, hS1⟩ := hSw); go_simp) hHeld ?_
            try simp only [List.setIfInBounds_toArray, List.set_cons_zero, List.set_cons_succ]
            refine held_take (i := 5) (d := 84) (v := (.bool false)) rfl rfl (by kernel_rfl) (by kernel_rfl) (by kernel_rfl) (fun _ _ _ h => h) (by kernel_rfl) (fun w hSw => by (obtain ⟨hS0, hS1⟩ := hSw); go_simp) hHeld ?_
            try simp only [List.setIfInBounds_toArray, List.set_cons_zero, List.set_cons_succ]
            refine held_take (i := 6) (d := 85) (v := (.bool false)) rfl rfl (by kernel_rfl) (by kernel_rfl) (by kernel_rfl) (fun _ _ _ h => h) (by kernel_rfl) (fun w hSw => by (obtain ⟨hS0, hS1⟩ := hSw); go_simp) hHeld ?_
            try simp only [List.setIfInBounds_toArray, List.set_cons_zero, List.set_cons_succ]
            refine held_take (i := 7) (d := 86) (v := (.agg #[.int .i64 f, .int .i64 t, .slice B m d])) rfl rfl (by kernel_rfl) (by kernel_rfl) (by kernel_rfl) (fun _ _ _ h => h) (by kernel_rfl) (run_load_blk 29 (.tmp 11) rfl u.heap.size 29 _ _ rfl (fun w hSw => hSw.1) Try.underlying29 rfl (by kernel_rfl)) hHeld ?_
            try simp only [List.setIfInBounds_toArray, List.set_cons_zero, List.set_cons_succ]
            refine held_take (i := 8) (d := 87) (v := (.slice (some ⟨g, o, none⟩) n c)) rfl rfl (by kernel_rfl) (by kernel_rfl) (by kernel_rfl) (fun _ _ _ h => h) (by kernel_rfl) (fun w hSw => by (obtain ⟨hS0, hS1⟩ := hSw); go_simp) hHeld ?_
            try simp only [List.setIfInBounds_toArray, List.set_cons_zero, List.set_cons_succ]
            refine held_take (i := 9) (d := 88) (v := (.int .i64 (j : Int))) rfl rfl (by kernel_rfl) (by kernel_rfl) (by kernel_rfl) (fun _ _ _ h => h) (by kernel_rfl) (fun w hSw => by (obtain ⟨hS0, hS1⟩ := hSw); go_simp) hHeld ?_
            try simp only [List.setIfInBounds_toArray, List.set_cons_zero, List.set_cons_succ]
            refine held_take (i := 10) (d := 89) (v := (.pointer (some ⟨g, o + j * 3, none⟩))) rfl rfl (by kernel_rfl) (by kernel_rfl) (by kernel_rfl) (fun _ _ _ h => h) (by kernel_rfl) (fun w hSw => by (obtain ⟨hS0, hS1⟩ := hSw); go_simp) hHeld ?_
            try simp only [List.setIfInBounds_toArray, List.set_cons_zero, List.set_cons_succ]
            refine held_take (i := 11) (d := 90) (v := (.agg #[.int .i64 f, .int .i64 t, .slice yA m yc])) rfl rfl (by kernel_rfl) (by kernel_rfl) (by kernel_rfl) (fun _ _ _ h => h) (by kernel_rfl) (run_load_row 29 (.tmp 89) rfl g (o + j * 3) [.int .i64 f, .int .i64 t, .slice yA m yc] _ rfl (fun w hSw => hSw.2) Try.underlying29 rfl (by kernel_rfl)) hHeld ?_
            try simp only [List.setIfInBounds_toArray, List.set_cons_zero, List.set_cons_succ]
            refine wpAnyH_ready (rs := [12]) (by kernel_rfl) (by simp) ?_
            refine AllReadyH.cons rfl (fun K hK => ?_) AllReadyH.nil
            go_simp
            go_at_call 11
            (with_reducible refine HSAME.out.mono ?_)
            rintro e u5 ⟨rfl, hb5⟩
            have HS5 := Lib.hid (show Blk u5 u.heap.size 29 #[.int .i64 f, .int .i64 t, .slice B m d] ∧ u5.rangeAt g (o + j * 3) [.int .i64 f, .int .i64 t, .slice yA m yc] from ⟨HS0.out.1.bel hb5, fun i u hu => (hb5.cell (p := ⟨g, _, none⟩) HGL.out).trans (HS0.out.2 i u hu)⟩)
            have HB5 := Lib.hid hb5
            clear hb5
            refine hK.out _ _ (by first | (with_reducible exact HS8.out) | (with_reducible exact HS7.out) | (with_reducible exact HS5.out) | (with_reducible exact HS0.out)) (fun hHeld => ?_)
            clear hK K
            refine held_take (i := 13) (d := 92) (v := (.bool true)) rfl rfl (by kernel_rfl) (by kernel_rfl) (by kernel_rfl) (fun _ _ _ h => h) (by kernel_rfl) (fun w hSw => by (obtain ⟨hS0, hS1⟩ := hSw); go_simp) hHeld ?_
            try simp only [List.setIfInBounds_toArray, List.set_cons_zero, List.set_cons_succ]
            refine held_take (i := 14) (d := 93) (v := (.bool true)) rfl rfl (by kernel_rfl) (by kernel_rfl) (by kernel_rfl) (fun _ _ _ h => h) (by kernel_rfl) (fun w hSw => by (obtain ⟨hS0, hS1⟩ := hSw); go_simp) hHeld ?_
            try simp only [List.setIfInBounds_toArray, List.set_cons_zero, List.set_cons_succ]
            refine held_take (i := 15) (d := 94) (v := (.bool true)) rfl rfl (by kernel_rfl) (by kernel_rfl) (by kernel_rfl) (fun _ _ _ h => h) (by kernel_rfl) (fun w hSw => by (obtain ⟨hS0, hS1⟩ := hSw); go_simp) hHeld ?_
            try simp only [List.setIfInBounds_toArray, List.set_cons_zero, List.set_cons_succ]
            refine held_take (i := 16) (d := 95) (v := (.pointer (some ⟨p, 0, none⟩))) rfl rfl (by kernel_rfl) (by kernel_rfl) (by kernel_rfl) (fun _ _ _ h => h) (by kernel_rfl) (fun w hSw => by (obtain ⟨hS0, hS1⟩ := hSw); go_simp) hHeld ?_
            try simp only [List.setIfInBounds_toArray, List.set_cons_zero, List.set_cons_succ]
            refine wpAnyH_ready (rs := [17]) (by kernel_rfl) (by simp) ?_
            refine AllReadyH.cons rfl (fun K hK => ?_) AllReadyH.nil
            go_simp
            have hlen := HLEN.out u5 HB5.out
            go_at_call 16
            (with_reducible refine hlen.mono ?_)
            rintro e u6 ⟨rfl, hu6⟩
            subst hu6
            refine hK.out _ _ (by first | (with_reducible exact HS8.out) | (with_reducible exact HS7.out) | (with_reducible exact HS5.out) | (with_reducible exact HS0.out)) (fun hHeld => ?_)
            clear hK K
            refine held_take (i := 18) (d := 97) (v := (.bool true)) rfl rfl (by kernel_rfl) (by kernel_rfl) (by kernel_rfl) (fun _ _ _ h => h) (by kernel_rfl) (fun w hSw => by (obtain ⟨hS0, hS1⟩ := hSw); go_simp) hHeld ?_
            try simp only [List.setIfInBounds_toArray, List.set_cons_zero, List.set_cons_succ]
            refine held_take (i := 19) (d := 98) (v := (.bool true)) rfl rfl (by kernel_rfl) (by kernel_rfl) (by kernel_rfl) (fun _ _ _ h => h) (by kernel_rfl) (fun w hSw => by (obtain ⟨hS0, hS1⟩ := hSw); go_simp) hHeld ?_
            try simp only [List.setIfInBounds_toArray, List.set_cons_zero, List.set_cons_succ]
            refine held_take (i := 20) (d := 99) (v := (.bool true)) rfl rfl (by kernel_rfl) (by kernel_rfl) (by kernel_rfl) (fun _ _ _ h => h) (by kernel_rfl) (fun w hSw => by (obtain ⟨hS0, hS1⟩ := hSw); go_simp) hHeld ?_
            try simp only [List.setIfInBounds_toArray, List.set_cons_zero, List.set_cons_succ]
            refine wpAnyH_ready (rs := [21]) (by kernel_rfl) (by simp) ?_
            refine AllReadyH.cons rfl (fun K hK => ?_) AllReadyH.nil
            go_simp
            go_at_call 6
            (with_reducible refine (bag_awake _).mono ?_)
            rintro e u7 ⟨rfl, hb6⟩
            have HS7 := Lib.hid (show Blk u7 u.heap.size 29 #[.int .i64 f, .int .i64 t, .slice B m d] ∧ u7.rangeAt g (o + j * 3) [.int .i64 f, .int .i64 t, .slice yA m yc] from ⟨HS5.out.1.bel hb6, fun i u hu => (hb6.cell (p := ⟨g, _, none⟩) (Nat.lt_of_lt_of_le HGL.out HB5.out.size)).trans (HS5.out.2 i u hu)⟩)
            have HB7 := Lib.hid hb6
            clear hb6
            refine hK.out _ _ (by first | (with_reducible exact HS8.out) | (with_reducible exact HS7.out) | (with_reducible exact HS5.out) | (with_reducible exact HS0.out)) (fun hHeld => ?_)
            clear hK K
            refine held_take (i := 22) (d := 101) (v := (.bool true)) rfl rfl (by kernel_rfl) (by kernel_rfl) (by kernel_rfl) (fun _ _ _ h => h) (by kernel_rfl) (fun w hSw => by (obtain ⟨hS0, hS1⟩ := hSw); go_simp) hHeld ?_
            try simp only [List.setIfInBounds_toArray, List.set_cons_zero, List.set_cons_succ]
            refine held_take (i := 23) (d := 4) (v := (.bool true)) rfl rfl (by kernel_rfl) (by kernel_rfl) (by kernel_rfl) (fun _ _ _ h => h) (by kernel_rfl) (fun w hSw => by (obtain ⟨hS0, hS1⟩ := hSw); go_simp) hHeld ?_
            try simp only [List.setIfInBounds_toArray, List.set_cons_zero, List.set_cons_succ]
            refine wpAnyH_done (by kernel_rfl) ?_ _
            go_wp2_with fail
            go_ret
            exact ⟨rfl, HBW.out.trans ((HB5.out.mono HBW.out.size).trans (HB7.out.mono (by have := HBW.out.size; have := HB5.out.size; omega)))⟩
      | none =>
        rw [hat] at htw
        simp only [Option.isSome_none] at htw
        have hno : twice < 0 ∨ (n : Int) ≤ twice := by
          by_cases h0 : twice < 0
          · exact .inl h0
          · refine .inr (Int.not_lt.1 fun h1 => ?_)
            have := at_some (b := ⟨l.map (·.e), 100, (n : Int)⟩) (i := twice) (k := twice.toNat) (by omega) (by show _ < (l.map (·.e)).length; rw [List.length_map, HN.out]; omega)
            rw [hat] at this
            cases this
        have HTW := Lib.hid htw
        clear htw hat hft
        have HFINE := Lib.hid (fun (i : Nat) => (show Fine ⟨(l.map (·.e) ++ ([] : List En)).drop i, 100, (n : Int)⟩ from ⟨by show ((l.map (·.e) ++ ([] : List En)).drop i).length ≤ _; rw [List.length_drop, List.length_append, List.length_map, HN.out]; simp; omega, by show (0 : Int) ≤ (n : Int); omega, by show (n : Int) ≤ _; omega, fun x hx => by
          rcases List.mem_append.1 (List.mem_of_mem_drop hx) with hx | hx
          · exact HF.out.2 x hx
          · cases hx⟩))
        rcases hno with hno | hno
        · have b3 : decide ((0 : Int) ≤ twice) = false := decide_eq_false (by omega)
          clear hno
          go_wp2_with fail
          refine HTW.out.mono ?_
          rintro e w2 ⟨rfl, hst⟩
          have hm2 := hst.mine (frame_new w) HF.out.1
          rw [← List.append_nil (l.map (·.e))] at hm2
          have HM2 := Lib.hid hm2
          clear hst HTW hm2
          go_wp2_with fail
          go_loopw [8] (RowRel2 l ([] : List En) (n : Int) p w) (fun v _ => n - (intOf v).toNat)
          case atStart => exact ⟨0, rfl, Nat.zero_le _, HM2.out⟩
          case round =>
            obtain ⟨k, rfl, hk, hm⟩ := hrel
            rw [HN.out] at hk
            obtain ⟨S, hI, hF⟩ := hm
            have hfew : Fine ⟨(l.map (·.e) ++ ([] : List En)).drop k, 100, (n : Int)⟩ := HFINE.out k
            have htk := take_any p S _ 0 wr hI hfew
            have hte : takeB 0 ⟨(l.map (·.e) ++ ([] : List En)).drop k, 100, (n : Int)⟩ = ⟨(l.map (·.e) ++ ([] : List En)).drop (k + 1), 100, (n : Int)⟩ := by
              unfold takeB
              rw [if_pos (by decide)]
              show (⟨((l.map (·.e) ++ ([] : List En)).drop k).eraseIdx 0, 100, (n : Int)⟩ : Bag) = _
              rw [drop_erase]
            have hae : atB 0 ⟨(l.map (·.e) ++ ([] : List En)).drop k, 100, (n : Int)⟩ = (l.map (·.e) ++ ([] : List En))[k]? := by
              unfold atB
              rw [if_pos (by decide)]
              show ((l.map (·.e) ++ ([] : List En)).drop k)[0]? = _
              rw [List.getElem?_drop, Nat.add_zero]
            rw [hte, hae] at htk
            clear hte hae hfew
            by_cases hlt : k < n
            · obtain ⟨g, o, q, rfl, hg, hy, hrng⟩ := HE.out.row.at_ hlt
              have hrd := HE.out.byt q (List.mem_of_getElem? hy)
              have hat : (l.map (·.e) ++ ([] : List En))[k]? = some q.e := by rw [List.getElem?_append_left (by rw [List.length_map, HN.out]; exact hlt), List.getElem?_map, hy]; rfl
              rw [hat] at htk
              unfold Shows at htk
              simp only [Option.getD_some, Option.isSome_some] at htk
              obtain ⟨⟨f, t, bs⟩, yA, yc⟩ := q
              simp only at htk hrd
              obtain ⟨m, hm⟩ : ∃ m, bs.length = m := ⟨_, rfl⟩
              rw [hm] at htk
              have hrng2 : w.rangeAt g (o + k * 3) [.int .i64 f, .int .i64 t, .slice yA m yc] := by rw [← hm]; exact hrng
              have HTK := Lib.hid htk
              have HI := Lib.hid (And.intro hF (And.intro hrng2 (And.intro hrd (And.intro hm hg))))
              unfold ptr at HTK
              clear htk hI hF hy hat hrng hrng2 hrd hm hg
              go_wp2_with fail
              refine HTK.out.mono ?_
              rintro e u ⟨⟨B, d, rfl, hby⟩, hI2, hk2⟩
              have hm2 := mine_keep hI2 hk2 (frame_new w) HI.out.1
              have hba := bel_alloc (Below.refl u.heap.size u) (.cells #[.int .i64 f, .int .i64 t, .slice B m d] 29)
              have hkb := Blk.new u 29 #[.int .i64 f, .int .i64 t, .slice B m d]
              have hby2 := hby.alloc (.cells #[.int .i64 f, .int .i64 t, .slice B m d] 29)
              have hm3 := hm2.bel (frame_new w) hba
              obtain ⟨U, hU⟩ : ∃ U, u.alloc (.cells #[.int .i64 f, .int .i64 t, .slice B m d] 29) = U := ⟨_, rfl⟩
              rw [hU] at hba hkb hby2 hm3
              have hbw : Below w.heap.size w U := by
                obtain ⟨_, _, hF3⟩ := hm3
                exact hF3.2
              have hsame : Calls Try.prog 11 #[.agg #[.int .i64 f, .int .i64 t, .slice B bs.length d], .agg #[.int .i64 f, .int .i64 t, .slice yA bs.length yc]] U.drew (Tells true U.drew) :=
                refsame_any ⟨f, t, bs⟩ B yA d yc U.drew (by rw [← HI.out.2.2.2.1] at hby2; exact (Rd.own hby2).drew) ((HI.out.2.2.1.below hbw).drew)
              rw [HI.out.2.2.2.1] at hsame
              have HSAME := Lib.hid hsame
              have HS0 := Lib.hid (show Blk U.drew u.heap.size 29 #[.int .i64 f, .int .i64 t, .slice B m d] ∧ U.drew.rangeAt g (o + k * 3) [.int .i64 f, .int .i64 t, .slice yA m yc] from ⟨hkb, fun i v hv => (hbw.cell (p := ⟨g, _, none⟩) HI.out.2.2.2.2).trans (HI.out.2.1 i v hv)⟩)
              have HM3 := Lib.hid hm3
              have HU := Lib.hid hU
              have HGL := Lib.hid (show g < U.drew.heap.size from Nat.lt_of_lt_of_le HI.out.2.2.2.2 hbw.size)
              clear hby hI2 hk2 hm2 hba hkb hby2 hm3 hU hbw hsame HTK
              go_upto_region 18 with fail
              rw [HU.out]
              refine wp_region_held_drew (S := (fun w' => Blk w' u.heap.size 29 #[.int .i64 f, .int .i64 t, .slice B m d] ∧ w'.rangeAt g (o + k * 3) [.int .i64 f, .int .i64 t, .slice yA m yc])) (by kernel_rfl) (by first | (with_reducible exact HS8.out) | (with_reducible exact HS7.out) | (with_reducible exact HS5.out) | (with_reducible exact HS0.out)) (fun hHeld => ?_)
              refine held_take (i := 0) (d := 63) (v := (.bool true)) rfl rfl (by kernel_rfl) (by kernel_rfl) (by kernel_rfl) (fun _ _ _ h => h) (by kernel_rfl) (fun w hSw => by (obtain ⟨hS0, hS1⟩ := hSw); go_simp) hHeld ?_
              try simp only [List.setIfInBounds_toArray, List.set_cons_zero, List.set_cons_succ]
              refine held_take (i := 1) (d := 64) (v := (.bool false)) rfl rfl (by kernel_rfl) (by kernel_rfl) (by kernel_rfl) (fun _ _ _ h => h) (by kernel_rfl) (fun w hSw => by (obtain ⟨hS0, hS1⟩ := hSw); go_simp) hHeld ?_
              try simp only [List.setIfInBounds_toArray, List.set_cons_zero, List.set_cons_succ]
              refine held_take (i := 2) (d := 65) (v := (.bool false)) rfl rfl (by kernel_rfl) (by kernel_rfl) (by kernel_rfl) (fun _ _ _ h => h) (by kernel_rfl) (fun w hSw => by (obtain ⟨hS0, hS1⟩ := hSw); go_simp) hHeld ?_
              try simp only [List.setIfInBounds_toArray, List.set_cons_zero, List.set_cons_succ]
              refine held_take (i := 3) (d := 66) (v := (.agg #[.int .i64 f, .int .i64 t, .slice B m d])) rfl rfl (by kernel_rfl) (by kernel_rfl) (by kernel_rfl) (fun _ _ _ h => h) (by kernel_rfl) (run_load_blk 29 (.tmp 9) rfl u.heap.size 29 _ _ rfl (fun w hSw => hSw.1) Try.underlying29 rfl (by kernel_rfl)) hHeld ?_
              try simp only [List.setIfInBounds_toArray, List.set_cons_zero, List.set_cons_succ]
              refine held_take (i := 4) (d := 67) (v := (.slice (some ⟨g, o, none⟩) n c)) rfl rfl (by kernel_rfl) (by kernel_rfl) (by kernel_rfl) (fun _ _ _ h => h) (by kernel_rfl) (fun w hSw => by (obtain ⟨hS0, hS1⟩ := hSw); go_simp) hHeld ?_
              try simp only [List.setIfInBounds_toArray, List.set_cons_zero, List.set_cons_succ]
              refine held_take (i := 5) (d := 68) (v := (.int .i64 (k : Int))) rfl rfl (by kernel_rfl) (by kernel_rfl) (by kernel_rfl) (fun _ _ _ h => h) (by kernel_rfl) (fun w hSw => by (obtain ⟨hS0, hS1⟩ := hSw); go_simp) hHeld ?_
              try simp only [List.setIfInBounds_toArray, List.set_cons_zero, List.set_cons_succ]
              refine held_take (i := 6) (d := 69) (v := (.pointer (some ⟨g, o + k * 3, none⟩))) rfl rfl (by kernel_rfl) (by kernel_rfl) (by kernel_rfl) (fun _ _ _ h => h) (by kernel_rfl) (fun w hSw => by (obtain ⟨hS0, hS1⟩ := hSw); go_simp) hHeld ?_
              try simp only [List.setIfInBounds_toArray, List.set_cons_zero, List.set_cons_succ]
              refine held_take (i := 7) (d := 70) (v := (.agg #[.int .i64 f, .int .i64 t, .slice yA m yc])) rfl rfl (by kernel_rfl) (by kernel_rfl) (by kernel_rfl) (fun _ _ _ h => h) (by kernel_rfl) (run_load_row 29 (.tmp 69) rfl g (o + k * 3) [.int .i64 f, .int .i64 t, .slice yA m yc] _ rfl (fun w hSw => hSw.2) Try.underlying29 rfl (by kernel_rfl)) hHeld ?_
              try simp only [List.setIfInBounds_toArray, List.set_cons_zero, List.set_cons_succ]
              refine wpAnyH_ready (rs := [8]) (by kernel_rfl) (by simp) ?_
              refine AllReadyH.cons rfl (fun K hK => ?_) AllReadyH.nil
              go_simp
              go_at_call 11
              (with_reducible refine HSAME.out.mono ?_)
              rintro e u5 ⟨rfl, hb5⟩
              have HS5 := Lib.hid (show Blk u5 u.heap.size 29 #[.int .i64 f, .int .i64 t, .slice B m d] ∧ u5.rangeAt g (o + k * 3) [.int .i64 f, .int .i64 t, .slice yA m yc] from ⟨HS0.out.1.bel hb5, fun i u hu => (hb5.cell (p := ⟨g, _, none⟩) HGL.out).trans (HS0.out.2 i u hu)⟩)
              have HB5 := Lib.hid hb5
              clear hb5
              refine hK.out _ _ (by first | (with_reducible exact HS8.out) | (with_reducible exact HS7.out) | (with_reducible exact HS5.out) | (with_reducible exact HS0.out)) (fun hHeld => ?_)
              clear hK K
              refine held_take (i := 9) (d := 72) (v := (.bool false)) rfl rfl (by kernel_rfl) (by kernel_rfl) (by kernel_rfl) (fun _ _ _ h => h) (by kernel_rfl) (fun w hSw => by (obtain ⟨hS0, hS1⟩ := hSw); go_simp) hHeld ?_
              try simp only [List.setIfInBounds_toArray, List.set_cons_zero, List.set_cons_succ]
              refine held_take (i := 10) (d := 73) (v := (.bool false)) rfl rfl (by kernel_rfl) (by kernel_rfl) (by kernel_rfl) (fun _ _ _ h => h) (by kernel_rfl) (fun w hSw => by (obtain ⟨hS0, hS1⟩ := hSw); go_simp) hHeld ?_
              try simp only [List.setIfInBounds_toArray, List.set_cons_zero, List.set_cons_succ]
              refine wpAnyH_done (by kernel_rfl) ?_ _
              go_wp2_with fail
              go_roundw
              case rel => exact ⟨k + 1, by simp, by rw [HN.out]; omega, HM3.out.bel (frame_new w) ((Below.drew (Below.refl _ _)).trans HB5.out)⟩
              case measure =>
                simp [intOf]
                omega
            · have hkn : n = k := by omega
              subst hkn
              have hlm : (l.map (·.e)).length = n := by rw [List.length_map, HN.out]
              have hdl : (l.map (·.e) ++ ([] : List En))[n]? = ([] : List En)[0]? := by rw [List.getElem?_append_right (by rw [hlm]; exact Nat.le_refl _), hlm, Nat.sub_self]
              have hdd : (l.map (·.e) ++ ([] : List En)).drop (n + 1) = ([] : List En).drop 1 := by rw [List.drop_append, List.drop_of_length_le (by rw [hlm]; omega), List.nil_append, hlm, Nat.add_sub_cancel_left]
              rw [hdl, hdd] at htk
              clear hdl hdd hlt hlm
              unfold Shows at htk
              simp only [List.getElem?_nil, Option.getD_none, Option.isSome_none, List.drop_nil] at htk
              unfold noEn at htk
              simp only [List.length_nil] at htk
              have HTK := Lib.hid htk
              have HI := Lib.hid hF
              unfold ptr at HTK
              clear htk hI hF
              go_wp2_with fail
              refine HTK.out.mono ?_
              rintro e u ⟨⟨B, d, rfl, hby⟩, hI2, hk2⟩
              have hm2 := mine_keep hI2 hk2 (frame_new w) HI.out
              have hba := bel_alloc (Below.refl u.heap.size u) (.cells #[.int .i64 0, .int .i64 0, .slice B 0 d] 29)
              have hm3 := hm2.bel (frame_new w) hba
              obtain ⟨U, hU⟩ : ∃ U, u.alloc (.cells #[.int .i64 0, .int .i64 0, .slice B 0 d] 29) = U := ⟨_, rfl⟩
              rw [hU] at hba hm3
              obtain ⟨S3, hI3, hF3⟩ := hm3
              have hbw : Below w.heap.size w U := hF3.2
              have HLEN : Hid (∀ v, Below U.drew.heap.size U.drew v → Calls Try.prog 16 #[.pointer (some ⟨p, 0, none⟩)] v (fun e w' => e = .returned (.int .i64 0) ∧ w' = v)) := Lib.hid fun v hv => len_any p S3 ⟨[], 100, _⟩ v (bi_below hI3 ((Below.drew (Below.refl _ _)).trans hv))
              have HS0 := Lib.hid (show True from trivial)
              have HBW := Lib.hid (show Below w.heap.size w U.drew from Below.drew hbw)
              have HU := Lib.hid hU
              clear hby hI2 hk2 hm2 hba hI3 hF3 hU hbw HTK
              go_upto_region 21 with fail
              rw [HU.out]
              refine wp_region_held_drew (S := (fun _ => True)) (by kernel_rfl) (by first | (with_reducible exact HS8.out) | (with_reducible exact HS7.out) | (with_reducible exact HS5.out) | (with_reducible exact HS0.out)) (fun hHeld => ?_)
              refine held_take (i := 0) (d := 79) (v := (.bool false)) rfl rfl (by kernel_rfl) (by kernel_rfl) (by kernel_rfl) (fun _ _ _ h => h) (by kernel_rfl) (fun w hSw => by (obtain _ := hSw); go_simp) hHeld ?_
              try simp only [List.setIfInBounds_toArray, List.set_cons_zero, List.set_cons_succ]
              refine held_take (i := 1) (d := 80) (v := (.bool false)) rfl rfl (by kernel_rfl) (by kernel_rfl) (by kernel_rfl) (fun _ _ _ h => h) (by kernel_rfl) (fun w hSw => by (obtain _ := hSw); go_simp) hHeld ?_
              try simp only [List.setIfInBounds_toArray, List.set_cons_zero, List.set_cons_succ]
              refine held_take (i := 2) (d := 81) (v := (.bool true)) rfl rfl (by kernel_rfl) (by kernel_rfl) (by kernel_rfl) (fun _ _ _ h => h) (by kernel_rfl) (fun w hSw => by (obtain _ := hSw); go_simp) hHeld ?_
              try simp only [List.setIfInBounds_toArray, List.set_cons_zero, List.set_cons_succ]
              refine held_take (i := 3) (d := 82) (v := (.bool true)) rfl rfl (by kernel_rfl) (by kernel_rfl) (by kernel_rfl) (fun _ _ _ h => h) (by kernel_rfl) (fun w hSw => by (obtain _ := hSw); go_simp) hHeld ?_
              try simp only [List.setIfInBounds_toArray, List.set_cons_zero, List.set_cons_succ]
              refine held_take (i := 4) (d := 83) (v := (.bool false)) rfl rfl (by kernel_rfl) (by kernel_rfl) (by kernel_rfl) (fun _ _ _ h => h) (by kernel_rfl) (fun w hSw => by (obtain _ := hSw); go_simp) hHeld ?_
              try simp only [List.setIfInBounds_toArray, List.set_cons_zero, List.set_cons_succ]
              refine held_take (i := 5) (d := 84) (v := (.bool true)) rfl rfl (by kernel_rfl) (by kernel_rfl) (by kernel_rfl) (fun _ _ _ h => h) (by kernel_rfl) (fun w hSw => by (obtain _ := hSw); go_simp) hHeld ?_
              try simp only [List.setIfInBounds_toArray, List.set_cons_zero, List.set_cons_succ]
              refine held_take (i := 6) (d := 85) (v := (.bool true)) rfl rfl (by kernel_rfl) (by kernel_rfl) (by kernel_rfl) (fun _ _ _ h => h) (by kernel_rfl) (fun w hSw => by (obtain _ := hSw); go_simp) hHeld ?_
              try simp only [List.setIfInBounds_toArray, List.set_cons_zero, List.set_cons_succ]
              refine held_skip (i := 7) (d := 86) rfl rfl (by kernel_rfl) (by kernel_rfl) (by kernel_rfl) (fun _ _ _ h => h) (by kernel_rfl) hHeld ?_
              try simp only [List.setIfInBounds_toArray, List.set_cons_zero, List.set_cons_succ]
              refine held_skip (i := 8) (d := 87) rfl rfl (by kernel_rfl) (by kernel_rfl) (by kernel_rfl) (fun _ _ _ h => h) (by kernel_rfl) hHeld ?_
              try simp only [List.setIfInBounds_toArray, List.set_cons_zero, List.set_cons_succ]
              refine held_skip (i := 9) (d := 88) rfl rfl (by kernel_rfl) (by kernel_rfl) (by kernel_rfl) (fun _ _ _ h => h) (by kernel_rfl) hHeld ?_
              try simp only [List.setIfInBounds_toArray, List.set_cons_zero, List.set_cons_succ]
              refine held_skip (i := 10) (d := 89) rfl rfl (by kernel_rfl) (by kernel_rfl) (by kernel_rfl) (fun _ _ _ h => h) (by kernel_rfl) hHeld ?_
              try simp only [List.setIfInBounds_toArray, List.set_cons_zero, List.set_cons_succ]
              refine held_skip (i := 11) (d := 90) rfl rfl (by kernel_rfl) (by kernel_rfl) (by kernel_rfl) (fun _ _ _ h => h) (by kernel_rfl) hHeld ?_
              try simp only [List.setIfInBounds_toArray, List.set_cons_zero, List.set_cons_succ]
              refine held_skip (i := 12) (d := 91) rfl rfl (by kernel_rfl) (by kernel_rfl) (by kernel_rfl) (fun _ _ _ h => h) (by kernel_rfl) hHeld ?_
              try simp only [List.setIfInBounds_toArray, List.set_cons_zero, List.set_cons_succ]
              refine held_take (i := 13) (d := 92) (v := (.bool true)) rfl rfl (by kernel_rfl) (by kernel_rfl) (by kernel_rfl) (fun _ _ _ h => h) (by kernel_rfl) (fun w hSw => by (obtain _ := hSw); go_simp) hHeld ?_
              try simp only [List.setIfInBounds_toArray, List.set_cons_zero, List.set_cons_succ]
              refine held_take (i := 14) (d := 93) (v := (.bool true)) rfl rfl (by kernel_rfl) (by kernel_rfl) (by kernel_rfl) (fun _ _ _ h => h) (by kernel_rfl) (fun w hSw => by (obtain _ := hSw); go_simp) hHeld ?_
              try simp only [List.setIfInBounds_toArray, List.set_cons_zero, List.set_cons_succ]
              refine held_take (i := 15) (d := 94) (v := (.bool true)) rfl rfl (by kernel_rfl) (by kernel_rfl) (by kernel_rfl) (fun _ _ _ h => h) (by kernel_rfl) (fun w hSw => by (obtain _ := hSw); go_simp) hHeld ?_
              try simp only [List.setIfInBounds_toArray, List.set_cons_zero, List.set_cons_succ]
              refine held_take (i := 16) (d := 95) (v := (.pointer (some ⟨p, 0, none⟩))) rfl rfl (by kernel_rfl) (by kernel_rfl) (by kernel_rfl) (fun _ _ _ h => h) (by kernel_rfl) (fun w hSw => by (obtain _ := hSw); go_simp) hHeld ?_
              try simp only [List.setIfInBounds_toArray, List.set_cons_zero, List.set_cons_succ]
              refine wpAnyH_ready (rs := [17]) (by kernel_rfl) (by simp) ?_
              refine AllReadyH.cons rfl (fun K hK => ?_) AllReadyH.nil
              go_simp
              have hlen := HLEN.out U.drew (Below.refl _ _)
              go_at_call 16
              (with_reducible refine hlen.mono ?_)
              rintro e u6 ⟨rfl, hu6⟩
              subst hu6
              refine hK.out _ _ (by first | (with_reducible exact HS8.out) | (with_reducible exact HS7.out) | (with_reducible exact HS5.out) | (with_reducible exact HS0.out)) (fun hHeld => ?_)
              clear hK K
              refine held_take (i := 18) (d := 97) (v := (.bool true)) rfl rfl (by kernel_rfl) (by kernel_rfl) (by kernel_rfl) (fun _ _ _ h => h) (by kernel_rfl) (fun w hSw => by (obtain _ := hSw); go_simp) hHeld ?_
              try simp only [List.setIfInBounds_toArray, List.set_cons_zero, List.set_cons_succ]
              refine held_take (i := 19) (d := 98) (v := (.bool true)) rfl rfl (by kernel_rfl) (by kernel_rfl) (by kernel_rfl) (fun _ _ _ h => h) (by kernel_rfl) (fun w hSw => by (obtain _ := hSw); go_simp) hHeld ?_
              try simp only [List.setIfInBounds_toArray, List.set_cons_zero, List.set_cons_succ]
              refine held_take (i := 20) (d := 99) (v := (.bool true)) rfl rfl (by kernel_rfl) (by kernel_rfl) (by kernel_rfl) (fun _ _ _ h => h) (by kernel_rfl) (fun w hSw => by (obtain _ := hSw); go_simp) hHeld ?_
              try simp only [List.setIfInBounds_toArray, List.set_cons_zero, List.set_cons_succ]
              refine wpAnyH_ready (rs := [21]) (by kernel_rfl) (by simp) ?_
              refine AllReadyH.cons rfl (fun K hK => ?_) AllReadyH.nil
              go_simp
              go_at_call 6
              (with_reducible refine (bag_awake _).mono ?_)
              rintro e u7 ⟨rfl, hb6⟩
              have HS7 := Lib.hid (show True from trivial)
              have HB7 := Lib.hid hb6
              clear hb6
              refine hK.out _ _ (by first | (with_reducible exact HS8.out) | (with_reducible exact HS7.out) | (with_reducible exact HS5.out) | (with_reducible exact HS0.out)) (fun hHeld => ?_)
              clear hK K
              refine held_take (i := 22) (d := 101) (v := (.bool true)) rfl rfl (by kernel_rfl) (by kernel_rfl) (by kernel_rfl) (fun _ _ _ h => h) (by kernel_rfl) (fun w hSw => by (obtain _ := hSw); go_simp) hHeld ?_
              try simp only [List.setIfInBounds_toArray, List.set_cons_zero, List.set_cons_succ]
              refine held_take (i := 23) (d := 4) (v := (.bool true)) rfl rfl (by kernel_rfl) (by kernel_rfl) (by kernel_rfl) (fun _ _ _ h => h) (by kernel_rfl) (fun w hSw => by (obtain _ := hSw); go_simp) hHeld ?_
              try simp only [List.setIfInBounds_toArray, List.set_cons_zero, List.set_cons_succ]
              refine wpAnyH_done (by kernel_rfl) ?_ _
              go_wp2_with fail
              go_ret
              exact ⟨rfl, HBW.out.trans (HB7.out.mono HBW.out.size)⟩
        · have b3 : decide ((0 : Int) ≤ twice) = true := decide_eq_true (by omega)
          have b4 : decide (twice < (n : Int)) = false := decide_eq_false (by omega)
          clear hno
          go_wp2_with fail
          refine HTW.out.mono ?_
          rintro e w2 ⟨rfl, hst⟩
          have hm2 := hst.mine (frame_new w) HF.out.1
          rw [← List.append_nil (l.map (·.e))] at hm2
          have HM2 := Lib.hid hm2
          clear hst HTW hm2
          go_wp2_with fail
          go_loopw [8] (RowRel2 l ([] : List En) (n : Int) p w) (fun v _ => n - (intOf v).toNat)
          case atStart => exact ⟨0, rfl, Nat.zero_le _, HM2.out⟩
          case round =>
            obtain ⟨k, rfl, hk, hm⟩ := hrel
            rw [HN.out] at hk
            obtain ⟨S, hI, hF⟩ := hm
            have hfew : Fine ⟨(l.map (·.e) ++ ([] : List En)).drop k, 100, (n : Int)⟩ := HFINE.out k
            have htk := take_any p S _ 0 wr hI hfew
            have hte : takeB 0 ⟨(l.map (·.e) ++ ([] : List En)).drop k, 100, (n : Int)⟩ = ⟨(l.map (·.e) ++ ([] : List En)).drop (k + 1), 100, (n : Int)⟩ := by
              unfold takeB
              rw [if_pos (by decide)]
              show (⟨((l.map (·.e) ++ ([] : List En)).drop k).eraseIdx 0, 100, (n : Int)⟩ : Bag) = _
              rw [drop_erase]
            have hae : atB 0 ⟨(l.map (·.e) ++ ([] : List En)).drop k, 100, (n : Int)⟩ = (l.map (·.e) ++ ([] : List En))[k]? := by
              unfold atB
              rw [if_pos (by decide)]
              show ((l.map (·.e) ++ ([] : List En)).drop k)[0]? = _
              rw [List.getElem?_drop, Nat.add_zero]
            rw [hte, hae] at htk
            clear hte hae hfew
            by_cases hlt : k < n
            · obtain ⟨g, o, q, rfl, hg, hy, hrng⟩ := HE.out.row.at_ hlt
              have hrd := HE.out.byt q (List.mem_of_getElem? hy)
              have hat : (l.map (·.e) ++ ([] : List En))[k]? = some q.e := by rw [List.getElem?_append_left (by rw [List.length_map, HN.out]; exact hlt), List.getElem?_map, hy]; rfl
              rw [hat] at htk
              unfold Shows at htk
              simp only [Option.getD_some, Option.isSome_some] at htk
              obtain ⟨⟨f, t, bs⟩, yA, yc⟩ := q
              simp only at htk hrd
              obtain ⟨m, hm⟩ : ∃ m, bs.length = m := ⟨_, rfl⟩
              rw [hm] at htk
              have hrng2 : w.rangeAt g (o + k * 3) [.int .i64 f, .int .i64 t, .slice yA m yc] := by rw [← hm]; exact hrng
              have HTK := Lib.hid htk
              have HI := Lib.hid (And.intro hF (And.intro hrng2 (And.intro hrd (And.intro hm hg))))
              unfold ptr at HTK
              clear htk hI hF hy hat hrng hrng2 hrd hm hg
              go_wp2_with fail
              refine HTK.out.mono ?_
              rintro e u ⟨⟨B, d, rfl, hby⟩, hI2, hk2⟩
              have hm2 := mine_keep hI2 hk2 (frame_new w) HI.out.1
              have hba := bel_alloc (Below.refl u.heap.size u) (.cells #[.int .i64 f, .int .i64 t, .slice B m d] 29)
              have hkb := Blk.new u 29 #[.int .i64 f, .int .i64 t, .slice B m d]
              have hby2 := hby.alloc (.cells #[.int .i64 f, .int .i64 t, .slice B m d] 29)
              have hm3 := hm2.bel (frame_new w) hba
              obtain ⟨U, hU⟩ : ∃ U, u.alloc (.cells #[.int .i64 f, .int .i64 t, .slice B m d] 29) = U := ⟨_, rfl⟩
              rw [hU] at hba hkb hby2 hm3
              have hbw : Below w.heap.size w U := by
                obtain ⟨_, _, hF3⟩ := hm3
                exact hF3.2
              have hsame : Calls Try.prog 11 #[.agg #[.int .i64 f, .int .i64 t, .slice B bs.length d], .agg #[.int .i64 f, .int .i64 t, .slice yA bs.length yc]] U.drew (Tells true U.drew) :=
                refsame_any ⟨f, t, bs⟩ B yA d yc U.drew (by rw [← HI.out.2.2.2.1] at hby2; exact (Rd.own hby2).drew) ((HI.out.2.2.1.below hbw).drew)
              rw [HI.out.2.2.2.1] at hsame
              have HSAME := Lib.hid hsame
              have HS0 := Lib.hid (show Blk U.drew u.heap.size 29 #[.int .i64 f, .int .i64 t, .slice B m d] ∧ U.drew.rangeAt g (o + k * 3) [.int .i64 f, .int .i64 t, .slice yA m yc] from ⟨hkb, fun i v hv => (hbw.cell (p := ⟨g, _, none⟩) HI.out.2.2.2.2).trans (HI.out.2.1 i v hv)⟩)
              have HM3 := Lib.hid hm3
              have HU := Lib.hid hU
              have HGL := Lib.hid (show g < U.drew.heap.size from Nat.lt_of_lt_of_le HI.out.2.2.2.2 hbw.size)
              clear hby hI2 hk2 hm2 hba hkb hby2 hm3 hU hbw hsame HTK
              go_upto_region 18 with fail
              rw [HU.out]
              refine wp_region_held_drew (S := (fun w' => Blk w' u.heap.size 29 #[.int .i64 f, .int .i64 t, .slice B m d] ∧ w'.rangeAt g (o + k * 3) [.int .i64 f, .int .i64 t, .slice yA m yc])) (by kernel_rfl) (by first | (with_reducible exact HS8.out) | (with_reducible exact HS7.out) | (with_reducible exact HS5.out) | (with_reducible exact HS0.out)) (fun hHeld => ?_)
              refine held_take (i := 0) (d := 63) (v := (.bool true)) rfl rfl (by kernel_rfl) (by kernel_rfl) (by kernel_rfl) (fun _ _ _ h => h) (by kernel_rfl) (fun w hSw => by (obtain ⟨hS0, hS1⟩ := hSw); go_simp) hHeld ?_
              try simp only [List.setIfInBounds_toArray, List.set_cons_zero, List.set_cons_succ]
              refine held_take (i := 1) (d := 64) (v := (.bool false)) rfl rfl (by kernel_rfl) (by kernel_rfl) (by kernel_rfl) (fun _ _ _ h => h) (by kernel_rfl) (fun w hSw => by (obtain ⟨hS0, hS1⟩ := hSw); go_simp) hHeld ?_
              try simp only [List.setIfInBounds_toArray, List.set_cons_zero, List.set_cons_succ]
              refine held_take (i := 2) (d := 65) (v := (.bool false)) rfl rfl (by kernel_rfl) (by kernel_rfl) (by kernel_rfl) (fun _ _ _ h => h) (by kernel_rfl) (fun w hSw => by (obtain ⟨hS0, hS1⟩ := hSw); go_simp) hHeld ?_
              try simp only [List.setIfInBounds_toArray, List.set_cons_zero, List.set_cons_succ]
              refine held_take (i := 3) (d := 66) (v := (.agg #[.int .i64 f, .int .i64 t, .slice B m d])) rfl rfl (by kernel_rfl) (by kernel_rfl) (by kernel_rfl) (fun _ _ _ h => h) (by kernel_rfl) (run_load_blk 29 (.tmp 9) rfl u.heap.size 29 _ _ rfl (fun w hSw => hSw.1) Try.underlying29 rfl (by kernel_rfl)) hHeld ?_
              try simp only [List.setIfInBounds_toArray, List.set_cons_zero, List.set_cons_succ]
              refine held_take (i := 4) (d := 67) (v := (.slice (some ⟨g, o, none⟩) n c)) rfl rfl (by kernel_rfl) (by kernel_rfl) (by kernel_rfl) (fun _ _ _ h => h) (by kernel_rfl) (fun w hSw => by (obtain ⟨hS0, hS1⟩ := hSw); go_simp) hHeld ?_
              try simp only [List.setIfInBounds_toArray, List.set_cons_zero, List.set_cons_succ]
              refine held_take (i := 5) (d := 68) (v := (.int .i64 (k : Int))) rfl rfl (by kernel_rfl) (by kernel_rfl) (by kernel_rfl) (fun _ _ _ h => h) (by kernel_rfl) (fun w hSw => by (obtain ⟨hS0, hS1⟩ := hSw); go_simp) hHeld ?_
              try simp only [List.setIfInBounds_toArray, List.set_cons_zero, List.set_cons_succ]
              refine held_take (i := 6) (d := 69) (v := (.pointer (some ⟨g, o + k * 3, none⟩))) rfl rfl (by kernel_rfl) (by kernel_rfl) (by kernel_rfl) (fun _ _ _ h => h) (by kernel_rfl) (fun w hSw => by (obtain ⟨hS0, hS1⟩ := hSw); go_simp) hHeld ?_
              try simp only [List.setIfInBounds_toArray, List.set_cons_zero, List.set_cons_succ]
              refine held_take (i := 7) (d := 70) (v := (.agg #[.int .i64 f, .int .i64 t, .slice yA m yc])) rfl rfl (by kernel_rfl) (by kernel_rfl) (by kernel_rfl) (fun _ _ _ h => h) (by kernel_rfl) (run_load_row 29 (.tmp 69) rfl g (o + k * 3) [.int .i64 f, .int .i64 t, .slice yA m yc] _ rfl (fun w hSw => hSw.2) Try.underlying29 rfl (by kernel_rfl)) hHeld ?_
              try simp only [List.setIfInBounds_toArray, List.set_cons_zero, List.set_cons_succ]
              refine wpAnyH_ready (rs := [8]) (by kernel_rfl) (by simp) ?_
              refine AllReadyH.cons rfl (fun K hK => ?_) AllReadyH.nil
              go_simp
              go_at_call 11
              (with_reducible refine HSAME.out.mono ?_)
              rintro e u5 ⟨rfl, hb5⟩
              have HS5 := Lib.hid (show Blk u5 u.heap.size 29 #[.int .i64 f, .int .i64 t, .slice B m d] ∧ u5.rangeAt g (o + k * 3) [.int .i64 f, .int .i64 t, .slice yA m yc] from ⟨HS0.out.1.bel hb5, fun i u hu => (hb5.cell (p := ⟨g, _, none⟩) HGL.out).trans (HS0.out.2 i u hu)⟩)
              have HB5 := Lib.hid hb5
              clear hb5
              refine hK.out _ _ (by first | (with_reducible exact HS8.out) | (with_reducible exact HS7.out) | (with_reducible exact HS5.out) | (with_reducible exact HS0.out)) (fun hHeld => ?_)
              clear hK K
              refine held_take (i := 9) (d := 72) (v := (.bool false)) rfl rfl (by kernel_rfl) (by kernel_rfl) (by kernel_rfl) (fun _ _ _ h => h) (by kernel_rfl) (fun w hSw => by (obtain ⟨hS0, hS1⟩ := hSw); go_simp) hHeld ?_
              try simp only [List.setIfInBounds_toArray, List.set_cons_zero, List.set_cons_succ]
              refine held_take (i := 10) (d := 73) (v := (.bool false)) rfl rfl (by kernel_rfl) (by kernel_rfl) (by kernel_rfl) (fun _ _ _ h => h) (by kernel_rfl) (fun w hSw => by (obtain ⟨hS0, hS1⟩ := hSw); go_simp) hHeld ?_
              try simp only [List.setIfInBounds_toArray, List.set_cons_zero, List.set_cons_succ]
              refine wpAnyH_done (by kernel_rfl) ?_ _
              go_wp2_with fail
              go_roundw
              case rel => exact ⟨k + 1, by simp, by rw [HN.out]; omega, HM3.out.bel (frame_new w) ((Below.drew (Below.refl _ _)).trans HB5.out)⟩
              case measure =>
                simp [intOf]
                omega
            · have hkn : n = k := by omega
              subst hkn
              have hlm : (l.map (·.e)).length = n := by rw [List.length_map, HN.out]
              have hdl : (l.map (·.e) ++ ([] : List En))[n]? = ([] : List En)[0]? := by rw [List.getElem?_append_right (by rw [hlm]; exact Nat.le_refl _), hlm, Nat.sub_self]
              have hdd : (l.map (·.e) ++ ([] : List En)).drop (n + 1) = ([] : List En).drop 1 := by rw [List.drop_append, List.drop_of_length_le (by rw [hlm]; omega), List.nil_append, hlm, Nat.add_sub_cancel_left]
              rw [hdl, hdd] at htk
              clear hdl hdd hlt hlm
              unfold Shows at htk
              simp only [List.getElem?_nil, Option.getD_none, Option.isSome_none, List.drop_nil] at htk
              unfold noEn at htk
              simp only [List.length_nil] at htk
              have HTK := Lib.hid htk
              have HI := Lib.hid hF
              unfold ptr at HTK
              clear htk hI hF
              go_wp2_with fail
              refine HTK.out.mono ?_
              rintro e u ⟨⟨B, d, rfl, hby⟩, hI2, hk2⟩
              have hm2 := mine_keep hI2 hk2 (frame_new w) HI.out
              have hba := bel_alloc (Below.refl u.heap.size u) (.cells #[.int .i64 0, .int .i64 0, .slice B 0 d] 29)
              have hm3 := hm2.bel (frame_new w) hba
              obtain ⟨U, hU⟩ : ∃ U, u.alloc (.cells #[.int .i64 0, .int .i64 0, .slice B 0 d] 29) = U := ⟨_, rfl⟩
              rw [hU] at hba hm3
              obtain ⟨S3, hI3, hF3⟩ := hm3
              have hbw : Below w.heap.size w U := hF3.2
              have HLEN : Hid (∀ v, Below U.drew.heap.size U.drew v → Calls Try.prog 16 #[.pointer (some ⟨p, 0, none⟩)] v (fun e w' => e = .returned (.int .i64 0) ∧ w' = v)) := Lib.hid fun v hv => len_any p S3 ⟨[], 100, _⟩ v (bi_below hI3 ((Below.drew (Below.refl _ _)).trans hv))
              have HS0 := Lib.hid (show True from trivial)
              have HBW := Lib.hid (show Below w.heap.size w U.drew from Below.drew hbw)
              have HU := Lib.hid hU
              clear hby hI2 hk2 hm2 hba hI3 hF3 hU hbw HTK
              go_upto_region 21 with fail
              rw [HU.out]
              refine wp_region_held_drew (S := (fun _ => True)) (by kernel_rfl) (by first | (with_reducible exact HS8.out) | (with_reducible exact HS7.out) | (with_reducible exact HS5.out) | (with_reducible exact HS0.out)) (fun hHeld => ?_)
              refine held_take (i := 0) (d := 79) (v := (.bool false)) rfl rfl (by kernel_rfl) (by kernel_rfl) (by kernel_rfl) (fun _ _ _ h => h) (by kernel_rfl) (fun w hSw => by (obtain _ := hSw); go_simp) hHeld ?_
              try simp only [List.setIfInBounds_toArray, List.set_cons_zero, List.set_cons_succ]
              refine held_take (i := 1) (d := 80) (v := (.bool false)) rfl rfl (by kernel_rfl) (by kernel_rfl) (by kernel_rfl) (fun _ _ _ h => h) (by kernel_rfl) (fun w hSw => by (obtain _ := hSw); go_simp) hHeld ?_
              try simp only [List.setIfInBounds_toArray, List.set_cons_zero, List.set_cons_succ]
              refine held_take (i := 2) (d := 81) (v := (.bool true)) rfl rfl (by kernel_rfl) (by kernel_rfl) (by kernel_rfl) (fun _ _ _ h => h) (by kernel_rfl) (fun w hSw => by (obtain _ := hSw); go_simp) hHeld ?_
              try simp only [List.setIfInBounds_toArray, List.set_cons_zero, List.set_cons_succ]
              refine held_take (i := 3) (d := 82) (v := (.bool true)) rfl rfl (by kernel_rfl) (by kernel_rfl) (by kernel_rfl) (fun _ _ _ h => h) (by kernel_rfl) (fun w hSw => by (obtain _ := hSw); go_simp) hHeld ?_
              try simp only [List.setIfInBounds_toArray, List.set_cons_zero, List.set_cons_succ]
              refine held_take (i := 4) (d := 83) (v := (.bool false)) rfl rfl (by kernel_rfl) (by kernel_rfl) (by kernel_rfl) (fun _ _ _ h => h) (by kernel_rfl) (fun w hSw => by (obtain _ := hSw); go_simp) hHeld ?_
              try simp only [List.setIfInBounds_toArray, List.set_cons_zero, List.set_cons_succ]
              refine held_take (i := 5) (d := 84) (v := (.bool true)) rfl rfl (by kernel_rfl) (by kernel_rfl) (by kernel_rfl) (fun _ _ _ h => h) (by kernel_rfl) (fun w hSw => by (obtain _ := hSw); go_simp) hHeld ?_
              try simp only [List.setIfInBounds_toArray, List.set_cons_zero, List.set_cons_succ]
              refine held_take (i := 6) (d := 85) (v := (.bool true)) rfl rfl (by kernel_rfl) (by kernel_rfl) (by kernel_rfl) (fun _ _ _ h => h) (by kernel_rfl) (fun w hSw => by (obtain _ := hSw); go_simp) hHeld ?_
              try simp only [List.setIfInBounds_toArray, List.set_cons_zero, List.set_cons_succ]
              refine held_skip (i := 7) (d := 86) rfl rfl (by kernel_rfl) (by kernel_rfl) (by kernel_rfl) (fun _ _ _ h => h) (by kernel_rfl) hHeld ?_
              try simp only [List.setIfInBounds_toArray, List.set_cons_zero, List.set_cons_succ]
              refine held_skip (i := 8) (d := 87) rfl rfl (by kernel_rfl) (by kernel_rfl) (by kernel_rfl) (fun _ _ _ h => h) (by kernel_rfl) hHeld ?_
              try simp only [List.setIfInBounds_toArray, List.set_cons_zero, List.set_cons_succ]
              refine held_skip (i := 9) (d := 88) rfl rfl (by kernel_rfl) (by kernel_rfl) (by kernel_rfl) (fun _ _ _ h => h) (by kernel_rfl) hHeld ?_
              try simp only [List.setIfInBounds_toArray, List.set_cons_zero, List.set_cons_succ]
              refine held_skip (i := 10) (d := 89) rfl rfl (by kernel_rfl) (by kernel_rfl) (by kernel_rfl) (fun _ _ _ h => h) (by kernel_rfl) hHeld ?_
              try simp only [List.setIfInBounds_toArray, List.set_cons_zero, List.set_cons_succ]
              refine held_skip (i := 11) (d := 90) rfl rfl (by kernel_rfl) (by kernel_rfl) (by kernel_rfl) (fun _ _ _ h => h) (by kernel_rfl) hHeld ?_
              try simp only [List.setIfInBounds_toArray, List.set_cons_zero, List.set_cons_succ]
              refine held_skip (i := 12) (d := 91) rfl rfl (by kernel_rfl) (by kernel_rfl) (by kernel_rfl) (fun _ _ _ h => h) (by kernel_rfl) hHeld ?_
              try simp only [List.setIfInBounds_toArray, List.set_cons_zero, List.set_cons_succ]
              refine held_take (i := 13) (d := 92) (v := (.bool true)) rfl rfl (by kernel_rfl) (by kernel_rfl) (by kernel_rfl) (fun _ _ _ h => h) (by kernel_rfl) (fun w hSw => by (obtain _ := hSw); go_simp) hHeld ?_
              try simp only [List.setIfInBounds_toArray, List.set_cons_zero, List.set_cons_succ]
              refine held_take (i := 14) (d := 93) (v := (.bool true)) rfl rfl (by kernel_rfl) (by kernel_rfl) (by kernel_rfl) (fun _ _ _ h => h) (by kernel_rfl) (fun w hSw => by (obtain _ := hSw); go_simp) hHeld ?_
              try simp only [List.setIfInBounds_toArray, List.set_cons_zero, List.set_cons_succ]
              refine held_take (i := 15) (d := 94) (v := (.bool true)) rfl rfl (by kernel_rfl) (by kernel_rfl) (by kernel_rfl) (fun _ _ _ h => h) (by kernel_rfl) (fun w hSw => by (obtain _ := hSw); go_simp) hHeld ?_
              try simp only [List.setIfInBounds_toArray, List.set_cons_zero, List.set_cons_succ]
              refine held_take (i := 16) (d := 95) (v := (.pointer (some ⟨p, 0, none⟩))) rfl rfl (by kernel_rfl) (by kernel_rfl) (by kernel_rfl) (fun _ _ _ h => h) (by kernel_rfl) (fun w hSw => by (obtain _ := hSw); go_simp) hHeld ?_
              try simp only [List.setIfInBounds_toArray, List.set_cons_zero, List.set_cons_succ]
              refine wpAnyH_ready (rs := [17]) (by kernel_rfl) (by simp) ?_
              refine AllReadyH.cons rfl (fun K hK => ?_) AllReadyH.nil
              go_simp
              have hlen := HLEN.out U.drew (Below.refl _ _)
              go_at_call 16
              (with_reducible refine hlen.mono ?_)
              rintro e u6 ⟨rfl, hu6⟩
              subst hu6
              refine hK.out _ _ (by first | (with_reducible exact HS8.out) | (with_reducible exact HS7.out) | (with_reducible exact HS5.out) | (with_reducible exact HS0.out)) (fun hHeld => ?_)
              clear hK K
              refine held_take (i := 18) (d := 97) (v := (.bool true)) rfl rfl (by kernel_rfl) (by kernel_rfl) (by kernel_rfl) (fun _ _ _ h => h) (by kernel_rfl) (fun w hSw => by (obtain _ := hSw); go_simp) hHeld ?_
              try simp only [List.setIfInBounds_toArray, List.set_cons_zero, List.set_cons_succ]
              refine held_take (i := 19) (d := 98) (v := (.bool true)) rfl rfl (by kernel_rfl) (by kernel_rfl) (by kernel_rfl) (fun _ _ _ h => h) (by kernel_rfl) (fun w hSw => by (obtain _ := hSw); go_simp) hHeld ?_
              try simp only [List.setIfInBounds_toArray, List.set_cons_zero, List.set_cons_succ]
              refine held_take (i := 20) (d := 99) (v := (.bool true)) rfl rfl (by kernel_rfl) (by kernel_rfl) (by kernel_rfl) (fun _ _ _ h => h) (by kernel_rfl) (fun w hSw => by (obtain _ := hSw); go_simp) hHeld ?_
              try simp only [List.setIfInBounds_toArray, List.set_cons_zero, List.set_cons_succ]
              refine wpAnyH_ready (rs := [21]) (by kernel_rfl) (by simp) ?_
              refine AllReadyH.cons rfl (fun K hK => ?_) AllReadyH.nil
              go_simp
              go_at_call 6
              (with_reducible refine (bag_awake _).mono ?_)
              rintro e u7 ⟨rfl, hb6⟩
              have HS7 := Lib.hid (show True from trivial)
              have HB7 := Lib.hid hb6
              clear hb6
              refine hK.out _ _ (by first | (with_reducible exact HS8.out) | (with_reducible exact HS7.out) | (with_reducible exact HS5.out) | (with_reducible exact HS0.out)) (fun hHeld => ?_)
              clear hK K
              refine held_take (i := 22) (d := 101) (v := (.bool true)) rfl rfl (by kernel_rfl) (by kernel_rfl) (by kernel_rfl) (fun _ _ _ h => h) (by kernel_rfl) (fun w hSw => by (obtain _ := hSw); go_simp) hHeld ?_
              try simp only [List.setIfInBounds_toArray, List.set_cons_zero, List.set_cons_succ]
              refine held_take (i := 23) (d := 4) (v := (.bool true)) rfl rfl (by kernel_rfl) (by kernel_rfl) (by kernel_rfl) (fun _ _ _ h => h) (by kernel_rfl) (fun w hSw => by (obtain _ := hSw); go_simp) hHeld ?_
              try simp only [List.setIfInBounds_toArray, List.set_cons_zero, List.set_cons_succ]
              refine wpAnyH_done (by kernel_rfl) ?_ _
              go_wp2_with fail
              go_ret
              exact ⟨rfl, HBW.out.trans (HB7.out.mono HBW.out.size)⟩
end Go.Proofs.Ytgnpnjfoenmfbaa.Bg
