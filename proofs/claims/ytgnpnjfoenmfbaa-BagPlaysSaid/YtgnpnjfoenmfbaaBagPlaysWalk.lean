/-
  Texts of earlier layers, as one.
-/
import Derived.Test.YtgnpnjfoenmfbaaBagPlaysB
import Derived.Deep.CutRange
import Derived.Deep.CutBlock
/- The law of all acts. -/
namespace Go.Proofs.Ytgnpnjfoenmfbaa.Bg
open Go.RowKit Mem Dsk

set_option maxRecDepth 20000 in
set_option maxHeartbeats 8000000 in
theorem bag_plays (room : Int) (A : Option Addr) (n c : Nat) (l : List Ac) (w : World) (h : Acts w A n c l) :
    Calls Try.prog 3 #[.int .i64 room, .slice A n c] w (Tells true w) := by
  have HAW := Lib.hid (fun (u : World) => bag_awake u)
  have HRM := Lib.hid (fun (u : World) => room_any room u)
  have HN := Lib.hid h.row.len
  have hlc := h.row.le
  have hcc := h.row.cap
  unfold maxLen at hcc
  have HL := Lib.hid h
  clear h
  go_enter Try.func3, Try.ntmps3
  by_cases h80 : 80 < n
  · have b1 : decide ((80 : Int) < (n : Int)) = true := decide_eq_true (by omega)
    go_wp2_with fail
    refine (HAW.out _).mono ?_
    rintro e w1 ⟨rfl, hb⟩
    have HB := Lib.hid hb
    clear hb
    go_wp2_with fail
    go_ret
    exact ⟨rfl, HB.out⟩
  have b1 : decide ((80 : Int) < (n : Int)) = false := decide_eq_false (by omega)
  have HNEW := Lib.hid (new_any room w)
  obtain ⟨R, hR⟩ : ∃ R, (newBag room).r = R := ⟨_, rfl⟩
  have e0 : newBag room = ⟨[], R, 0⟩ := by rw [← hR]; rfl
  rw [hR] at HRM
  rw [e0] at HNEW
  clear hR e0
  go_wp2_with fail
  refine HNEW.out.mono ?_
  rintro e w1 ⟨p, S, rfl, hI, hlS, hb⟩
  have hm0 : Mine (PlF w none 0 0 []) w1 p ⟨[], R, 0⟩ := ⟨S, hI, ⟨hlS, hb⟩, ⟨World.ownsRow_nil _ _ _ _, fun k e => by cases e⟩⟩
  have HM0 := Lib.hid hm0
  clear hI hlS hb hm0 HNEW b1
  unfold ptr
  go_wp2_with fail
  go_loopw [6, 7] (PlRel w p n R) (fun _ i _ => n - (intOf i).toNat)
  case atStart => exact ⟨0, [], none, 0, 0, rfl, Nat.zero_le _, rfl, (fun q hq => by cases hq), few_new 0 |>.more (Nat.le_refl _), HM0.out⟩
  case round =>
    obtain ⟨k, X, XA, xc, nx, hv7, hk, hv6, hX, hfew, hm⟩ := hrel
    subst hv7
    subst hv6
    by_cases hlt : k < n
    · obtain ⟨g, o, a, rfl, hg, ha, hrng⟩ := HL.out.row.at_ hlt
      have hrd := HL.out.byt a (List.mem_of_getElem? ha)
      obtain ⟨S, hI, hF⟩ := hm
      have hbw := hF.1.2
      obtain ⟨c0, c1, c2, c3, c4⟩ := five hrng
      rw [show o + k * LA.s = o + k * 5 from rfl] at c0 c1 c2 c3 c4
      have d0 := (hbw.cell (p := ⟨g, _, none⟩) hg).trans c0
      have d1 := (hbw.cell (p := ⟨g, _, none⟩) hg).trans c1
      have d2 := (hbw.cell (p := ⟨g, _, none⟩) hg).trans c2
      have d3 := (hbw.cell (p := ⟨g, _, none⟩) hg).trans c3
      have d4 := (hbw.cell (p := ⟨g, _, none⟩) hg).trans c4
      clear c0 c1 c2 c3 c4 hrng ha hbw
      obtain ⟨z, i, ⟨f, t, bs⟩, yA, yc⟩ := a
      simp only at d0 d1 d2 d3 d4 hrd
      obtain ⟨m, hm⟩ : ∃ m, bs.length = m := ⟨_, rfl⟩
      rw [hm] at d4 hrd
      have hba := bel_alloc (Below.refl wr.heap.size wr) (.cells #[.int .i64 z, .int .i64 i, .int .i64 f, .int .i64 t, .slice yA m yc] 31)
      have hk8 := Blk.new wr 31 #[.int .i64 z, .int .i64 i, .int .i64 f, .int .i64 t, .slice yA m yc]
      obtain ⟨U, hU⟩ : ∃ U, wr.alloc (.cells #[.int .i64 z, .int .i64 i, .int .i64 f, .int .i64 t, .slice yA m yc] 31) = U := ⟨_, rfl⟩
      have hlS := bi_low hI
      obtain ⟨b8, hb8⟩ : ∃ b8, wr.heap.size = b8 := ⟨_, rfl⟩
      have hn8 : ¬ S b8 := fun hs => by have := hlS _ hs; omega
      rw [hU] at hba hk8
      have hIU := bi_below hI hba
      have hFU := (frame_pl w XA X.length xc X).go hF (Keeps.ofBelow hba) (Grew.refl S wr)
      rw [hb8] at hk8
      obtain ⟨e0, e1, e2, e3, e4⟩ := blk5 hk8
      have HK8 := Lib.hid (And.intro hk8 (And.intro hn8 (show w.heap.size ≤ b8 by rw [← hb8]; exact hF.1.2.size)))
      have HU := Lib.hid (And.intro hU hb8)
      have HI := Lib.hid (And.intro hIU hFU)
      have HX := Lib.hid (And.intro hX hfew)
      have HRD := Lib.hid (And.intro hrd hm)
      have HWU := Lib.hid hba
      clear hI hF hba hk8 hU hlS hb8 hn8 hIU hFU hX hfew hrd hm hg
      go_upto_region 9 with fail
      rw [HU.out.1, HU.out.2]
      clear d0 d1 d2 d3 d4
      by_cases hbig : 100 < m
      · have b2 : decide ((100 : Int) < (m : Int)) = true := decide_eq_true (by omega)
        go_wp2_with fail
        refine (HAW.out _).mono ?_
        rintro e w2 ⟨rfl, hb⟩
        have HB := Lib.hid (HI.out.2.1.2.trans (hb.mono HI.out.2.1.2.size))
        clear hb
        go_wp2_with fail
        go_ret
        exact ⟨rfl, HB.out⟩
      have b2 : decide ((100 : Int) < (m : Int)) = false := decide_eq_false (by omega)
      obtain ⟨q, hq⟩ : ∃ q, X.length = q := ⟨_, rfl⟩
      have hxc : q ≤ xc ∧ xc ≤ 9223372036854775807 := by
        have h1 := Rw.own HI.out.2.2.1
        have h2 := h1.cap
        have h3 := h1.le
        unfold maxLen at h2
        rw [hq] at h3
        exact ⟨h3, h2⟩
      obtain ⟨fl, hfl⟩ : ∃ fl, decide (R ≤ (q : Int)) = fl := ⟨_, rfl⟩
      obtain ⟨ins, hin⟩ : ∃ ins, (decide (0 ≤ i) && decide (i < (q : Int))) = ins := ⟨_, rfl⟩
      have hins : (decide (0 ≤ i) = true ∧ decide (i < (q : Int)) = ins) ∨ (decide (0 ≤ i) = false ∧ ins = false) := by
        cases hd : decide (0 ≤ i) with
        | true => rw [hd, Bool.true_and] at hin; exact .inl ⟨rfl, hin⟩
        | false => rw [hd, Bool.false_and] at hin; exact .inr ⟨rfl, hin.symm⟩
      rw [hq]
      have HQ := Lib.hid (And.intro hq (And.intro hfl hin))
      clear hq hin
      go_upto_region 11 with fail
      go_cut [9] from 41 to 50 (fun v wx => v = .bool ins ∧ wx = U)
      case first =>
        rcases hins with ⟨b3, b4⟩ | ⟨b3, rfl⟩
        · clear b2 hfl
          go_wp2_with fail
          go_meet
          case rel => exact ⟨rfl, rfl⟩
        · clear b2 hfl
          go_wp2_with fail
          go_meet
          case rel => exact ⟨rfl, rfl⟩
      case rest =>
        obtain ⟨rfl, hwc⟩ := hcut
        replace hwc := hwc.symm
        subst hwc
        clear hins b2
        go_wp2_with fail
        refine (HRM.out _).mono ?_
        rintro e u2 ⟨rfl, hu⟩
        replace hu := hu.symm
        subst hu
        go_upto_block 2 with fail
        go_cut [6] from 56 to 166 (PlCut w p k R)
        case first =>
          have hfit := fits_fl (nx := nx) HQ.out.1 HQ.out.2.1
          have hfine := HX.out.2.fine (show k ≤ 1000 by omega)
          by_cases h0 : z = 0
          · subst h0
            have hput := put_any p S ⟨X.map (·.e), R, nx⟩ ⟨f, t, bs⟩ yA yc U HI.out.1 hfine (by rw [HRD.out.2]; exact HRD.out.1.below HI.out.2.1.2) (by show bs.length ≤ 1000; rw [HRD.out.2]; omega)
            unfold putB at hput
            rw [hfit] at hput
            simp only [HRD.out.2] at hput
            unfold ptr at hput
            clear hfit hfine hfl e0 e1
            have e0 : U.cell? ⟨b8, 0, none⟩ = some (.int .i64 0) := HK8.out.1.cell 0
            cases fl with
            | true =>
              rw [Bool.not_true, if_neg (by decide)] at hput
              have HP := Lib.hid hput
              clear hput
              go_wp2_with fail
              refine HP.out.mono ?_
              rintro e u3 ⟨rfl, hst⟩
              have hm3 := hst.mine (frame_pl w XA X.length xc X) HI.out.2
              have HM3 := Lib.hid hm3
              clear hst hm3 HP e0 e2 e3 e4
              go_wp2_with fail
              go_meet
              case rel => exact ⟨X, XA, xc, nx, by rw [HQ.out.1], HX.out.1, HX.out.2.more (Nat.le_succ _), HM3.out⟩
            | false =>
              rw [Bool.not_false, if_pos rfl] at hput
              have HP := Lib.hid hput
              clear hput
              go_wp2_with fail
              refine HP.out.mono ?_
              rintro e u3 ⟨rfl, S3, hI3, hg3, hk3⟩
              have hF3 := (frame_pl w XA X.length xc X).go HI.out.2 hk3 hg3
              have hk83 := ((frame_blk b8 _ _).go ⟨HK8.out.1, HK8.out.2.1⟩ hk3 hg3).1
              obtain ⟨_, _, e2, e3, e4⟩ := blk5 hk83
              rw [HQ.out.1] at hF3
              have hqk : q ≤ 1000 := by have h1 := HX.out.2.1; have h2 := HQ.out.1; rw [List.length_map] at h1; omega
              obtain ⟨i0, hi, hz0, hz1, hz2⟩ := info_parts info_env
              have hrA := hF3.2.1.alloc (.cells #[.int .i64 f, .int .i64 t, .slice yA m yc] 29)
              have hlit := Rw.lit (L := LN) u3 ⟨⟨f, t, bs⟩, yA, yc⟩ 29
              rw [show (LN.enc ⟨⟨f, t, bs⟩, yA, yc⟩).toArray = #[.int .i64 f, .int .i64 t, .slice yA m yc] from (by rw [← HRD.out.2]; rfl)] at hlit
              obtain ⟨V', c', u4, hrun, hown, hgr, hloc⟩ := run_append_rw (L := LN) (n := q) (m := 1) (ty := 26) (bytes := 40) Try.underlying26 hi hz0 hz1 hz2 rfl hrA hlit (by unfold maxLen; omega) (by omega) (by have h1 := hF3.1.2.size; rw [size_alloc]; omega)
              have hba3 := bel_alloc (Below.refl u3.heap.size u3) (.cells #[.int .i64 f, .int .i64 t, .slice yA m yc] 29)
              have hap := env_append (w := w) (bi_below hI3 hba3) ((frame_new w).go hF3.1 (Keeps.ofBelow hba3) (Grew.refl _ _)) ((frame_env _ _ _ _ _).go hF3.2 (Keeps.ofBelow hba3) (Grew.refl _ _)) hown hgr hloc
              have HRUN := Lib.hid hrun
              have HLOC := Lib.hid (loc_apart hloc hba3)
              have HAP := Lib.hid hap
              have HGR := Lib.hid (And.intro hgr hba3)
              clear hrA hlit hrun hown hgr hloc hba3 hap hi hz0 hz1 hz2
              clear hI3 hg3 hk3 hF3 hk83 HP e0
              go_wp2_with (first | (at_builtin; refine wpList_append_row rfl (.tmp 68) (.tmp 71) rfl HRUN.out ?_) | fail)
              go_meet
              case rel =>
                refine ⟨X ++ [⟨⟨f, t, bs⟩, yA, yc⟩], V', c', nx + 1, by rw [List.length_append, HQ.out.1]; rfl, fun y hy => ?_, ?_, S3, ?_, HAP.out.2.1, by rw [List.length_append, HQ.out.1]; exact HAP.out.2.2⟩
                · rcases List.mem_append.1 hy with hy | hy
                  · exact HX.out.1 y hy
                  · rw [List.mem_singleton.1 hy]
                    refine ⟨?_, ?_⟩
                    · show Rd w yA bs.length yc (cs bs)
                      rw [HRD.out.2]
                      exact HRD.out.1
                    · show bs.length ≤ 100
                      rw [HRD.out.2]
                      omega
                · have h1 := HX.out.2.put ⟨f, t, bs⟩ (by show bs.length ≤ 1000; rw [HRD.out.2]; omega)
                  unfold putB at h1
                  rw [fits_fl HQ.out.1 HQ.out.2.1, Bool.not_false, if_pos rfl] at h1
                  rw [List.map_append]
                  exact h1
                · rw [List.map_append]
                  exact HAP.out.1
          by_cases h1 : z = 1
          · subst h1
            have htk := take_any p S ⟨X.map (·.e), R, nx⟩ i U HI.out.1 hfine
            have e0 : U.cell? ⟨b8, 0, none⟩ = some (.int .i64 1) := HK8.out.1.cell 0
            clear hfit hfine hfl e2 e3 e4
            cases ins with
            | true =>
              obtain ⟨j, rfl, hjq⟩ := ins_yes HQ.out.2.2
              obtain ⟨x1, hx1⟩ : ∃ x, X[j]? = some x := ⟨_, List.getElem?_eq_getElem (by rw [HQ.out.1]; exact hjq)⟩
              rw [at_yes hx1, take_at] at htk
              unfold Shows at htk
              simp only [Option.getD_some, Option.isSome_some] at htk
              have hkn := HX.out.1 x1 (List.mem_of_getElem? hx1)
              obtain ⟨⟨f1, t1, b1⟩, x1A, x1c⟩ := x1
              simp only at htk
              obtain ⟨m1, hm1⟩ : ∃ m1, b1.length = m1 := ⟨_, rfl⟩
              rw [hm1] at htk
              unfold ptr at htk
              have HTK := Lib.hid htk
              have HX1 := Lib.hid (And.intro hx1 (And.intro hkn hm1))
              clear htk hx1 hkn hm1
              go_wp2_with fail
              refine HTK.out.mono ?_
              rintro e u2 ⟨⟨B1, d1, rfl, hby⟩, hI2, hk2⟩
              have hba := bel_alloc (Below.refl u2.heap.size u2) (.cells #[.int .i64 f1, .int .i64 t1, .slice B1 m1 d1] 29)
              have hke := Blk.new u2 29 #[.int .i64 f1, .int .i64 t1, .slice B1 m1 d1]
              have hbyU := hby.alloc (.cells #[.int .i64 f1, .int .i64 t1, .slice B1 m1 d1] 29)
              obtain ⟨U2, hU2⟩ : ∃ U2, u2.alloc (.cells #[.int .i64 f1, .int .i64 t1, .slice B1 m1 d1] 29) = U2 := ⟨_, rfl⟩
              rw [hU2] at hba hke hbyU
              have hF2 := (frame_pl w XA X.length xc X).go HI.out.2 hk2 (Grew.refl S U)
              have hF2U := (frame_pl w XA X.length xc X).go hF2 (Keeps.ofBelow (Below.drew hba)) (Grew.refl S u2)
              have hI2U := bi_below hI2 (Below.drew hba)
              have hk8U := ((frame_blk b8 _ _).go ((frame_blk b8 _ _).go ⟨HK8.out.1, HK8.out.2.1⟩ hk2 (Grew.refl S U)) (Keeps.ofBelow (Below.drew hba)) (Grew.refl S u2)).1
              rw [HQ.out.1] at hF2U
              obtain ⟨gx, rfl, hgx, hrx⟩ := hF2U.2.at_ HX1.out.1 hjq
              have hb8l := hk8U.lt
              have e8 := hk8U.cell 1
              simp only [List.getElem?_toArray, List.getElem?_cons_succ, List.getElem?_cons_zero] at e8
              have hrx2 : U2.drew.rangeAt gx (j * 3) [.int .i64 f1, .int .i64 t1, .slice x1A m1 x1c] := by rw [← HX1.out.2.2]; exact hrx
              have hsame : Calls Try.prog 11 #[.agg #[.int .i64 f1, .int .i64 t1, .slice B1 b1.length d1], .agg #[.int .i64 f1, .int .i64 t1, .slice x1A b1.length x1c]] U2.drew (Tells true U2.drew) :=
                refsame_any ⟨f1, t1, b1⟩ B1 x1A d1 x1c U2.drew (by rw [← HX1.out.2.2] at hbyU; exact (Rd.own hbyU).drew) (HX1.out.2.1.1.below hF2U.1.2)
              rw [HX1.out.2.2] at hsame
              have HSAME := Lib.hid hsame
              have HS0 := Lib.hid (show Blk U2.drew u2.heap.size 29 #[.int .i64 f1, .int .i64 t1, .slice B1 m1 d1] ∧ U2.drew.cell? ⟨b8, 1, none⟩ = some (.int .i64 (j : Int)) ∧ U2.drew.rangeAt gx (j * 3) [.int .i64 f1, .int .i64 t1, .slice x1A m1 x1c] from ⟨hke.drew, e8, hrx2⟩)
              have HGL := Lib.hid (And.intro hgx hb8l)
              have HPL := Lib.hid (And.intro hI2U hF2U)
              have HU2 := Lib.hid hU2
              have hqk : q ≤ 1000 := by have h1 := HX.out.2.1; have h2 := HQ.out.1; rw [List.length_map] at h1; omega
              have hxl : q ≤ xc := hxc.1
              clear hby hI2 hk2 hba hke hbyU hU2 hF2 hF2U hI2U hk8U hgx hrx hb8l hrx2 hsame HTK e0 e1
              go_upto_region 21 with fail
              rw [HU2.out]
              clear e8
              refine wp_region_held_drew (S := (fun w' => Blk w' u2.heap.size 29 #[.int .i64 f1, .int .i64 t1, .slice B1 m1 d1] ∧ w'.cell? ⟨b8, 1, none⟩ = some (.int .i64 (j : Int)) ∧ w'.rangeAt gx (j * 3) [.int .i64 f1, .int .i64 t1, .slice x1A m1 x1c])) (by kernel_rfl) (by first | (with_reducible exact HS5.out) | (with_reducible exact HS0.out)) (fun hHeld => ?_)
              refine held_take (i := 0) (d := 82) (v := (.bool true)) rfl rfl (by kernel_rfl) (by kernel_rfl) (by kernel_rfl) (fun _ _ _ h => h) (by kernel_rfl) (fun w hSw => by (obtain ⟨hS0, hS1, hS2⟩ := hSw); go_simp) hHeld ?_
              try simp only [List.setIfInBounds_toArray, List.set_cons_zero, List.set_cons_succ]
              refine held_take (i := 1) (d := 83) (v := (.bool true)) rfl rfl (by kernel_rfl) (by kernel_rfl) (by kernel_rfl) (fun _ _ _ h => h) (by kernel_rfl) (fun w hSw => by (obtain ⟨hS0, hS1, hS2⟩ := hSw); go_simp) hHeld ?_
              try simp only [List.setIfInBounds_toArray, List.set_cons_zero, List.set_cons_succ]
              refine held_take (i := 2) (d := 84) (v := (.bool false)) rfl rfl (by kernel_rfl) (by kernel_rfl) (by kernel_rfl) (fun _ _ _ h => h) (by kernel_rfl) (fun w hSw => by (obtain ⟨hS0, hS1, hS2⟩ := hSw); go_simp) hHeld ?_
              try simp only [List.setIfInBounds_toArray, List.set_cons_zero, List.set_cons_succ]
              refine held_take (i := 3) (d := 85) (v := (.bool false)) rfl rfl (by kernel_rfl) (by kernel_rfl) (by kernel_rfl) (fun _ _ _ h => h) (by kernel_rfl) (fun w hSw => by (obtain ⟨hS0, hS1, hS2⟩ := hSw); go_simp) hHeld ?_
              try simp only [List.setIfInBounds_toArray, List.set_cons_zero, List.set_cons_succ]
              refine held_take (i := 4) (d := 86) (v := (.bool true)) rfl rfl (by kernel_rfl) (by kernel_rfl) (by kernel_rfl) (fun _ _ _ h => h) (by kernel_rfl) (fun w hSw => by (obtain ⟨hS0, hS1, hS2⟩ := hSw); go_simp) hHeld ?_
              try simp only [List.setIfInBounds_toArray, List.set_cons_zero, List.set_cons_succ]
              refine held_take (i := 5) (d := 87) (v := (.bool true)) rfl rfl (by kernel_rfl) (by kernel_rfl) (by kernel_rfl) (fun _ _ _ h => h) (by kernel_rfl) (fun w hSw => by (obtain ⟨hS0, hS1, hS2⟩ := hSw); go_simp) hHeld ?_
              try simp only [List.setIfInBounds_toArray, List.set_cons_zero, List.set_cons_succ]
              refine held_take (i := 6) (d := 88) (v := (.agg #[.int .i64 f1, .int .i64 t1, .slice B1 m1 d1])) rfl rfl (by kernel_rfl) (by kernel_rfl) (by kernel_rfl) (fun _ _ _ h => h) (by kernel_rfl) (run_load_blk 29 (.tmp 11) rfl u2.heap.size 29 _ _ rfl (fun w hSw => hSw.1) Try.underlying29 rfl (by kernel_rfl)) hHeld ?_
              try simp only [List.setIfInBounds_toArray, List.set_cons_zero, List.set_cons_succ]
              refine held_take (i := 7) (d := 89) (v := (.slice (some ⟨gx, 0, none⟩) q xc)) rfl rfl (by kernel_rfl) (by kernel_rfl) (by kernel_rfl) (fun _ _ _ h => h) (by kernel_rfl) (fun w hSw => by (obtain ⟨hS0, hS1, hS2⟩ := hSw); go_simp) hHeld ?_
              try simp only [List.setIfInBounds_toArray, List.set_cons_zero, List.set_cons_succ]
              refine held_take (i := 8) (d := 90) (v := (.pointer (some ⟨b8, 1, none⟩))) rfl rfl (by kernel_rfl) (by kernel_rfl) (by kernel_rfl) (fun _ _ _ h => h) (by kernel_rfl) (fun w hSw => by (obtain ⟨hS0, hS1, hS2⟩ := hSw); go_simp) hHeld ?_
              try simp only [List.setIfInBounds_toArray, List.set_cons_zero, List.set_cons_succ]
              refine held_take (i := 9) (d := 91) (v := (.int .i64 (j : Int))) rfl rfl (by kernel_rfl) (by kernel_rfl) (by kernel_rfl) (fun _ _ _ h => h) (by kernel_rfl) (fun w hSw => by (obtain ⟨hS0, hS1, hS2⟩ := hSw); go_simp) hHeld ?_
              try simp only [List.setIfInBounds_toArray, List.set_cons_zero, List.set_cons_succ]
              refine held_take (i := 10) (d := 92) (v := (.pointer (some ⟨gx, j * 3, none⟩))) rfl rfl (by kernel_rfl) (by kernel_rfl) (by kernel_rfl) (fun _ _ _ h => h) (by kernel_rfl) (fun w hSw => by (obtain ⟨hS0, hS1, hS2⟩ := hSw); go_simp) hHeld ?_
              try simp only [List.setIfInBounds_toArray, List.set_cons_zero, List.set_cons_succ]
              refine held_take (i := 11) (d := 93) (v := (.agg #[.int .i64 f1, .int .i64 t1, .slice x1A m1 x1c])) rfl rfl (by kernel_rfl) (by kernel_rfl) (by kernel_rfl) (fun _ _ _ h => h) (by kernel_rfl) (run_load_row 29 (.tmp 92) rfl gx (j * 3) [.int .i64 f1, .int .i64 t1, .slice x1A m1 x1c] _ rfl (fun w hSw => hSw.2.2) Try.underlying29 rfl (by kernel_rfl)) hHeld ?_
              try simp only [List.setIfInBounds_toArray, List.set_cons_zero, List.set_cons_succ]
              refine wpAnyH_ready (rs := [12]) (by kernel_rfl) (by simp) ?_
              refine AllReadyH.cons rfl (fun K hK => ?_) AllReadyH.nil
              go_simp
              go_at_call 11
              (with_reducible refine HSAME.out.mono ?_)
              rintro e u5 ⟨rfl, hb5⟩
              have HS5 := Lib.hid (show Blk u5 u2.heap.size 29 #[.int .i64 f1, .int .i64 t1, .slice B1 m1 d1] ∧ u5.cell? ⟨b8, 1, none⟩ = some (.int .i64 (j : Int)) ∧ u5.rangeAt gx (j * 3) [.int .i64 f1, .int .i64 t1, .slice x1A m1 x1c] from ⟨HS0.out.1.bel hb5, (hb5.cell (p := ⟨b8, 1, none⟩) HGL.out.2).trans HS0.out.2.1, fun v u hu => (hb5.cell (p := ⟨gx, _, none⟩) HGL.out.1).trans (HS0.out.2.2 v u hu)⟩)
              have HB5 := Lib.hid hb5
              clear hb5
              refine hK.out _ _ (by first | (with_reducible exact HS5.out) | (with_reducible exact HS0.out)) (fun hHeld => ?_)
              clear hK K
              refine held_take (i := 13) (d := 95) (v := (.bool false)) rfl rfl (by kernel_rfl) (by kernel_rfl) (by kernel_rfl) (fun _ _ _ h => h) (by kernel_rfl) (fun w hSw => by (obtain ⟨hS0, hS1, hS2⟩ := hSw); go_simp) hHeld ?_
              try simp only [List.setIfInBounds_toArray, List.set_cons_zero, List.set_cons_succ]
              refine held_take (i := 14) (d := 96) (v := (.bool false)) rfl rfl (by kernel_rfl) (by kernel_rfl) (by kernel_rfl) (fun _ _ _ h => h) (by kernel_rfl) (fun w hSw => by (obtain ⟨hS0, hS1, hS2⟩ := hSw); go_simp) hHeld ?_
              try simp only [List.setIfInBounds_toArray, List.set_cons_zero, List.set_cons_succ]
              refine held_take (i := 15) (d := 97) (v := (.bool false)) rfl rfl (by kernel_rfl) (by kernel_rfl) (by kernel_rfl) (fun _ _ _ h => h) (by kernel_rfl) (fun w hSw => by (obtain ⟨hS0, hS1, hS2⟩ := hSw); go_simp) hHeld ?_
              try simp only [List.setIfInBounds_toArray, List.set_cons_zero, List.set_cons_succ]
              refine wpAnyH_done (by kernel_rfl) ?_ _
              have hF5 := (frame_pl w (some ⟨gx, 0, none⟩) q xc X).go HPL.out.2 (Keeps.ofBelow HB5.out) (Grew.refl S _)
              have hI5 := bi_below HPL.out.1 HB5.out
              have e1 := HS5.out.2.1
              have hou := out_any (some ⟨gx, 0, none⟩) q xc j X u5 (Rw.own hF5.2.1) hjq (by omega)
              have HOU := Lib.hid hou
              have HP5 := Lib.hid (And.intro hI5 hF5)
              clear hF5 hI5 hou HSAME HS0
              go_wp2_with fail
              refine HOU.out.mono ?_
              rintro e u6 ⟨V6, d6, rfl, ho6, hb6⟩
              have hI6 := bi_below HP5.out.1 hb6
              have hN6 := (frame_new w).go HP5.out.2.1 (Keeps.ofBelow hb6) (Grew.refl S u5)
              have hlS := bi_low HP5.out.1
              have H6 := Lib.hid (And.intro hI6 (And.intro hN6 (And.intro ho6 hlS)))
              clear hI6 hN6 ho6 hlS hb6 HOU e1
              go_wp2_with fail
              go_meet
              case rel =>
                have hle : (X.eraseIdx j).length = q - 1 := by rw [List.length_eraseIdx, HQ.out.1, if_pos hjq]
                refine ⟨X.eraseIdx j, V6, d6, nx, by rw [hle], fun y hy => HX.out.1 y (List.mem_of_mem_eraseIdx hy), ?_, S, H6.out.1, H6.out.2.1, ?_⟩
                · have h1 := (HX.out.2.take (j : Int)).more (Nat.le_succ k)
                  rw [take_at] at h1
                  exact h1
                · rw [hle]
                  refine ⟨own_low H6.out.2.2.1 HP5.out.2.1.2.size, fun k e hs => ?_⟩
                  have h1 := (H6.out.2.2.1.lt k e).1
                  have h2 := H6.out.2.2.2 k hs
                  omega
            | false =>
              rw [ins_no HQ.out.1 HQ.out.2.2] at htk
              have hte : takeB i ⟨X.map (·.e), R, nx⟩ = ⟨X.map (·.e), R, nx⟩ := by
                have h1 := HQ.out.2.2
                refine take_none ?_
                show i < 0 ∨ ((X.map (·.e)).length : Int) ≤ i
                rw [List.length_map, HQ.out.1]
                by_cases hi0 : 0 ≤ i
                · rw [decide_eq_true hi0, Bool.true_and, decide_eq_false_iff_not] at h1
                  exact .inr (by omega)
                · exact .inl (by omega)
              rw [hte] at htk
              unfold Shows noEn at htk
              simp only [Option.getD_none, Option.isSome_none, List.length_nil] at htk
              unfold ptr at htk
              have HTK := Lib.hid htk
              clear htk hte
              go_wp2_with fail
              refine HTK.out.mono ?_
              rintro e u2 ⟨⟨B1, d1, rfl, hby⟩, hI2, hk2⟩
              have hba := bel_alloc (Below.refl u2.heap.size u2) (.cells #[.int .i64 0, .int .i64 0, .slice B1 0 d1] 29)
              have hke := Blk.new u2 29 #[.int .i64 0, .int .i64 0, .slice B1 0 d1]
              have hbyU := hby.alloc (.cells #[.int .i64 0, .int .i64 0, .slice B1 0 d1] 29)
              obtain ⟨U2, hU2⟩ : ∃ U2, u2.alloc (.cells #[.int .i64 0, .int .i64 0, .slice B1 0 d1] 29) = U2 := ⟨_, rfl⟩
              rw [hU2] at hba hke hbyU
              have hF2 := (frame_pl w XA X.length xc X).go HI.out.2 hk2 (Grew.refl S U)
              have hF2U := (frame_pl w XA X.length xc X).go hF2 (Keeps.ofBelow (Below.drew hba)) (Grew.refl S u2)
              have hI2U := bi_below hI2 (Below.drew hba)
              have HPL := Lib.hid (And.intro hI2U hF2U)
              have HU2 := Lib.hid hU2
              have HS0 := Lib.hid (show True from trivial)
              clear hby hI2 hk2 hba hke hbyU hU2 hF2 hF2U hI2U HTK e0 e1
              go_upto_region 21 with fail
              rw [HU2.out]
              refine wp_region_held_drew (S := (fun _ => True)) (by kernel_rfl) (by first | (with_reducible exact HS0.out) | (with_reducible exact HS0.out)) (fun hHeld => ?_)
              refine held_take (i := 0) (d := 82) (v := (.bool false)) rfl rfl (by kernel_rfl) (by kernel_rfl) (by kernel_rfl) (fun _ _ _ h => h) (by kernel_rfl) (fun w hSw => by (obtain _ := hSw); go_simp) hHeld ?_
              try simp only [List.setIfInBounds_toArray, List.set_cons_zero, List.set_cons_succ]
              refine held_take (i := 1) (d := 83) (v := (.bool false)) rfl rfl (by kernel_rfl) (by kernel_rfl) (by kernel_rfl) (fun _ _ _ h => h) (by kernel_rfl) (fun w hSw => by (obtain _ := hSw); go_simp) hHeld ?_
              try simp only [List.setIfInBounds_toArray, List.set_cons_zero, List.set_cons_succ]
              refine held_take (i := 2) (d := 84) (v := (.bool false)) rfl rfl (by kernel_rfl) (by kernel_rfl) (by kernel_rfl) (fun _ _ _ h => h) (by kernel_rfl) (fun w hSw => by (obtain _ := hSw); go_simp) hHeld ?_
              try simp only [List.setIfInBounds_toArray, List.set_cons_zero, List.set_cons_succ]
              refine held_take (i := 3) (d := 85) (v := (.bool false)) rfl rfl (by kernel_rfl) (by kernel_rfl) (by kernel_rfl) (fun _ _ _ h => h) (by kernel_rfl) (fun w hSw => by (obtain _ := hSw); go_simp) hHeld ?_
              try simp only [List.setIfInBounds_toArray, List.set_cons_zero, List.set_cons_succ]
              refine held_take (i := 4) (d := 86) (v := (.bool false)) rfl rfl (by kernel_rfl) (by kernel_rfl) (by kernel_rfl) (fun _ _ _ h => h) (by kernel_rfl) (fun w hSw => by (obtain _ := hSw); go_simp) hHeld ?_
              try simp only [List.setIfInBounds_toArray, List.set_cons_zero, List.set_cons_succ]
              refine held_take (i := 5) (d := 87) (v := (.bool false)) rfl rfl (by kernel_rfl) (by kernel_rfl) (by kernel_rfl) (fun _ _ _ h => h) (by kernel_rfl) (fun w hSw => by (obtain _ := hSw); go_simp) hHeld ?_
              try simp only [List.setIfInBounds_toArray, List.set_cons_zero, List.set_cons_succ]
              refine held_skip (i := 6) (d := 88) rfl rfl (by kernel_rfl) (by kernel_rfl) (by kernel_rfl) (fun _ _ _ h => h) (by kernel_rfl) hHeld ?_
              try simp only [List.setIfInBounds_toArray, List.set_cons_zero, List.set_cons_succ]
              refine held_skip (i := 7) (d := 89) rfl rfl (by kernel_rfl) (by kernel_rfl) (by kernel_rfl) (fun _ _ _ h => h) (by kernel_rfl) hHeld ?_
              try simp only [List.setIfInBounds_toArray, List.set_cons_zero, List.set_cons_succ]
              refine held_skip (i := 8) (d := 90) rfl rfl (by kernel_rfl) (by kernel_rfl) (by kernel_rfl) (fun _ _ _ h => h) (by kernel_rfl) hHeld ?_
              try simp only [List.setIfInBounds_toArray, List.set_cons_zero, List.set_cons_succ]
              refine held_skip (i := 9) (d := 91) rfl rfl (by kernel_rfl) (by kernel_rfl) (by kernel_rfl) (fun _ _ _ h => h) (by kernel_rfl) hHeld ?_
              try simp only [List.setIfInBounds_toArray, List.set_cons_zero, List.set_cons_succ]
              refine held_skip (i := 10) (d := 92) rfl rfl (by kernel_rfl) (by kernel_rfl) (by kernel_rfl) (fun _ _ _ h => h) (by kernel_rfl) hHeld ?_
              try simp only [List.setIfInBounds_toArray, List.set_cons_zero, List.set_cons_succ]
              refine held_skip (i := 11) (d := 93) rfl rfl (by kernel_rfl) (by kernel_rfl) (by kernel_rfl) (fun _ _ _ h => h) (by kernel_rfl) hHeld ?_
              try simp only [List.setIfInBounds_toArray, List.set_cons_zero, List.set_cons_succ]
              refine held_skip (i := 12) (d := 94) rfl rfl (by kernel_rfl) (by kernel_rfl) (by kernel_rfl) (fun _ _ _ h => h) (by kernel_rfl) hHeld ?_
              try simp only [List.setIfInBounds_toArray, List.set_cons_zero, List.set_cons_succ]
              refine held_skip (i := 13) (d := 95) rfl rfl (by kernel_rfl) (by kernel_rfl) (by kernel_rfl) (fun _ _ _ h => h) (by kernel_rfl) hHeld ?_
              try simp only [List.setIfInBounds_toArray, List.set_cons_zero, List.set_cons_succ]
              refine held_take (i := 14) (d := 96) (v := (.bool false)) rfl rfl (by kernel_rfl) (by kernel_rfl) (by kernel_rfl) (fun _ _ _ h => h) (by kernel_rfl) (fun w hSw => by (obtain _ := hSw); go_simp) hHeld ?_
              try simp only [List.setIfInBounds_toArray, List.set_cons_zero, List.set_cons_succ]
              refine held_take (i := 15) (d := 97) (v := (.bool false)) rfl rfl (by kernel_rfl) (by kernel_rfl) (by kernel_rfl) (fun _ _ _ h => h) (by kernel_rfl) (fun w hSw => by (obtain _ := hSw); go_simp) hHeld ?_
              try simp only [List.setIfInBounds_toArray, List.set_cons_zero, List.set_cons_succ]
              refine wpAnyH_done (by kernel_rfl) ?_ _
              go_wp2_with fail
              go_meet
              case rel => exact ⟨X, XA, xc, nx, by rw [HQ.out.1], HX.out.1, HX.out.2.more (Nat.le_succ _), S, HPL.out.1, HPL.out.2⟩
          by_cases h2 : z = 2
          · subst h2
            have htw := twice_any p S ⟨X.map (·.e), R, nx⟩ i U HI.out.1 hfine
            have e0 : U.cell? ⟨b8, 0, none⟩ = some (.int .i64 2) := HK8.out.1.cell 0
            rw [hfit] at htw
            unfold twiceB at htw
            unfold ptr at htw
            clear hfit hfine hfl e2 e3 e4
            cases ins with
            | false =>
              rw [ins_no HQ.out.1 HQ.out.2.2] at htw
              simp only [Option.isSome_none, Bool.false_and] at htw
              have HTW := Lib.hid htw
              clear htw
              go_wp2_with fail
              refine HTW.out.mono ?_
              rintro e u3 ⟨rfl, hst⟩
              have HM3 := Lib.hid (hst.mine (frame_pl w XA X.length xc X) HI.out.2)
              clear hst HTW e0 e1
              go_wp2_with fail
              go_meet
              case rel => exact ⟨X, XA, xc, nx, by rw [HQ.out.1], HX.out.1, HX.out.2.more (Nat.le_succ _), HM3.out⟩
            | true =>
              obtain ⟨j, rfl, hjq⟩ := ins_yes HQ.out.2.2
              obtain ⟨x1, hx1⟩ : ∃ x, X[j]? = some x := ⟨_, List.getElem?_eq_getElem (by rw [HQ.out.1]; exact hjq)⟩
              rw [at_yes hx1] at htw
              simp only [Option.isSome_some, Bool.true_and] at htw
              unfold putB at htw
              rw [fits_fl HQ.out.1 HQ.out.2.1] at htw
              cases fl with
              | true =>
                rw [Bool.not_true, if_neg (by decide)] at htw
                have HTW := Lib.hid htw
                clear htw hx1
                go_wp2_with fail
                refine HTW.out.mono ?_
                rintro e u3 ⟨rfl, hst⟩
                have HM3 := Lib.hid (hst.mine (frame_pl w XA X.length xc X) HI.out.2)
                clear hst HTW e0 e1
                go_wp2_with fail
                go_meet
                case rel => exact ⟨X, XA, xc, nx, by rw [HQ.out.1], HX.out.1, HX.out.2.more (Nat.le_succ _), HM3.out⟩
              | false =>
                rw [Bool.not_false, if_pos rfl] at htw
                have HTW := Lib.hid htw
                have hkn := HX.out.1 x1 (List.mem_of_getElem? hx1)
                clear htw
                go_wp2_with fail
                refine HTW.out.mono ?_
                rintro e u3 ⟨rfl, S3, hI3, hg3, hk3⟩
                have hF3 := (frame_pl w XA X.length xc X).go HI.out.2 hk3 hg3
                have hk83 := ((frame_blk b8 _ _).go ⟨HK8.out.1, HK8.out.2.1⟩ hk3 hg3).1
                have e8 := hk83.cell 1
                simp only [List.getElem?_toArray, List.getElem?_cons_succ, List.getElem?_cons_zero] at e8
                rw [HQ.out.1] at hF3
                have hqk : q ≤ 1000 := by have h1 := HX.out.2.1; have h2 := HQ.out.1; rw [List.length_map] at h1; omega
                obtain ⟨gx, rfl, hgx, hrx⟩ := hF3.2.at_ hx1 hjq
                obtain ⟨x0, x1', x2⟩ := three hrx
                have HX1 := Lib.hid (And.intro hx1 hkn)
                obtain ⟨⟨f1, t1, b1⟩, x1A, x1c⟩ := x1
                simp only at x0 x1' x2
                obtain ⟨m1, hm1⟩ : ∃ m1, b1.length = m1 := ⟨_, rfl⟩
                rw [hm1] at x2
                obtain ⟨i0, hi, hz0, hz1, hz2⟩ := info_parts info_env
                have hrA := hF3.2.1.alloc (.cells #[.int .i64 f1, .int .i64 t1, .slice x1A m1 x1c] 29)
                have hlit := Rw.lit (L := LN) u3 ⟨⟨f1, t1, b1⟩, x1A, x1c⟩ 29
                rw [show (LN.enc ⟨⟨f1, t1, b1⟩, x1A, x1c⟩).toArray = #[.int .i64 f1, .int .i64 t1, .slice x1A m1 x1c] from (by rw [← hm1]; rfl)] at hlit
                obtain ⟨V', c', u4, hrun, hown, hgr, hloc⟩ := run_append_rw (L := LN) (n := q) (m := 1) (ty := 26) (bytes := 40) Try.underlying26 hi hz0 hz1 hz2 rfl hrA hlit (by unfold maxLen; omega) (by omega) (by have h1 := hF3.1.2.size; rw [size_alloc]; omega)
                have hba3 := bel_alloc (Below.refl u3.heap.size u3) (.cells #[.int .i64 f1, .int .i64 t1, .slice x1A m1 x1c] 29)
                have hap := env_append (w := w) (bi_below hI3 hba3) ((frame_new w).go hF3.1 (Keeps.ofBelow hba3) (Grew.refl _ _)) ((frame_env _ _ _ _ _).go hF3.2 (Keeps.ofBelow hba3) (Grew.refl _ _)) hown hgr hloc
                have HRUN := Lib.hid hrun
                have HLOC := Lib.hid (loc_apart hloc hba3)
                have HAP := Lib.hid hap
                have HGR := Lib.hid (And.intro hgr hba3)
                clear hrA hlit hrun hown hgr hloc hba3 hap hi hz0 hz1 hz2
                clear hI3 hg3 hk3 hF3 hk83 HTW e0 e1 hx1 hkn hrx hm1
                go_wp2_with (first | (at_builtin; refine wpList_append_row rfl (.tmp 120) (.tmp 126) rfl HRUN.out ?_) | fail)
                go_meet
                case rel =>
                  refine ⟨X ++ [⟨⟨f1, t1, b1⟩, x1A, x1c⟩], V', c', nx + 1, by rw [List.length_append, HQ.out.1]; rfl, fun y hy => ?_, ?_, S3, ?_, HAP.out.2.1, by rw [List.length_append, HQ.out.1]; exact HAP.out.2.2⟩
                  · rcases List.mem_append.1 hy with hy | hy
                    · exact HX.out.1 y hy
                    · rw [List.mem_singleton.1 hy]
                      exact HX1.out.2
                  · have h1 := HX.out.2.put ⟨f1, t1, b1⟩ (by have h := HX1.out.2.2; show b1.length ≤ 1000; exact Nat.le_trans h (by decide))
                    unfold putB at h1
                    rw [fits_fl HQ.out.1 HQ.out.2.1, Bool.not_false, if_pos rfl] at h1
                    rw [List.map_append]
                    exact h1
                  · rw [List.map_append]
                    exact HAP.out.1
          by_cases h3 : z = 3
          · subst h3
            have hfl3 := filter_any p S ⟨X.map (·.e), R, nx⟩ t U HI.out.1 hfine
            rw [keep_at] at hfl3
            have e0 : U.cell? ⟨b8, 0, none⟩ = some (.int .i64 3) := HK8.out.1.cell 0
            obtain ⟨Y, hY⟩ : ∃ Y, (X.filter fun x => !decide (x.e.t = t)) = Y := ⟨_, rfl⟩
            obtain ⟨yl, hyl⟩ : ∃ yl, Y.length = yl := ⟨_, rfl⟩
            have hyq : yl ≤ q := by rw [← hyl, ← hY, ← HQ.out.1]; exact List.length_filter_le _ _
            have hqk : q ≤ 1000 := by have h1 := HX.out.2.1; have h2 := HQ.out.1; rw [List.length_map] at h1; omega
            rw [hY] at hfl3
            simp only [List.length_map, HQ.out.1, hyl] at hfl3
            have hsub : IntKind.i64.wrap ((q : Int) - (yl : Int)) = (q : Int) - (yl : Int) := wr64 (by omega) (by omega)
            obtain ⟨N, hN⟩ : ∃ N : Int, (q : Int) - (yl : Int) = N := ⟨_, rfl⟩
            rw [hN] at hfl3 hsub
            unfold ptr at hfl3
            have HFL := Lib.hid hfl3
            have HY := Lib.hid (And.intro hY (And.intro hyl hN))
            clear hfit hfine hfl hfl3 hY hyl hN e1 e2 e4
            go_wp2_with fail
            refine HFL.out.mono ?_
            rintro e u3 ⟨rfl, hI3, hk3⟩
            have hF3 := (frame_pl w XA X.length xc X).go HI.out.2 hk3 (Grew.refl S U)
            have hB3 := (frame_blk b8 _ _).go ⟨HK8.out.1, HK8.out.2.1⟩ hk3 (Grew.refl S U)
            rw [HQ.out.1] at hF3
            have H3 := Lib.hid (And.intro hI3 (And.intro hF3 hB3))
            clear hI3 hk3 hF3 hB3 HFL e0 e3
            go_wp2_with fail
            go_loopw [14, 15] (YRel w p b8 q xc XA X #[.int .i64 3, .int .i64 i, .int .i64 f, .int .i64 t, .slice yA m yc] t ⟨Y.map (·.e), R, nx⟩) (fun _ v _ => q - (intOf v).toNat)
            case atStart => exact ⟨0, none, 0, 0, S, rfl, Nat.zero_le _, rfl, rfl, H3.out.1, H3.out.2.1, H3.out.2.2, ⟨World.ownsRow_nil _ _ _ _, fun k e => by cases e⟩, fun j hj => by cases hj⟩
            case round =>
              obtain ⟨k2, YA, yk, yc2, S4, hv15, hk2, hv14, hyk, hI4, hF4, hB4, hE4, hap4⟩ := hrel
              subst hv15
              subst hv14
              by_cases hlt2 : k2 < q
              · obtain ⟨x1, hx1⟩ : ∃ x, X[k2]? = some x := ⟨_, List.getElem?_eq_getElem (by rw [HQ.out.1]; exact hlt2)⟩
                obtain ⟨gx, rfl, hgx, hrx⟩ := hF4.2.at_ hx1 hlt2
                obtain ⟨x0, x1', x2⟩ := three hrx
                have e3 := hB4.1.cell 3
                simp only [List.getElem?_toArray, List.getElem?_cons_succ, List.getElem?_cons_zero] at e3
                have hykq : yk ≤ q := by rw [← hyk]; have h1 := List.length_filter_le (fun x : Pn => !decide (x.e.t = t)) (X.take k2); have h2 := List.length_take_le k2 X; omega
                have HX1 := Lib.hid hx1
                obtain ⟨⟨f1, t1, b1⟩, x1A, x1c⟩ := x1
                simp only at x0 x1' x2
                obtain ⟨m1, hm1⟩ : ∃ m1, b1.length = m1 := ⟨_, rfl⟩
                rw [hm1] at x2
                have H4 := Lib.hid (And.intro hI4 (And.intro hF4 (And.intro hB4 (And.intro hE4 (And.intro hap4 hyk)))))
                clear hI4 hF4 hB4 hE4 hap4 hyk hx1 hrx
                by_cases hto : t1 = t
                · have b5 : (t1 != t) = false := by simp [hto]
                  have HT := Lib.hid hto
                  clear hto
                  go_upto_region 36 with fail
                  go_quiet (fail)
                  go_wp2_with fail
                  go_roundw
                  case rel =>
                    have hbd : Below wr.heap.size wr (wr.drewN nq) := below_drewN (Below.refl _ _) nq
                    have hft := filter_noN (f := fun x => !decide (x.e.t = t)) HX1.out (by simp [HT.out])
                    exact ⟨k2 + 1, YA, yk, yc2, S4, by simp, by omega, rfl, by rw [hft]; exact H4.out.2.2.2.2.2, bi_below H4.out.1 hbd, (frame_pl _ _ _ _ _).go H4.out.2.1 (Keeps.ofBelow hbd) (Grew.refl _ _), (frame_blk _ _ _).go H4.out.2.2.1 (Keeps.ofBelow hbd) (Grew.refl _ _), by rw [hft]; exact (frame_env _ _ _ _ _).go H4.out.2.2.2.1 (Keeps.ofBelow hbd) (Grew.refl _ _), H4.out.2.2.2.2.1⟩
                  case measure =>
                    simp [intOf]
                    omega
                · have b5 : (t1 != t) = true := by simp [hto]
                  have HT := Lib.hid hto
                  clear hto
                  go_upto_region 36 with fail
                  go_quiet (fail)
                  go_upto_region 37 with fail
                  have hbd : Below wr.heap.size wr (wr.drewN nq) := below_drewN (Below.refl _ _) nq
                  obtain ⟨u3', hu3'⟩ : ∃ v, wr.drewN nq = v := ⟨_, rfl⟩
                  rw [hu3'] at hbd
                  rw [hu3']
                  have hIx := bi_below H4.out.1 hbd
                  have hFx := (frame_pl _ _ _ _ _).go H4.out.2.1 (Keeps.ofBelow hbd) (Grew.refl _ _)
                  have hBx := (frame_blk _ _ _).go H4.out.2.2.1 (Keeps.ofBelow hbd) (Grew.refl _ _)
                  have hEx := (frame_env _ _ _ _ _).go H4.out.2.2.2.1 (Keeps.ofBelow hbd) (Grew.refl _ _)
                  have y0 := (hbd.cell (p := ⟨gx, _, none⟩) hgx).trans x0
                  have y1 := (hbd.cell (p := ⟨gx, _, none⟩) hgx).trans x1'
                  have y2 := (hbd.cell (p := ⟨gx, _, none⟩) hgx).trans x2
                  clear x0 x1' x2 e3
                  obtain ⟨i0, hi, hz0, hz1, hz2⟩ := info_parts info_env
                  have hrA := hEx.1.alloc (.cells #[.int .i64 f1, .int .i64 t1, .slice x1A m1 x1c] 29)
                  have hlit := Rw.lit (L := LN) u3' ⟨⟨f1, t1, b1⟩, x1A, x1c⟩ 29
                  rw [show (LN.enc ⟨⟨f1, t1, b1⟩, x1A, x1c⟩).toArray = #[.int .i64 f1, .int .i64 t1, .slice x1A m1 x1c] from (by rw [← hm1]; rfl)] at hlit
                  obtain ⟨V', c', u4, hrun, hown, hgr, hloc⟩ := run_append_rw (L := LN) (n := yk) (m := 1) (ty := 26) (bytes := 40) Try.underlying26 hi hz0 hz1 hz2 rfl hrA hlit (by unfold maxLen; omega) (by omega) (by have h1 := hFx.1.2.size; rw [size_alloc]; omega)
                  have hba3 := bel_alloc (Below.refl u3'.heap.size u3') (.cells #[.int .i64 f1, .int .i64 t1, .slice x1A m1 x1c] 29)
                  have hap := env_append (w := w) (bi_below hIx hba3) ((frame_new w).go hFx.1 (Keeps.ofBelow hba3) (Grew.refl _ _)) ((frame_env _ _ _ _ _).go hEx (Keeps.ofBelow hba3) (Grew.refl _ _)) hown hgr hloc
                  have HRUN := Lib.hid hrun
                  have HLOC := Lib.hid (loc_apart hloc hba3)
                  have HAP := Lib.hid hap
                  have HGR := Lib.hid (And.intro hgr hba3)
                  clear hrA hlit hrun hown hgr hloc hba3 hap hi hz0 hz1 hz2
                  have hk4 : Keeps (Row YA) u3' u4 := (Keeps.ofBelow HGR.out.2).trans (S' := Row YA) ⟨HGR.out.1.os, HGR.out.1.tape, HGR.out.1.output, HGR.out.1.size, fun k hk hn => HGR.out.1.block k hk fun e => hn (row_of.1 e.symm)⟩ (Grew.refl _ _)
                  have hx5 : FEnv w.heap.size (some ⟨gx, 0, none⟩) q xc X u4 S4 := ⟨row_keep hFx.2.1 fun k e => hk4.block k (hFx.2.1.lt k e).2 fun hr => (H4.out.2.2.2.2.1 k hr).1 (row_of.1 e), hFx.2.2⟩
                  have hb5 : FBlk b8 31 #[.int .i64 3, .int .i64 i, .int .i64 f, .int .i64 t, .slice yA m yc] u4 S4 := ⟨(hk4.block b8 hBx.1.lt fun hr => (H4.out.2.2.2.2.1 b8 hr).2 rfl).trans hBx.1, hBx.2⟩
                  have hloc5 : ∀ k, Row V' k → ¬ Row (some ⟨gx, 0, none⟩) k ∧ k ≠ b8 := HLOC.out.2 hFx.2.1 hBx.1 H4.out.2.2.2.2.1
                  have H5 := Lib.hid (And.intro hx5 (And.intro hb5 hloc5))
                  clear hIx hFx hBx hEx hk4 hx5 hb5 hloc5 hu3' hbd
                  go_wp2_with (first | (at_builtin; refine wpList_append_row rfl (.tmp 152) (.tmp 157) rfl HRUN.out ?_) | fail)
                  go_roundw
                  case rel =>
                    have hft := filter_yesN (f := fun x => !decide (x.e.t = t)) HX1.out (by simp [HT.out])
                    exact ⟨k2 + 1, V', yk + 1, c', S4, by simp, by omega, rfl, by rw [hft, List.length_append, H4.out.2.2.2.2.2]; rfl, HAP.out.1, ⟨HAP.out.2.1, H5.out.1⟩, H5.out.2.1, by rw [hft]; exact HAP.out.2.2, H5.out.2.2⟩
                  case measure =>
                    simp [intOf]
                    omega
              · have hkn2 : q = k2 := by omega
                subst hkn2
                have hall : (X.take q).filter (fun x => !decide (x.e.t = t)) = Y := by rw [← HY.out.1, ← HQ.out.1, List.take_length]
                rw [hall] at hyk hE4
                have hyk' : yk = yl := by rw [← hyk, HY.out.2.1]
                subst hyk'
                have hNN : (q : Int) - (yk : Int) = N := HY.out.2.2
                have b6 : (N != N) = false := by simp
                have b7 : (N != (q : Int) - (yk : Int)) = false := by rw [hNN]; exact b6
                have b8' : (N == (q : Int) - (yk : Int)) = true := by rw [hNN]; simp
                have H4 := Lib.hid (And.intro hI4 (And.intro hF4 hE4))
                clear hI4 hF4 hB4 hE4 hap4 hall hyk hNN
                go_wp2_with fail
                go_meet
                case rel =>
                  refine ⟨Y, YA, yc2, nx, by rw [HY.out.2.1], fun y hy => HX.out.1 y (by rw [← HY.out.1] at hy; exact (List.mem_filter.1 hy).1), ?_, S4, H4.out.1, H4.out.2.1.1, by rw [HY.out.2.1]; exact H4.out.2.2⟩
                  have h1 := (HX.out.2.keep t).more (Nat.le_succ k)
                  rw [keep_at, HY.out.1] at h1
                  exact h1
          have t0 : (z == 0) = false := beq_eq_false_iff_ne.2 h0
          have t1 : (z == 1) = false := beq_eq_false_iff_ne.2 h1
          have t2 : (z == 2) = false := beq_eq_false_iff_ne.2 h2
          have t3 : (z == 3) = false := beq_eq_false_iff_ne.2 h3
          clear h0 h1 h2 h3 hfit hfine hfl
          go_wp2_with fail
          go_meet
          case rel => exact ⟨X, XA, xc, nx, by rw [HQ.out.1], HX.out.1, HX.out.2.more (Nat.le_succ _), S, HI.out.1, HI.out.2⟩
        case rest =>
          obtain ⟨X2, XA2, xc2, nx2, rfl, hK2, hfew2, hm2⟩ := hcut
          obtain ⟨S2, hI2, hF2⟩ := hm2
          have hlen := len_any p S2 ⟨X2.map (·.e), R, nx2⟩ wc hI2
          simp only [List.length_map] at hlen
          obtain ⟨q2, hq2⟩ : ∃ q2, X2.length = q2 := ⟨_, rfl⟩
          rw [hq2] at hlen ⊢
          have hqk2 : q2 ≤ 1000 := by have h1 := hfew2.1; rw [List.length_map, hq2] at h1; omega
          have hxc2 : q2 ≤ xc2 ∧ xc2 ≤ 9223372036854775807 := by
            have h1 := Rw.own hF2.2.1
            have h2 := h1.cap
            have h3 := h1.le
            unfold maxLen at h2
            rw [hq2] at h3
            exact ⟨h3, h2⟩
          unfold ptr at hlen
          have HLE := Lib.hid hlen
          have HM2 := Lib.hid (show Mine (PlF w XA2 X2.length xc2 X2) wc p ⟨X2.map (·.e), R, nx2⟩ from ⟨S2, hI2, hF2⟩)
          have HX2 := Lib.hid (And.intro hK2 (And.intro hfew2 hq2))
          clear hI2 hF2 hlen hK2 hfew2 hq2 hfl e0 e1 e2 e3 e4
          go_wp2_with fail
          refine HLE.out.mono ?_
          rintro e u ⟨rfl, hu⟩
          replace hu := hu.symm
          subst hu
          go_wp2_with fail
          go_loopw [16] (AtRel w p XA2 xc2 X2 ⟨X2.map (·.e), R, nx2⟩) (fun v _ => ((q2 : Int) + 1 - intOf v).toNat)
          case atStart => exact ⟨-1, rfl, by omega, by omega, HM2.out⟩
          case round =>
            obtain ⟨tt, hv16, ht1, ht2, hm4⟩ := hrel
            subst hv16
            rw [HX2.out.2.2] at ht2
            by_cases hle : tt ≤ (q2 : Int)
            · obtain ⟨S4, hI4, hF4⟩ := hm4
              have hat := at_any p S4 ⟨X2.map (·.e), R, nx2⟩ tt wr hI4 (HX2.out.2.1.fine (by omega))
              by_cases hneg : tt < 0
              · have htt : tt = -1 := by omega
                subst htt
                rw [at_none (.inl (by decide))] at hat
                clear hneg ht1 ht2
                unfold Shows noEn at hat
                simp only [Option.getD_none, Option.isSome_none, List.length_nil] at hat
                unfold ptr at hat
                have HAT := Lib.hid hat
                have H4 := Lib.hid (And.intro hI4 hF4)
                clear hat
                go_wp2_with fail
                refine HAT.out.mono ?_
                rintro e u2 ⟨⟨B1, d1, rfl, hby⟩, hb2⟩
                have hba := bel_alloc (Below.refl u2.heap.size u2) (.cells #[.int .i64 0, .int .i64 0, .slice B1 0 d1] 29)
                have hke := Blk.new u2 29 #[.int .i64 0, .int .i64 0, .slice B1 0 d1]
                have hbyU := hby.alloc (.cells #[.int .i64 0, .int .i64 0, .slice B1 0 d1] 29)
                obtain ⟨U2, hU2⟩ : ∃ U2, u2.alloc (.cells #[.int .i64 0, .int .i64 0, .slice B1 0 d1] 29) = U2 := ⟨_, rfl⟩
                rw [hU2] at hba hke hbyU
                have hbd := hb2.trans ((Below.drew hba).mono hb2.size)
                have hF2U := (frame_pl w XA2 X2.length xc2 X2).go hF4 (Keeps.ofBelow hbd) (Grew.refl S4 wr)
                have hI2U := bi_below hI4 hbd
                have HPL := Lib.hid (And.intro hI2U hF2U)
                have HU2 := Lib.hid hU2
                have HS0 := Lib.hid (show True from trivial)
                clear hby hb2 hba hke hbyU hU2 hF2U hI2U hbd hI4 hF4 HAT
                go_upto_region 47 with fail
                rw [HU2.out]
                refine wp_region_held_drew (S := (fun _ => True)) (by kernel_rfl) (by first | (with_reducible exact HS0.out) | (with_reducible exact HS0.out)) (fun hHeld => ?_)
                refine held_take (i := 0) (d := 184) (v := (.bool false)) rfl rfl (by kernel_rfl) (by kernel_rfl) (by kernel_rfl) (fun _ _ _ h => h) (by kernel_rfl) (fun w hSw => by (obtain _ := hSw); go_simp) hHeld ?_
                try simp only [List.setIfInBounds_toArray, List.set_cons_zero, List.set_cons_succ]
                refine held_take (i := 1) (d := 185) (v := (.int .i64 (-1))) rfl rfl (by kernel_rfl) (by kernel_rfl) (by kernel_rfl) (fun _ _ _ h => h) (by kernel_rfl) (fun w hSw => by (obtain _ := hSw); go_simp) hHeld ?_
                try simp only [List.setIfInBounds_toArray, List.set_cons_zero, List.set_cons_succ]
                refine held_take (i := 2) (d := 186) (v := (.bool false)) rfl rfl (by kernel_rfl) (by kernel_rfl) (by kernel_rfl) (fun _ _ _ h => h) (by kernel_rfl) (fun w hSw => by (obtain _ := hSw); go_simp) hHeld ?_
                try simp only [List.setIfInBounds_toArray, List.set_cons_zero, List.set_cons_succ]
                refine held_take (i := 3) (d := 187) (v := (.bool false)) rfl rfl (by kernel_rfl) (by kernel_rfl) (by kernel_rfl) (fun _ _ _ h => h) (by kernel_rfl) (fun w hSw => by (obtain _ := hSw); go_simp) hHeld ?_
                try simp only [List.setIfInBounds_toArray, List.set_cons_zero, List.set_cons_succ]
                refine held_skip (i := 4) (d := 188) rfl rfl (by kernel_rfl) (by kernel_rfl) (by kernel_rfl) (fun _ _ _ h => h) (by kernel_rfl) hHeld ?_
                try simp only [List.setIfInBounds_toArray, List.set_cons_zero, List.set_cons_succ]
                refine held_skip (i := 5) (d := 189) rfl rfl (by kernel_rfl) (by kernel_rfl) (by kernel_rfl) (fun _ _ _ h => h) (by kernel_rfl) hHeld ?_
                try simp only [List.setIfInBounds_toArray, List.set_cons_zero, List.set_cons_succ]
                refine held_skip (i := 6) (d := 190) rfl rfl (by kernel_rfl) (by kernel_rfl) (by kernel_rfl) (fun _ _ _ h => h) (by kernel_rfl) hHeld ?_
                try simp only [List.setIfInBounds_toArray, List.set_cons_zero, List.set_cons_succ]
                refine held_skip (i := 7) (d := 191) rfl rfl (by kernel_rfl) (by kernel_rfl) (by kernel_rfl) (fun _ _ _ h => h) (by kernel_rfl) hHeld ?_
                try simp only [List.setIfInBounds_toArray, List.set_cons_zero, List.set_cons_succ]
                refine held_take (i := 8) (d := 192) (v := (.bool false)) rfl rfl (by kernel_rfl) (by kernel_rfl) (by kernel_rfl) (fun _ _ _ h => h) (by kernel_rfl) (fun w hSw => by (obtain _ := hSw); go_simp) hHeld ?_
                try simp only [List.setIfInBounds_toArray, List.set_cons_zero, List.set_cons_succ]
                refine held_take (i := 9) (d := 193) (v := (.bool false)) rfl rfl (by kernel_rfl) (by kernel_rfl) (by kernel_rfl) (fun _ _ _ h => h) (by kernel_rfl) (fun w hSw => by (obtain _ := hSw); go_simp) hHeld ?_
                try simp only [List.setIfInBounds_toArray, List.set_cons_zero, List.set_cons_succ]
                refine held_take (i := 10) (d := 194) (v := (.bool false)) rfl rfl (by kernel_rfl) (by kernel_rfl) (by kernel_rfl) (fun _ _ _ h => h) (by kernel_rfl) (fun w hSw => by (obtain _ := hSw); go_simp) hHeld ?_
                try simp only [List.setIfInBounds_toArray, List.set_cons_zero, List.set_cons_succ]
                refine held_take (i := 11) (d := 195) (v := (.bool false)) rfl rfl (by kernel_rfl) (by kernel_rfl) (by kernel_rfl) (fun _ _ _ h => h) (by kernel_rfl) (fun w hSw => by (obtain _ := hSw); go_simp) hHeld ?_
                try simp only [List.setIfInBounds_toArray, List.set_cons_zero, List.set_cons_succ]
                refine held_take (i := 12) (d := 196) (v := (.bool false)) rfl rfl (by kernel_rfl) (by kernel_rfl) (by kernel_rfl) (fun _ _ _ h => h) (by kernel_rfl) (fun w hSw => by (obtain _ := hSw); go_simp) hHeld ?_
                try simp only [List.setIfInBounds_toArray, List.set_cons_zero, List.set_cons_succ]
                refine held_skip (i := 13) (d := 197) rfl rfl (by kernel_rfl) (by kernel_rfl) (by kernel_rfl) (fun _ _ _ h => h) (by kernel_rfl) hHeld ?_
                try simp only [List.setIfInBounds_toArray, List.set_cons_zero, List.set_cons_succ]
                refine held_skip (i := 14) (d := 198) rfl rfl (by kernel_rfl) (by kernel_rfl) (by kernel_rfl) (fun _ _ _ h => h) (by kernel_rfl) hHeld ?_
                try simp only [List.setIfInBounds_toArray, List.set_cons_zero, List.set_cons_succ]
                refine held_skip (i := 15) (d := 199) rfl rfl (by kernel_rfl) (by kernel_rfl) (by kernel_rfl) (fun _ _ _ h => h) (by kernel_rfl) hHeld ?_
                try simp only [List.setIfInBounds_toArray, List.set_cons_zero, List.set_cons_succ]
                refine held_skip (i := 16) (d := 200) rfl rfl (by kernel_rfl) (by kernel_rfl) (by kernel_rfl) (fun _ _ _ h => h) (by kernel_rfl) hHeld ?_
                try simp only [List.setIfInBounds_toArray, List.set_cons_zero, List.set_cons_succ]
                refine held_skip (i := 17) (d := 201) rfl rfl (by kernel_rfl) (by kernel_rfl) (by kernel_rfl) (fun _ _ _ h => h) (by kernel_rfl) hHeld ?_
                try simp only [List.setIfInBounds_toArray, List.set_cons_zero, List.set_cons_succ]
                refine held_skip (i := 18) (d := 202) rfl rfl (by kernel_rfl) (by kernel_rfl) (by kernel_rfl) (fun _ _ _ h => h) (by kernel_rfl) hHeld ?_
                try simp only [List.setIfInBounds_toArray, List.set_cons_zero, List.set_cons_succ]
                refine held_skip (i := 19) (d := 203) rfl rfl (by kernel_rfl) (by kernel_rfl) (by kernel_rfl) (fun _ _ _ h => h) (by kernel_rfl) hHeld ?_
                try simp only [List.setIfInBounds_toArray, List.set_cons_zero, List.set_cons_succ]
                refine held_take (i := 20) (d := 204) (v := (.bool false)) rfl rfl (by kernel_rfl) (by kernel_rfl) (by kernel_rfl) (fun _ _ _ h => h) (by kernel_rfl) (fun w hSw => by (obtain _ := hSw); go_simp) hHeld ?_
                try simp only [List.setIfInBounds_toArray, List.set_cons_zero, List.set_cons_succ]
                refine held_take (i := 21) (d := 205) (v := (.bool false)) rfl rfl (by kernel_rfl) (by kernel_rfl) (by kernel_rfl) (fun _ _ _ h => h) (by kernel_rfl) (fun w hSw => by (obtain _ := hSw); go_simp) hHeld ?_
                try simp only [List.setIfInBounds_toArray, List.set_cons_zero, List.set_cons_succ]
                refine wpAnyH_done (by kernel_rfl) ?_ _
                go_wp2_with fail
                go_roundw
                case rel => exact ⟨0, rfl, by omega, by omega, S4, HPL.out⟩
                case measure =>
                  simp [intOf]
                  omega
              · obtain ⟨j, rfl⟩ : ∃ j : Nat, tt = (j : Int) := ⟨tt.toNat, by omega⟩
                by_cases hjq : j < q2
                · obtain ⟨x1, hx1⟩ : ∃ x, X2[j]? = some x := ⟨_, List.getElem?_eq_getElem (by rw [HX2.out.2.2]; exact hjq)⟩
                  rw [at_yes hx1] at hat
                  unfold Shows at hat
                  simp only [Option.getD_some, Option.isSome_some] at hat
                  have hkn := HX2.out.1 x1 (List.mem_of_getElem? hx1)
                  obtain ⟨⟨f1, t1, b1⟩, x1A, x1c⟩ := x1
                  simp only at hat
                  obtain ⟨m1, hm1⟩ : ∃ m1, b1.length = m1 := ⟨_, rfl⟩
                  rw [hm1] at hat
                  unfold ptr at hat
                  have HAT := Lib.hid hat
                  have HX1 := Lib.hid (And.intro hx1 (And.intro hkn hm1))
                  clear hat hx1 hkn hm1
                  have b3 : decide ((0 : Int) ≤ (j : Int)) = true := decide_eq_true (by omega)
                  have b4 : decide ((j : Int) < (q2 : Int)) = true := decide_eq_true (by omega)
                  go_wp2_with fail
                  refine HAT.out.mono ?_
                  rintro e u2 ⟨⟨B1, d1, rfl, hby⟩, hb2⟩
                  have hba := bel_alloc (Below.refl u2.heap.size u2) (.cells #[.int .i64 f1, .int .i64 t1, .slice B1 m1 d1] 29)
                  have hke := Blk.new u2 29 #[.int .i64 f1, .int .i64 t1, .slice B1 m1 d1]
                  have hbyU := hby.alloc (.cells #[.int .i64 f1, .int .i64 t1, .slice B1 m1 d1] 29)
                  obtain ⟨U2, hU2⟩ : ∃ U2, u2.alloc (.cells #[.int .i64 f1, .int .i64 t1, .slice B1 m1 d1] 29) = U2 := ⟨_, rfl⟩
                  rw [hU2] at hba hke hbyU
                  have hbd := hb2.trans ((Below.drew hba).mono hb2.size)
                  have hF2U := (frame_pl w XA2 X2.length xc2 X2).go hF4 (Keeps.ofBelow hbd) (Grew.refl S4 wr)
                  have hI2U := bi_below hI4 hbd
                  rw [HX2.out.2.2] at hF2U
                  obtain ⟨gx, rfl, hgx, hrx⟩ := hF2U.2.at_ HX1.out.1 hjq
                  have hrx2 : U2.drew.rangeAt gx (j * 3) [.int .i64 f1, .int .i64 t1, .slice x1A m1 x1c] := by rw [← HX1.out.2.2]; exact hrx
                  have hsame : Calls Try.prog 11 #[.agg #[.int .i64 f1, .int .i64 t1, .slice B1 b1.length d1], .agg #[.int .i64 f1, .int .i64 t1, .slice x1A b1.length x1c]] U2.drew (Tells true U2.drew) :=
                    refsame_any ⟨f1, t1, b1⟩ B1 x1A d1 x1c U2.drew (by rw [← HX1.out.2.2] at hbyU; exact (Rd.own hbyU).drew) (HX1.out.2.1.1.below hF2U.1.2)
                  rw [HX1.out.2.2] at hsame
                  have HSAME := Lib.hid hsame
                  have HS0 := Lib.hid (show Blk U2.drew u2.heap.size 29 #[.int .i64 f1, .int .i64 t1, .slice B1 m1 d1] ∧ U2.drew.rangeAt gx (j * 3) [.int .i64 f1, .int .i64 t1, .slice x1A m1 x1c] from ⟨hke.drew, hrx2⟩)
                  have HGL := Lib.hid hgx
                  have HPL := Lib.hid (And.intro hI2U hF2U)
                  have HU2 := Lib.hid hU2
                  clear hby hb2 hba hke hbyU hU2 hF2U hI2U hbd hI4 hF4 hgx hrx hrx2 hsame HAT
                  go_upto_region 47 with fail
                  rw [HU2.out]
                  refine wp_region_held_drew (S := (fun w' => Blk w' u2.heap.size 29 #[.int .i64 f1, .int .i64 t1, .slice B1 m1 d1] ∧ w'.rangeAt gx (j * 3) [.int .i64 f1, .int .i64 t1, .slice x1A m1 x1c])) (by kernel_rfl) (by first | (with_reducible exact HS5.out) | (with_reducible exact HS0.out)) (fun hHeld => ?_)
                  refine held_take (i := 0) (d := 184) (v := (.bool true)) rfl rfl (by kernel_rfl) (by kernel_rfl) (by kernel_rfl) (fun _ _ _ h => h) (by kernel_rfl) (fun w hSw => by (obtain ⟨hS0, hS1⟩ := hSw); go_simp) hHeld ?_
                  try simp only [List.setIfInBounds_toArray, List.set_cons_zero, List.set_cons_succ]
                  refine held_take (i := 1) (d := 185) (v := (.int .i64 (j : Int))) rfl rfl (by kernel_rfl) (by kernel_rfl) (by kernel_rfl) (fun _ _ _ h => h) (by kernel_rfl) (fun w hSw => by (obtain ⟨hS0, hS1⟩ := hSw); go_simp) hHeld ?_
                  try simp only [List.setIfInBounds_toArray, List.set_cons_zero, List.set_cons_succ]
                  refine held_take (i := 2) (d := 186) (v := (.bool true)) rfl rfl (by kernel_rfl) (by kernel_rfl) (by kernel_rfl) (fun _ _ _ h => h) (by kernel_rfl) (fun w hSw => by (obtain ⟨hS0, hS1⟩ := hSw); go_simp) hHeld ?_
                  try simp only [List.setIfInBounds_toArray, List.set_cons_zero, List.set_cons_succ]
                  refine held_take (i := 3) (d := 187) (v := (.bool true)) rfl rfl (by kernel_rfl) (by kernel_rfl) (by kernel_rfl) (fun _ _ _ h => h) (by kernel_rfl) (fun w hSw => by (obtain ⟨hS0, hS1⟩ := hSw); go_simp) hHeld ?_
                  try simp only [List.setIfInBounds_toArray, List.set_cons_zero, List.set_cons_succ]
                  refine held_take (i := 4) (d := 188) (v := (.int .i64 (j : Int))) rfl rfl (by kernel_rfl) (by kernel_rfl) (by kernel_rfl) (fun _ _ _ h => h) (by kernel_rfl) (fun w hSw => by (obtain ⟨hS0, hS1⟩ := hSw); go_simp) hHeld ?_
                  try simp only [List.setIfInBounds_toArray, List.set_cons_zero, List.set_cons_succ]
                  refine held_take (i := 5) (d := 189) (v := (.slice (some ⟨gx, 0, none⟩) q2 xc2)) rfl rfl (by kernel_rfl) (by kernel_rfl) (by kernel_rfl) (fun _ _ _ h => h) (by kernel_rfl) (fun w hSw => by (obtain ⟨hS0, hS1⟩ := hSw); go_simp) hHeld ?_
                  try simp only [List.setIfInBounds_toArray, List.set_cons_zero, List.set_cons_succ]
                  refine held_take (i := 6) (d := 190) (v := (.int .i64 (q2 : Int))) rfl rfl (by kernel_rfl) (by kernel_rfl) (by kernel_rfl) (fun _ _ _ h => h) (by kernel_rfl) (fun w hSw => by (obtain ⟨hS0, hS1⟩ := hSw); go_simp) hHeld ?_
                  try simp only [List.setIfInBounds_toArray, List.set_cons_zero, List.set_cons_succ]
                  refine held_take (i := 7) (d := 191) (v := (.bool true)) rfl rfl (by kernel_rfl) (by kernel_rfl) (by kernel_rfl) (fun _ _ _ h => h) (by kernel_rfl) (fun w hSw => by (obtain ⟨hS0, hS1⟩ := hSw); go_simp) hHeld ?_
                  try simp only [List.setIfInBounds_toArray, List.set_cons_zero, List.set_cons_succ]
                  refine held_take (i := 8) (d := 192) (v := (.bool true)) rfl rfl (by kernel_rfl) (by kernel_rfl) (by kernel_rfl) (fun _ _ _ h => h) (by kernel_rfl) (fun w hSw => by (obtain ⟨hS0, hS1⟩ := hSw); go_simp) hHeld ?_
                  try simp only [List.setIfInBounds_toArray, List.set_cons_zero, List.set_cons_succ]
                  refine held_take (i := 9) (d := 193) (v := (.bool false)) rfl rfl (by kernel_rfl) (by kernel_rfl) (by kernel_rfl) (fun _ _ _ h => h) (by kernel_rfl) (fun w hSw => by (obtain ⟨hS0, hS1⟩ := hSw); go_simp) hHeld ?_
                  try simp only [List.setIfInBounds_toArray, List.set_cons_zero, List.set_cons_succ]
                  refine held_take (i := 10) (d := 194) (v := (.bool false)) rfl rfl (by kernel_rfl) (by kernel_rfl) (by kernel_rfl) (fun _ _ _ h => h) (by kernel_rfl) (fun w hSw => by (obtain ⟨hS0, hS1⟩ := hSw); go_simp) hHeld ?_
                  try simp only [List.setIfInBounds_toArray, List.set_cons_zero, List.set_cons_succ]
                  refine held_take (i := 11) (d := 195) (v := (.bool true)) rfl rfl (by kernel_rfl) (by kernel_rfl) (by kernel_rfl) (fun _ _ _ h => h) (by kernel_rfl) (fun w hSw => by (obtain ⟨hS0, hS1⟩ := hSw); go_simp) hHeld ?_
                  try simp only [List.setIfInBounds_toArray, List.set_cons_zero, List.set_cons_succ]
                  refine held_take (i := 12) (d := 196) (v := (.bool true)) rfl rfl (by kernel_rfl) (by kernel_rfl) (by kernel_rfl) (fun _ _ _ h => h) (by kernel_rfl) (fun w hSw => by (obtain ⟨hS0, hS1⟩ := hSw); go_simp) hHeld ?_
                  try simp only [List.setIfInBounds_toArray, List.set_cons_zero, List.set_cons_succ]
                  refine held_take (i := 13) (d := 197) (v := (.agg #[.int .i64 f1, .int .i64 t1, .slice B1 m1 d1])) rfl rfl (by kernel_rfl) (by kernel_rfl) (by kernel_rfl) (fun _ _ _ h => h) (by kernel_rfl) (run_load_blk 29 (.tmp 17) rfl u2.heap.size 29 _ _ rfl (fun w hSw => hSw.1) Try.underlying29 rfl (by kernel_rfl)) hHeld ?_
                  try simp only [List.setIfInBounds_toArray, List.set_cons_zero, List.set_cons_succ]
                  refine held_take (i := 14) (d := 198) (v := (.slice (some ⟨gx, 0, none⟩) q2 xc2)) rfl rfl (by kernel_rfl) (by kernel_rfl) (by kernel_rfl) (fun _ _ _ h => h) (by kernel_rfl) (fun w hSw => by (obtain ⟨hS0, hS1⟩ := hSw); go_simp) hHeld ?_
                  try simp only [List.setIfInBounds_toArray, List.set_cons_zero, List.set_cons_succ]
                  refine held_take (i := 15) (d := 199) (v := (.int .i64 (j : Int))) rfl rfl (by kernel_rfl) (by kernel_rfl) (by kernel_rfl) (fun _ _ _ h => h) (by kernel_rfl) (fun w hSw => by (obtain ⟨hS0, hS1⟩ := hSw); go_simp) hHeld ?_
                  try simp only [List.setIfInBounds_toArray, List.set_cons_zero, List.set_cons_succ]
                  refine held_take (i := 16) (d := 200) (v := (.pointer (some ⟨gx, j * 3, none⟩))) rfl rfl (by kernel_rfl) (by kernel_rfl) (by kernel_rfl) (fun _ _ _ h => h) (by kernel_rfl) (fun w hSw => by (obtain ⟨hS0, hS1⟩ := hSw); go_simp) hHeld ?_
                  try simp only [List.setIfInBounds_toArray, List.set_cons_zero, List.set_cons_succ]
                  refine held_take (i := 17) (d := 201) (v := (.agg #[.int .i64 f1, .int .i64 t1, .slice x1A m1 x1c])) rfl rfl (by kernel_rfl) (by kernel_rfl) (by kernel_rfl) (fun _ _ _ h => h) (by kernel_rfl) (run_load_row 29 (.tmp 200) rfl gx (j * 3) [.int .i64 f1, .int .i64 t1, .slice x1A m1 x1c] _ rfl (fun w hSw => hSw.2) Try.underlying29 rfl (by kernel_rfl)) hHeld ?_
                  try simp only [List.setIfInBounds_toArray, List.set_cons_zero, List.set_cons_succ]
                  refine wpAnyH_ready (rs := [18]) (by kernel_rfl) (by simp) ?_
                  refine AllReadyH.cons rfl (fun K hK => ?_) AllReadyH.nil
                  go_simp
                  go_at_call 11
                  (with_reducible refine HSAME.out.mono ?_)
                  rintro e u5 ⟨rfl, hb5⟩
                  have HS5 := Lib.hid (show Blk u5 u2.heap.size 29 #[.int .i64 f1, .int .i64 t1, .slice B1 m1 d1] ∧ u5.rangeAt gx (j * 3) [.int .i64 f1, .int .i64 t1, .slice x1A m1 x1c] from ⟨HS0.out.1.bel hb5, fun v u hu => (hb5.cell (p := ⟨gx, _, none⟩) HGL.out).trans (HS0.out.2 v u hu)⟩)
                  have HB5 := Lib.hid hb5
                  clear hb5
                  refine hK.out _ _ (by first | (with_reducible exact HS5.out) | (with_reducible exact HS0.out)) (fun hHeld => ?_)
                  clear hK K
                  refine held_take (i := 19) (d := 203) (v := (.bool false)) rfl rfl (by kernel_rfl) (by kernel_rfl) (by kernel_rfl) (fun _ _ _ h => h) (by kernel_rfl) (fun w hSw => by (obtain ⟨hS0, hS1⟩ := hSw); go_simp) hHeld ?_
                  try simp only [List.setIfInBounds_toArray, List.set_cons_zero, List.set_cons_succ]
                  refine held_take (i := 20) (d := 204) (v := (.bool false)) rfl rfl (by kernel_rfl) (by kernel_rfl) (by kernel_rfl) (fun _ _ _ h => h) (by kernel_rfl) (fun w hSw => by (obtain ⟨hS0, hS1⟩ := hSw); go_simp) hHeld ?_
                  try simp only [List.setIfInBounds_toArray, List.set_cons_zero, List.set_cons_succ]
                  refine held_take (i := 21) (d := 205) (v := (.bool false)) rfl rfl (by kernel_rfl) (by kernel_rfl) (by kernel_rfl) (fun _ _ _ h => h) (by kernel_rfl) (fun w hSw => by (obtain ⟨hS0, hS1⟩ := hSw); go_simp) hHeld ?_
                  try simp only [List.setIfInBounds_toArray, List.set_cons_zero, List.set_cons_succ]
                  refine wpAnyH_done (by kernel_rfl) ?_ _
                  go_wp2_with fail
                  go_roundw
                  case rel => exact ⟨(j : Int) + 1, rfl, by omega, by rw [HX2.out.2.2]; omega, S4, bi_below HPL.out.1 HB5.out, by rw [HX2.out.2.2]; exact (frame_pl _ _ _ _ _).go HPL.out.2 (Keeps.ofBelow HB5.out) (Grew.refl _ _)⟩
                  case measure =>
                    simp [intOf]
                    omega
                · have hjj : q2 = j := by omega
                  subst hjj
                  have b3 : decide ((0 : Int) ≤ (q2 : Int)) = true := decide_eq_true (by omega)
                  have b4 : decide ((q2 : Int) < (q2 : Int)) = false := decide_eq_false (by omega)
                  rw [at_none (.inr (by show ((X2.map (·.e)).length : Int) ≤ _; rw [List.length_map, HX2.out.2.2]; omega))] at hat
                  unfold Shows noEn at hat
                  simp only [Option.getD_none, Option.isSome_none, List.length_nil] at hat
                  unfold ptr at hat
                  have HAT := Lib.hid hat
                  have H4 := Lib.hid (And.intro hI4 hF4)
                  clear hat
                  go_wp2_with fail
                  refine HAT.out.mono ?_
                  rintro e u2 ⟨⟨B1, d1, rfl, hby⟩, hb2⟩
                  have hba := bel_alloc (Below.refl u2.heap.size u2) (.cells #[.int .i64 0, .int .i64 0, .slice B1 0 d1] 29)
                  have hke := Blk.new u2 29 #[.int .i64 0, .int .i64 0, .slice B1 0 d1]
                  have hbyU := hby.alloc (.cells #[.int .i64 0, .int .i64 0, .slice B1 0 d1] 29)
                  obtain ⟨U2, hU2⟩ : ∃ U2, u2.alloc (.cells #[.int .i64 0, .int .i64 0, .slice B1 0 d1] 29) = U2 := ⟨_, rfl⟩
                  rw [hU2] at hba hke hbyU
                  have hbd := hb2.trans ((Below.drew hba).mono hb2.size)
                  have hF2U := (frame_pl w XA2 X2.length xc2 X2).go hF4 (Keeps.ofBelow hbd) (Grew.refl S4 wr)
                  have hI2U := bi_below hI4 hbd
                  have HPL := Lib.hid (And.intro hI2U hF2U)
                  have HU2 := Lib.hid hU2
                  have HS0 := Lib.hid (show True from trivial)
                  clear hby hb2 hba hke hbyU hU2 hF2U hI2U hbd hI4 hF4 HAT
                  go_upto_region 47 with fail
                  rw [HU2.out]
                  refine wp_region_held_drew (S := (fun _ => True)) (by kernel_rfl) (by first | (with_reducible exact HS0.out) | (with_reducible exact HS0.out)) (fun hHeld => ?_)
                  refine held_take (i := 0) (d := 184) (v := (.bool false)) rfl rfl (by kernel_rfl) (by kernel_rfl) (by kernel_rfl) (fun _ _ _ h => h) (by kernel_rfl) (fun w hSw => by (obtain _ := hSw); go_simp) hHeld ?_
                  try simp only [List.setIfInBounds_toArray, List.set_cons_zero, List.set_cons_succ]
                  refine held_take (i := 1) (d := 185) (v := (.int .i64 (q2 : Int))) rfl rfl (by kernel_rfl) (by kernel_rfl) (by kernel_rfl) (fun _ _ _ h => h) (by kernel_rfl) (fun w hSw => by (obtain _ := hSw); go_simp) hHeld ?_
                  try simp only [List.setIfInBounds_toArray, List.set_cons_zero, List.set_cons_succ]
                  refine held_take (i := 2) (d := 186) (v := (.bool true)) rfl rfl (by kernel_rfl) (by kernel_rfl) (by kernel_rfl) (fun _ _ _ h => h) (by kernel_rfl) (fun w hSw => by (obtain _ := hSw); go_simp) hHeld ?_
                  try simp only [List.setIfInBounds_toArray, List.set_cons_zero, List.set_cons_succ]
                  refine held_take (i := 3) (d := 187) (v := (.bool true)) rfl rfl (by kernel_rfl) (by kernel_rfl) (by kernel_rfl) (fun _ _ _ h => h) (by kernel_rfl) (fun w hSw => by (obtain _ := hSw); go_simp) hHeld ?_
                  try simp only [List.setIfInBounds_toArray, List.set_cons_zero, List.set_cons_succ]
                  refine held_take (i := 4) (d := 188) (v := (.int .i64 (q2 : Int))) rfl rfl (by kernel_rfl) (by kernel_rfl) (by kernel_rfl) (fun _ _ _ h => h) (by kernel_rfl) (fun w hSw => by (obtain _ := hSw); go_simp) hHeld ?_
                  try simp only [List.setIfInBounds_toArray, List.set_cons_zero, List.set_cons_succ]
                  refine held_take (i := 5) (d := 189) (v := (.slice XA2 q2 xc2)) rfl rfl (by kernel_rfl) (by kernel_rfl) (by kernel_rfl) (fun _ _ _ h => h) (by kernel_rfl) (fun w hSw => by (obtain _ := hSw); go_simp) hHeld ?_
                  try simp only [List.setIfInBounds_toArray, List.set_cons_zero, List.set_cons_succ]
                  refine held_take (i := 6) (d := 190) (v := (.int .i64 (q2 : Int))) rfl rfl (by kernel_rfl) (by kernel_rfl) (by kernel_rfl) (fun _ _ _ h => h) (by kernel_rfl) (fun w hSw => by (obtain _ := hSw); go_simp) hHeld ?_
                  try simp only [List.setIfInBounds_toArray, List.set_cons_zero, List.set_cons_succ]
                  refine held_take (i := 7) (d := 191) (v := (.bool false)) rfl rfl (by kernel_rfl) (by kernel_rfl) (by kernel_rfl) (fun _ _ _ h => h) (by kernel_rfl) (fun w hSw => by (obtain _ := hSw); go_simp) hHeld ?_
                  try simp only [List.setIfInBounds_toArray, List.set_cons_zero, List.set_cons_succ]
                  refine held_take (i := 8) (d := 192) (v := (.bool false)) rfl rfl (by kernel_rfl) (by kernel_rfl) (by kernel_rfl) (fun _ _ _ h => h) (by kernel_rfl) (fun w hSw => by (obtain _ := hSw); go_simp) hHeld ?_
                  try simp only [List.setIfInBounds_toArray, List.set_cons_zero, List.set_cons_succ]
                  refine held_take (i := 9) (d := 193) (v := (.bool false)) rfl rfl (by kernel_rfl) (by kernel_rfl) (by kernel_rfl) (fun _ _ _ h => h) (by kernel_rfl) (fun w hSw => by (obtain _ := hSw); go_simp) hHeld ?_
                  try simp only [List.setIfInBounds_toArray, List.set_cons_zero, List.set_cons_succ]
                  refine held_take (i := 10) (d := 194) (v := (.bool false)) rfl rfl (by kernel_rfl) (by kernel_rfl) (by kernel_rfl) (fun _ _ _ h => h) (by kernel_rfl) (fun w hSw => by (obtain _ := hSw); go_simp) hHeld ?_
                  try simp only [List.setIfInBounds_toArray, List.set_cons_zero, List.set_cons_succ]
                  refine held_take (i := 11) (d := 195) (v := (.bool false)) rfl rfl (by kernel_rfl) (by kernel_rfl) (by kernel_rfl) (fun _ _ _ h => h) (by kernel_rfl) (fun w hSw => by (obtain _ := hSw); go_simp) hHeld ?_
                  try simp only [List.setIfInBounds_toArray, List.set_cons_zero, List.set_cons_succ]
                  refine held_take (i := 12) (d := 196) (v := (.bool false)) rfl rfl (by kernel_rfl) (by kernel_rfl) (by kernel_rfl) (fun _ _ _ h => h) (by kernel_rfl) (fun w hSw => by (obtain _ := hSw); go_simp) hHeld ?_
                  try simp only [List.setIfInBounds_toArray, List.set_cons_zero, List.set_cons_succ]
                  refine held_skip (i := 13) (d := 197) rfl rfl (by kernel_rfl) (by kernel_rfl) (by kernel_rfl) (fun _ _ _ h => h) (by kernel_rfl) hHeld ?_
                  try simp only [List.setIfInBounds_toArray, List.set_cons_zero, List.set_cons_succ]
                  refine held_skip (i := 14) (d := 198) rfl rfl (by kernel_rfl) (by kernel_rfl) (by kernel_rfl) (fun _ _ _ h => h) (by kernel_rfl) hHeld ?_
                  try simp only [List.setIfInBounds_toArray, List.set_cons_zero, List.set_cons_succ]
                  refine held_skip (i := 15) (d := 199) rfl rfl (by kernel_rfl) (by kernel_rfl) (by kernel_rfl) (fun _ _ _ h => h) (by kernel_rfl) hHeld ?_
                  try simp only [List.setIfInBounds_toArray, List.set_cons_zero, List.set_cons_succ]
                  refine held_skip (i := 16) (d := 200) rfl rfl (by kernel_rfl) (by kernel_rfl) (by kernel_rfl) (fun _ _ _ h => h) (by kernel_rfl) hHeld ?_
                  try simp only [List.setIfInBounds_toArray, List.set_cons_zero, List.set_cons_succ]
                  refine held_skip (i := 17) (d := 201) rfl rfl (by kernel_rfl) (by kernel_rfl) (by kernel_rfl) (fun _ _ _ h => h) (by kernel_rfl) hHeld ?_
                  try simp only [List.setIfInBounds_toArray, List.set_cons_zero, List.set_cons_succ]
                  refine held_skip (i := 18) (d := 202) rfl rfl (by kernel_rfl) (by kernel_rfl) (by kernel_rfl) (fun _ _ _ h => h) (by kernel_rfl) hHeld ?_
                  try simp only [List.setIfInBounds_toArray, List.set_cons_zero, List.set_cons_succ]
                  refine held_skip (i := 19) (d := 203) rfl rfl (by kernel_rfl) (by kernel_rfl) (by kernel_rfl) (fun _ _ _ h => h) (by kernel_rfl) hHeld ?_
                  try simp only [List.setIfInBounds_toArray, List.set_cons_zero, List.set_cons_succ]
                  refine held_take (i := 20) (d := 204) (v := (.bool false)) rfl rfl (by kernel_rfl) (by kernel_rfl) (by kernel_rfl) (fun _ _ _ h => h) (by kernel_rfl) (fun w hSw => by (obtain _ := hSw); go_simp) hHeld ?_
                  try simp only [List.setIfInBounds_toArray, List.set_cons_zero, List.set_cons_succ]
                  refine held_take (i := 21) (d := 205) (v := (.bool false)) rfl rfl (by kernel_rfl) (by kernel_rfl) (by kernel_rfl) (fun _ _ _ h => h) (by kernel_rfl) (fun w hSw => by (obtain _ := hSw); go_simp) hHeld ?_
                  try simp only [List.setIfInBounds_toArray, List.set_cons_zero, List.set_cons_succ]
                  refine wpAnyH_done (by kernel_rfl) ?_ _
                  go_wp2_with fail
                  go_roundw
                  case rel => exact ⟨(q2 : Int) + 1, rfl, by omega, by rw [HX2.out.2.2]; omega, S4, HPL.out⟩
                  case measure =>
                    simp [intOf]
            · have HM4 := Lib.hid hm4
              clear hm4
              go_wp2_with fail
              go_roundw
              case rel => exact ⟨k + 1, X2, XA2, xc2, nx2, by simp, by omega, by rw [HX2.out.2.2], HX2.out.1, HX2.out.2.1, HM4.out⟩
              case measure =>
                simp [intOf]
                omega
    · have hkn : k = n := by omega
      subst hkn
      obtain ⟨S, hI, hF⟩ := hm
      have HB := Lib.hid hF.1.2
      clear hI hF hX hfew
      go_wp2_with fail
      refine (HAW.out _).mono ?_
      rintro e w2 ⟨rfl, hb⟩
      have HB2 := Lib.hid (HB.out.trans (hb.mono HB.out.size))
      clear hb
      go_wp2_with fail
      go_ret
      exact ⟨rfl, HB2.out⟩
end Go.Proofs.Ytgnpnjfoenmfbaa.Bg
