/-
  Texts of earlier layers, as one.
-/
import Derived.Test.YtcnjjabjdepjgaaDskHave
import Derived.Test.YtcnjjabjdepjgaaRBase
import Derived.Deep.Cut
import Derived.Lib.SmallJoins
/- The document's example. -/
namespace Go.Proofs.Ytcnjjabjdepjgaa.Dsk
open Go.RowKit Mem Cod

theorem awake_ab : whole (doAppend na ab) (newDk 9) = (0, ⟨[⟨na, [], ab⟩], 9, -1, false⟩) := by
  rw [whole_up rfl (show (-1 : Int) ≠ 0 by decide), deed_none rfl rfl, append_new name_a (by decide) (by rfl) (by decide)]
  rfl
theorem awake_cd : whole (doAppend na cd) ⟨[⟨na, ab, []⟩], 9, -1, false⟩ = (0, ⟨[⟨na, ab, cd⟩], 9, -1, false⟩) := by
  rw [whole_up rfl (show (-1 : Int) ≠ 0 by decide), deed_none rfl rfl, append_old (i := 0) name_a (by decide) (by rw [place_cons, if_pos (eqn_self _)])]
  rfl
set_option maxRecDepth 20000 in
set_option maxHeartbeats 4000000 in
theorem disk_awake {I : Held} (hH : Has I) (w : World) : Calls Try.prog 9 #[] w (Tells true w) := by
  have hFr : Frame (FNew w) := frame_new w
  have HN := Lib.hid (hH.new 9 w)
  go_enter Try.func9, Try.ntmps9
  go_wp2_with fail
  refine HN.out.mono ?_
  rintro e w1 ⟨p, S0, rfl, hI0, hl0, hb0⟩
  obtain ⟨S, hI, hF, hn⟩ := Mine.lit (F := FNew w) ⟨S0, hI0, hl0, hb0⟩ hH hFr (.cells #[.int .u8 97, .int .u8 98] 5 (2, 3))
  have ha := hH.append p S (newDk 9) na (some ⟨w1.heap.size, 0, none⟩) 2 2 ab _ hI (fine_new (by decide)) (Rd.litF w1 (cs ab) 5 (2, 3) 2 rfl (by unfold maxLen; decide)) (outs_lit hn) (by decide) (by decide)
  rw [awake_ab] at ha
  have hcvab := Lib.run_convert_bytes_const (P := Try.prog) w1 29 5 #[.int .u8 97, .int .u8 98] 2 2 Try.underlying29 Try.underlying5
  have HA := Lib.hid ha
  have HF := Lib.hid hF
  clear hI0 hl0 hb0 hI hF hn ha HN
  go_wp2_with fail
  refine HA.out.mono ?_
  rintro e w2 ⟨rfl, hs2⟩
  obtain ⟨S2, hI2, hF2⟩ := hs2.mine hFr HF.out
  have ha := hH.sync p S2 _ na w2 hI2 (fine_one (by decide) (by decide) (by decide)) (by decide)
  rw [first_sync, List.nil_append] at ha
  have HA2 := Lib.hid ha
  have HF2 := Lib.hid hF2
  clear hs2 hI2 hF2 ha HA HF
  go_wp2_with fail
  refine HA2.out.mono ?_
  rintro e w3 ⟨rfl, hs3⟩
  obtain ⟨S3, hI3, hF3, hn3⟩ := Mine.lit (hs3.mine hFr HF2.out) hH hFr (.cells #[.int .u8 99, .int .u8 100] 5 (2, 3))
  have ha := hH.append p S3 _ na (some ⟨w3.heap.size, 0, none⟩) 2 2 cd _ hI3 (fine_one (by decide) (by decide) (by decide)) (Rd.litF w3 (cs cd) 5 (2, 3) 2 rfl (by unfold maxLen; decide)) (outs_lit hn3) (by decide) (by decide)
  rw [awake_cd] at ha
  have hcvcd := Lib.run_convert_bytes_const (P := Try.prog) w3 29 5 #[.int .u8 99, .int .u8 100] 2 2 Try.underlying29 Try.underlying5
  have HA3 := Lib.hid ha
  have HF3 := Lib.hid hF3
  clear hs3 hI3 hF3 hn3 ha HA2 HF2
  go_wp2_with fail
  refine HA3.out.mono ?_
  rintro e w4 ⟨rfl, hs4⟩
  obtain ⟨S4, hI4, hF4, hn4⟩ := Mine.lit (hs4.mine hFr HF3.out) hH hFr (.cells #[.int .i64 1] 3)
  have ha := hH.boot p S4 _ (some ⟨w4.heap.size, 0, none⟩) 1 1 [1] _ hI4 (fine_one (by decide) (by decide) (by decide)) (Rd.lit w4 (vs [1]) 3 1 rfl (by unfold maxLen; decide)) (outs_lit hn4)
  rw [awake_boot] at ha
  have HA4 := Lib.hid ha
  have HF4 := Lib.hid hF4
  clear hs4 hI4 hF4 hn4 ha HA3 HF3
  go_wp2_with fail
  refine HA4.out.mono ?_
  rintro e w5 ⟨rfl, hs5⟩
  obtain ⟨S5, hI5, hF5⟩ := hs5.mine hFr HF4.out
  have ha := hH.read p S5 _ na w5 hI5 (fine_one (by decide) (by decide) (by decide)) (by decide)
  rw [read_one] at ha
  have HA5 := Lib.hid ha
  have HF5 := Lib.hid hF5
  clear hs5 hI5 hF5 ha HA4 HF4
  go_wp2_with fail
  refine HA5.out.mono ?_
  rintro e w6 ⟨A, n, c, rfl, ho, hs6⟩
  have hrd := Rd.own ho
  have hbel := hFr.go HF5.out hs6.choose_spec.2.2.1 hs6.choose_spec.2.1
  have HB6 := Lib.hid hbel.2
  have hcv : (convert 29 9 (.slice A n c)).run Try.prog w6 = .ok (.string (Mem.txt [97, 98, 99])) w6 := Mem.run_text 29 9 5 Try.underlying29 Try.underlying5 Try.underlying9 hrd
  have htx : Mem.txt [97, 98, 99] = ⟨#[97, 98, 99]⟩ := rfl
  rw [htx] at hcv
  clear hrd ho hs6 hbel HA5 HF5
  go_wp2_with fail
  go_ret
  exact ⟨rfl, HB6.out⟩
end Go.Proofs.Ytcnjjabjdepjgaa.Dsk
