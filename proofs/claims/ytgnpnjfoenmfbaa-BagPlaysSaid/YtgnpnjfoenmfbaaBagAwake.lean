/-
  Texts of earlier layers, as one.
-/
import Derived.Test.YtgnpnjfoenmfbaaBagTake
import Derived.Test.YtgnpnjfoenmfbaaBagTwice
import Derived.Test.YtgnpnjfoenmfbaaBagFilter
/- A bag, and what lasts while it alone is turned; the document's example. -/
namespace Go.Proofs.Ytgnpnjfoenmfbaa.Bg
open Go.RowKit Mem Dsk

/-- A bag, and what lasts. -/
def Mine (F : World → (Nat → Prop) → Prop) (w : World) (p : Nat) (b : Bag) : Prop := ∃ S, BI w S p b ∧ F w S
section
variable {F : World → (Nat → Prop) → Prop} {w w' : World} {S : Nat → Prop} {p : Nat} {b : Bag}
theorem Stays.mine (h : Stays BI p S b w w') (hFr : Dsk.Frame F) (hF : F w S) : Mine F w' p b := by
  obtain ⟨S', h1, h2, h3⟩ := h
  exact ⟨S', h1, hFr.go hF h3 h2⟩
theorem mine_keep (h : BI w' S p b) (hk : Keeps S w w') (hFr : Dsk.Frame F) (hF : F w S) : Mine F w' p b := ⟨S, h, hFr.go hF hk (Grew.refl S w)⟩
theorem Mine.bel (h : Mine F w p b) (hFr : Dsk.Frame F) (hb : Below w.heap.size w w') : Mine F w' p b := by
  obtain ⟨S, h1, h2⟩ := h
  exact ⟨S, bi_below h1 hb, hFr.go h2 (Keeps.ofBelow hb) (Grew.refl S w)⟩
end
set_option maxRecDepth 20000 in
set_option maxHeartbeats 4000000 in
theorem bag_awake (w : World) : Calls Try.prog 6 #[] w (Tells true w) := by
  have hFr : Dsk.Frame (FNew w) := frame_new w
  have HN := Lib.hid (new_any 2 w)
  have e0 : newBag 2 = ⟨[], 2, 0⟩ := rfl
  rw [e0] at HN
  go_enter Try.func6, Try.ntmps6
  go_wp2_with fail
  refine HN.out.mono ?_
  rintro e w1 ⟨p, S, rfl, hI, hl, hb⟩
  have ha : Calls Try.prog 9 #[ptr p, .agg #[.int .i64 1, .int .i64 0, .slice none 0 0]] w1 (fun e w' => e = .returned (.bool true) ∧ Stays BI p S ⟨[⟨1, 0, []⟩], 2, 1⟩ w1 w') :=
    put_any p S ⟨[], 2, 0⟩ ⟨1, 0, []⟩ none 0 w1 hI ⟨by decide, by decide, by decide, fun x h => by cases h⟩ (Rd.nil_ w1) (by decide)
  have HA := Lib.hid ha
  have HF : Hid (FNew w w1 S) := Lib.hid ⟨hl, hb⟩
  clear hI hl hb ha HN
  go_wp2_with fail
  refine HA.out.mono ?_
  rintro e w2 ⟨rfl, hs2⟩
  obtain ⟨S2, hI2, hF2⟩ := hs2.mine hFr HF.out
  have ha : Calls Try.prog 9 #[ptr p, .agg #[.int .i64 2, .int .i64 0, .slice none 0 0]] w2 (fun e w' => e = .returned (.bool true) ∧ Stays BI p S2 ⟨[⟨1, 0, []⟩, ⟨2, 0, []⟩], 2, 2⟩ w2 w') :=
    put_any p S2 ⟨[⟨1, 0, []⟩], 2, 1⟩ ⟨2, 0, []⟩ none 0 w2 hI2 ⟨by decide, by decide, by decide, fun x h => by rw [List.mem_singleton.1 h]; decide⟩ (Rd.nil_ w2) (by decide)
  have HA2 := Lib.hid ha
  have HF2 := Lib.hid hF2
  clear hs2 hI2 hF2 ha HA HF
  go_wp2_with fail
  refine HA2.out.mono ?_
  rintro e w3 ⟨rfl, hs3⟩
  obtain ⟨S3, hI3, hF3⟩ := hs3.mine hFr HF2.out
  have hfine : Fine ⟨[⟨1, 0, []⟩, ⟨2, 0, []⟩], 2, 2⟩ := ⟨by decide, by decide, by decide, fun x h => by
    simp at h
    rcases h with rfl | rfl <;> decide⟩
  have ha : Calls Try.prog 9 #[ptr p, .agg #[.int .i64 0, .int .i64 0, .slice none 0 0]] w3 (fun e w' => e = .returned (.bool false) ∧ Stays BI p S3 ⟨[⟨1, 0, []⟩, ⟨2, 0, []⟩], 2, 2⟩ w3 w') :=
    put_any p S3 ⟨[⟨1, 0, []⟩, ⟨2, 0, []⟩], 2, 2⟩ ⟨0, 0, []⟩ none 0 w3 hI3 hfine (Rd.nil_ w3) (by decide)
  have HA3 := Lib.hid ha
  have HF3 := Lib.hid hF3
  have HFI := Lib.hid hfine
  clear hs3 hI3 hF3 ha HA2 HF2 hfine
  go_wp2_with fail
  refine HA3.out.mono ?_
  rintro e w4 ⟨rfl, hs4⟩
  obtain ⟨S4, hI4, hF4⟩ := hs4.mine hFr HF3.out
  have ha : Calls Try.prog 10 #[ptr p, .int .i64 0] w4 (fun e w' => Shows (some ⟨1, 0, []⟩) w4 e w' ∧ BI w' S4 p ⟨[⟨2, 0, []⟩], 2, 2⟩ ∧ Keeps S4 w4 w') :=
    take_any p S4 ⟨[⟨1, 0, []⟩, ⟨2, 0, []⟩], 2, 2⟩ 0 w4 hI4 HFI.out
  unfold Shows at ha
  simp only [Option.getD_some, Option.isSome_some, List.length_nil] at ha
  have HA4 := Lib.hid ha
  have HF4 := Lib.hid hF4
  clear hs4 hI4 hF4 ha HA3 HF3
  go_wp2_with fail
  refine HA4.out.mono ?_
  rintro e w5 ⟨⟨B, d, rfl, _⟩, hI5, hk5⟩
  have hm5 := mine_keep hI5 hk5 hFr HF4.out
  obtain ⟨S5, hI6, hF6⟩ := hm5.bel hFr (bel_alloc (Below.refl w5.heap.size w5) (.cells #[.int .i64 1, .int .i64 0, .slice B 0 d] 29))
  obtain ⟨f0, _, _⟩ := blk3 (Blk.new w5 29 #[.int .i64 1, .int .i64 0, .slice B 0 d])
  have ha := len_any p S5 ⟨[⟨2, 0, []⟩], 2, 2⟩ _ hI6
  simp only [List.length_singleton] at ha
  have HA5 := Lib.hid ha
  have HF5 := Lib.hid hF6
  clear hI5 hk5 hm5 hI6 hF6 ha HA4 HF4
  go_wp2_with fail
  refine HA5.out.mono ?_
  rintro e w6 ⟨rfl, hu⟩
  subst hu
  have HB6 := Lib.hid HF5.out.2
  clear HA5 HF5
  go_wp2_with fail
  go_ret
  exact ⟨rfl, HB6.out⟩
end Go.Proofs.Ytgnpnjfoenmfbaa.Bg
