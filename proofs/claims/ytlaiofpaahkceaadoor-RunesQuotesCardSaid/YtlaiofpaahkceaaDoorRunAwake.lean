/-
  The document's example: awake answers true.
-/
import Derived.Test.YtlaiofpaahkceaaDoorRunQuoteAll
namespace Go.Proofs.YtlaiofpaahkceaaDoor
open Go.RowKit Mem Run

theorem ex_pieces : pieces [97, 255, 206, 177] = [.rune 97, .lone 255, .rune 945] := by decide
theorem ex_quote : quote [97, 255, 206, 177] = [34, 97, 92, 120, 102, 102, 92, 117, 51, 98, 49, 46, 34] := by
  rw [quote, ex_pieces]
  have h1 : hexd 255 = [102, 102] := by rw [hexd_two (by omega) (by omega)]; rfl
  have h2 : hexd 945 = [51, 98, 49] := by rw [hexd_more (by omega), hexd_two (by omega) (by omega)]; rfl
  simp [forms, form, h1, h2]

set_option maxHeartbeats 1000000 in
theorem awake_any (w : World) (hT : Tab w) : Calls Tryd.prog 8 #[] w (Tells true w) := by
  have hT1 : Tab (w.alloc (.cells #[.int .u8 97, .int .u8 255, .int .u8 206, .int .u8 177] 5)) := (World.cell?_alloc_lt w _ _ hT.lt).trans hT
  have hconv := run_text (P := Tryd.prog) (w := w.alloc (.cells #[.int .u8 97, .int .u8 255, .int .u8 206, .int .u8 177] 5)) 35 9 5 Tryd.underlying35 Tryd.underlying5 Tryd.underlying9 (Rd.few w [97, 255, 206, 177] _ 5 rfl 4 rfl (by omega))
  obtain ⟨s, hs⟩ : ∃ s, txt [97, 255, 206, 177] = s := ⟨_, rfl⟩
  have hbs : bts s = [97, 255, 206, 177] := by rw [← hs]; exact bts_txt _ (by decide)
  have hsz : s.size = 4 := size_bts hbs
  have hq := quote_any s (by omega) _ hT1
  rw [hbs, ex_quote] at hq
  have hc := fun W => count_any s W (by omega)
  rw [hbs, ex_pieces] at hc
  have hka := fun W => key_any ⟨#[97]⟩ W
  have e1 : begRet (key (bts ⟨#[97]⟩)) = 0 := by decide
  rw [e1] at hka
  have hk0 := fun W => key_any ⟨#[]⟩ W
  have e2 : begRet (key (bts ⟨#[]⟩)) = 11 := by decide
  rw [e2] at hk0
  rw [hs] at hconv
  have HQ := Lib.hid hq
  have HC := Lib.hid hc
  have HA := Lib.hid hka
  have H0 := Lib.hid hk0
  have hcmp : ((txt [34, 97, 92, 120, 102, 102, 92, 117, 51, 98, 49, 46, 34]).toList == ([34, 97, 92, 120, 102, 102, 92, 117, 51, 98, 49, 46, 34] : List UInt8)) = true := by rw [Lib.toList_data]; decide
  clear hq hc hka hk0 e1 e2 hbs hs hT hT1 hsz
  go_enter Tryd.func8, Tryd.ntmps8
  go_wp2_with fail
  refine HQ.out.mono ?_
  rintro e w1 ⟨rfl, hb1⟩
  have hb1' : Below w.heap.size w w1 := ((Below.refl _ w).alloc (Nat.le_refl _) _).trans (hb1.mono (by rw [size_alloc]; omega))
  go_wp2_with fail
  refine (HC.out w1).mono ?_
  rintro e w2 ⟨rfl, hb2⟩
  have hb2' := bel_trans hb1' hb2
  go_wp2_with fail
  refine (HA.out w2).mono ?_
  rintro e w3 ⟨rfl, hb3⟩
  have hb3' := bel_trans hb2' hb3
  go_wp2_with fail
  refine (H0.out w3).mono ?_
  rintro e w4 ⟨rfl, hb4⟩
  go_wp2
  go_ret
  exact ⟨rfl, bel_trans hb3' hb4⟩
end Go.Proofs.YtlaiofpaahkceaaDoor
