/-
  RunesQuotes answers true of any text.
-/
import Derived.Test.YtlaiofpaahkceaaDoorRunUnquote
import Derived.Test.YtlaiofpaahkceaaDoorRunRefQuote
namespace Go.Proofs.YtlaiofpaahkceaaDoor
open Go.RowKit Mem Run

set_option maxHeartbeats 2000000 in
theorem runesquotes_true (s : ByteArray) (w : World) (hT : Tab w) (hE : Errs w) : Calls Tryd.prog 4 #[.string s] w (Tells true w) := by
  have HTT : Hid (∀ W : World, Below w.heap.size w W → Tab W) := Lib.hid fun W h => hT.below h hT.lt
  have HEE : Hid (∀ W : World, Below w.heap.size w W → Errs W) := Lib.hid fun W h => hE.bel h
  by_cases h1 : s.size ≤ 1000
  · have b1 : decide ((s.size : Int) > 1000) = false := by simp; omega
    have hq := quote_any s (by omega)
    have hrq := fun W => refquote_any s (by omega) W
    have hlen := quote_len (bts_lt s)
    rw [length_bts] at hlen
    have hbq : bts (txt (quote (bts s))) = quote (bts s) := bts_txt _ (quote_lt (bts_lt s))
    have hsq : (txt (quote (bts s))).size ≤ 16777216 := by rw [size_txt]; omega
    obtain ⟨q, hqq⟩ : ∃ q, txt (quote (bts s)) = q := ⟨_, rfl⟩
    rw [hqq] at hq hrq hbq hsq
    have hun : ∀ W : World, Tab W → Errs W → Calls Tryd.prog 18 #[.string q] W fun e w' => e = .returned (.tuple #[.string s, .bool true]) ∧ Below W.heap.size W w' := fun W h2 h3 => by
      refine (unquote_any q hsq W h2 h3).mono ?_
      rintro e w' ⟨t, is, rfl, htold, hb⟩
      obtain ⟨rfl, ht⟩ := htold.2.2 (bts s) (bts_lt s) hbq
      obtain rfl := bts_inj ht
      exact ⟨rfl, hb⟩
    have HQ := Lib.hid hq
    have HR := Lib.hid hrq
    have HU := Lib.hid hun
    clear hq hrq hun hbq hsq hqq hlen hT hE
    go_enter Tryd.func4, Tryd.ntmps4
    go_wp2_with fail
    refine (HQ.out w (HTT.out w (Below.refl _ _))).mono ?_
    rintro e w1 ⟨rfl, hb1⟩
    go_wp2_with fail
    refine (HU.out w1 (HTT.out w1 hb1) (HEE.out w1 hb1)).mono ?_
    rintro e w2 ⟨rfl, hb2'⟩
    have hb2 := bel_trans hb1 hb2'
    go_wp2_with fail
    refine (HR.out w2).mono ?_
    rintro e w3 ⟨rfl, hb3'⟩
    have hb3 := bel_trans hb2 hb3'
    go_wp2_with fail
    refine (awake_any w3 (HTT.out w3 hb3)).mono ?_
    rintro e w4 ⟨rfl, hb4⟩
    go_wp2
    go_ret
    exact ⟨rfl, bel_trans hb3 hb4⟩
  · have b1 : decide ((s.size : Int) > 1000) = true := by simp; omega
    go_enter Tryd.func4, Tryd.ntmps4
    go_wp2_with fail
    refine (awake_any w hT).mono ?_
    rintro e w2 ⟨rfl, hb2⟩
    go_wp2
    go_ret
    exact ⟨rfl, hb2⟩
end Go.Proofs.YtlaiofpaahkceaaDoor
