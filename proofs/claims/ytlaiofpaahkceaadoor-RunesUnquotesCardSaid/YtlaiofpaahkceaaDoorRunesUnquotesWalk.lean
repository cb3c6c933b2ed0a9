/-
  RunesUnquotes answers true of any text.
-/
import Derived.Test.YtlaiofpaahkceaaDoorRunUnquote
import Derived.Test.YtlaiofpaahkceaaDoorRunAwake
namespace Go.Proofs.YtlaiofpaahkceaaDoor
open Go.RowKit Mem Run

theorem len_quote (l : List Nat) (h : ∀ b ∈ l, b < 256) : l.length ≤ 4 * (quote l).length := by
  have h1 := forms_len (pieces_good l h)
  have h2 : ∀ ps : List Pc, (ps.flatMap Pc.bytes).length ≤ 4 * ps.length := by
    intro ps
    induction ps with
    | nil => simp
    | cons p ps ih =>
      have := bytes_len p
      simp only [List.flatMap_cons, List.length_append, List.length_cons]
      omega
  have h3 := h2 (pieces l)
  rw [join_pieces] at h3
  simp [quote]
  omega

set_option maxHeartbeats 1000000 in
theorem runesunquotes_true (s : ByteArray) (w : World) (hT : Tab w) (hE : Errs w) : Calls Tryd.prog 5 #[.string s] w (Tells true w) := by
  have HT : Hid (∀ W : World, Below w.heap.size w W → Tab W) := Lib.hid fun W h => hT.below h hT.lt
  by_cases h1 : s.size ≤ 1000
  · have b1 : decide ((s.size : Int) > 1000) = false := by simp; omega
    have hu := unquote_any s (by omega) w hT hE
    have HU := Lib.hid hu
    clear hu hT hE
    go_enter Tryd.func5, Tryd.ntmps5
    go_wp2_with fail
    refine HU.out.mono ?_
    rintro e w1 ⟨t, is, rfl, htold, hb1⟩
    cases is with
    | false =>
      obtain rfl := htold.2.1 rfl
      go_wp2_with fail
      refine (awake_any w1 (HT.out w1 hb1)).mono ?_
      rintro e w2 ⟨rfl, hb2⟩
      go_wp2
      go_ret
      exact ⟨rfl, bel_trans hb1 hb2⟩
    | true =>
      have hq := htold.1 rfl
      have hl := len_quote (bts t) (bts_lt t)
      rw [hq, length_bts, length_bts] at hl
      have hqq := quote_any t (by omega) w1 (HT.out w1 hb1)
      rw [hq, txt_bts] at hqq
      have HQ := Lib.hid hqq
      clear htold hq hl hqq
      go_wp2_with fail
      refine HQ.out.mono ?_
      rintro e w2 ⟨rfl, hb2⟩
      have hb2' := bel_trans hb1 hb2
      go_wp2_with fail
      refine (awake_any w2 (HT.out w2 hb2')).mono ?_
      rintro e w3 ⟨rfl, hb3⟩
      go_wp2
      go_ret
      exact ⟨rfl, bel_trans hb2' hb3⟩
  · have b1 : decide ((s.size : Int) > 1000) = true := by simp; omega
    go_enter Tryd.func5, Tryd.ntmps5
    go_wp2_with fail
    refine (awake_any w hT).mono ?_
    rintro e w2 ⟨rfl, hb2⟩
    go_wp2
    go_ret
    exact ⟨rfl, hb2⟩
end Go.Proofs.YtlaiofpaahkceaaDoor
