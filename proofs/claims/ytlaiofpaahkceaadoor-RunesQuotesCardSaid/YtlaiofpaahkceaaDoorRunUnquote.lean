/-
  runes.Unquote of any text: it tells a text only if that text is quoted so, and else nothing; and what is quoted is unquoted as it was.
-/
import Derived.Test.YtlaiofpaahkceaaDoorRunQuoteAll
namespace Go.Proofs.YtlaiofpaahkceaaDoor
open Go.RowKit Mem Run

def strLen : Value → Nat | .string s => s.size | _ => 0

/-- What is told of a text by Unquote. -/
def Told (s t : ByteArray) (is : Bool) : Prop :=
  (is = true → quote (bts t) = bts s) ∧ (is = false → t = ⟨#[]⟩) ∧ (∀ l : List Nat, (∀ b ∈ l, b < 256) → bts s = quote l → is = true ∧ bts t = l)

/-- How far a text in quotes is read. -/
def Far (s : ByteArray) (t : ByteArray) (ok : Bool) (bs : List Nat) : Prop :=
  ∀ l : List Nat, (∀ b ∈ l, b < 256) → bts s = quote l → ok = true ∧ ∃ done ps, pieces l = done ++ ps ∧ bs = done.flatMap Pc.bytes ∧ bts t = forms ps
theorem far_start (s : ByteArray) : Far s ((inner s).getD ⟨#[]⟩) (inner s).isSome [] := by
  intro l hl h
  have hsz := size_bts h
  have hlen : (quote l).length = (forms (pieces l)).length + 2 := by simp [quote]
  have h0 : (bts s).getD 0 0 = 34 := by rw [h]; rfl
  have h1 : (bts s).getD (s.size - 1) 0 = 34 := by
    rw [h, hsz, hlen]
    simp [quote, List.getD]
  have hin : inner s = some (s.extract 1 (s.size - 1)) := by rw [inner, if_pos ⟨by omega, h0, h1⟩]
  rw [hin]
  refine ⟨rfl, [], pieces l, rfl, rfl, ?_⟩
  show bts (s.extract 1 (s.size - 1)) = _
  rw [bts_extract, h, hsz, hlen, quote]
  simp
theorem far_step {s t t' : ByteArray} {bs bs' : List Nat} {ok' : Bool} (h : Far s t true bs) (h0 : 0 < t.size) (hst : ∀ p r, p.good → bts t = form p ++ r → bs' = bs ++ p.bytes ∧ bts t' = r ∧ ok' = true) : Far s t' ok' bs' := by
  intro l hl hq
  obtain ⟨_, done, ps, h1, h2, h3⟩ := h l hl hq
  cases ps with
  | nil =>
    have := size_bts h3
    simp only [forms, List.flatMap_nil, List.length_nil] at this
    omega
  | cons p ps =>
    have hg := pieces_good l hl p (by rw [h1]; simp)
    obtain ⟨e1, e2, e3⟩ := hst p (forms ps) hg (by rw [h3]; rfl)
    exact ⟨e3, done ++ [p], ps, by rw [h1]; simp, by rw [e1, h2]; simp, e2⟩
theorem far_end {s t : ByteArray} {ok : Bool} {bs : List Nat} (h : Far s t ok bs) (h0 : ok = true → t.size = 0) : ∀ l : List Nat, (∀ b ∈ l, b < 256) → bts s = quote l → ok = true ∧ bs = l := by
  intro l hl hq
  obtain ⟨hok, done, ps, h1, h2, h3⟩ := h l hl hq
  refine ⟨hok, ?_⟩
  cases ps with
  | nil =>
    rw [List.append_nil] at h1
    rw [h2, ← h1, join_pieces]
  | cons p ps =>
    have hg := pieces_good l hl p (by rw [h1]; simp)
    have := size_bts h3
    have h4 := form_len hg
    rw [h0 hok] at this
    simp [forms] at this
    omega

/-- What holds at each round's head. -/
def UnqRel (s : ByteArray) (w : World) (v4 v5 v6 : Value) (wr : World) : Prop :=
  ∃ (t : ByteArray) (ok : Bool) (V : Option Addr) (n c : Nat) (bs : List Nat), v4 = .string t ∧ v5 = .bool ok ∧ v6 = .slice V n c ∧ wr.ownsRow w.heap.size 5 1 (.slice V n c) n (cs bs) ∧ Below w.heap.size w wr ∧ t.size ≤ s.size ∧ n + 4 * t.size ≤ 4 * s.size ∧ Far s t ok bs

theorem size_inner (s : ByteArray) : ((inner s).getD ⟨#[]⟩).size ≤ s.size := by
  unfold inner
  split
  · show (s.extract 1 (s.size - 1)).size ≤ _
    rw [size_bts (bts_extract s 1 (s.size - 1)), List.length_take, List.length_drop, length_bts]
    omega
  · exact Nat.zero_le _

theorem told_false {s : ByteArray} (h : ∀ l : List Nat, (∀ b ∈ l, b < 256) → bts s = quote l → False) : Told s ⟨#[]⟩ false :=
  ⟨(fun h => by cases h), fun _ => rfl, fun l hl hq => (h l hl hq).elim⟩

set_option maxHeartbeats 4000000 in
theorem unquote_any (s : ByteArray) (hs : s.size ≤ 16777216) (w : World) (hT : Tab w) (hE : Errs w) :
    Calls Tryd.prog 18 #[.string s] w fun e w' => ∃ (t : ByteArray) (is : Bool), e = .returned (.tuple #[.string t, .bool is]) ∧ Told s t is ∧ Below w.heap.size w w' := by
  have HT : Hid (∀ W : World, Below w.heap.size w W → Tab W) := Lib.hid fun W h => hT.below h hT.lt
  have HE : Hid (∀ W : World, Below w.heap.size w W → Errs W) := Lib.hid fun W h => hE.bel h
  have hin := within_any s w (by omega)
  have hsi := size_inner s
  have hfar := far_start s
  obtain ⟨t0, ht0⟩ : ∃ t, (inner s).getD ⟨#[]⟩ = t := ⟨_, rfl⟩
  obtain ⟨z0, hz0⟩ : ∃ z, (inner s).isSome = z := ⟨_, rfl⟩
  rw [ht0, hz0] at hin hfar
  rw [ht0] at hsi
  have HI := Lib.hid hin
  have HF0 := Lib.hid hfar
  clear hT hE hin ht0 hz0 hfar
  go_enter Tryd.func18, Tryd.ntmps18
  go_wp2_with (go_at_call 24; refine HI.out.mono ?_; rintro e w' ⟨rfl, rfl⟩)
  go_loopw [4, 5, 6] (UnqRel s w) (fun v4 _ _ _ => strLen v4)
  case atStart => exact ⟨t0, z0, none, 0, 0, [], rfl, rfl, rfl, own_nil _ _, Below.refl _ _, hsi, by omega, HF0.out⟩
  case round =>
    obtain ⟨t, ok, V, n, c, bs, rfl, rfl, rfl, hown, hbel, hts, hnt, hfar⟩ := hrel
    have hemp : t.toList.isEmpty = decide (t.size = 0) := by
      rw [empty_tell]
      have := length_bts t
      cases h : bts t with
      | nil => rw [h] at this; simp at this; simp [← this]
      | cons a l => rw [h] at this; simp at this; simp [← this]
    have HO := Lib.hid hown
    have HB := Lib.hid hbel
    have HF := Lib.hid hfar
    have hsz := hbel.size
    clear hown hbel hfar
    by_cases hgo : ok = true ∧ t.size ≠ 0
    · obtain ⟨rfl, h0⟩ := hgo
      have he : t.toList.isEmpty = false := by rw [hemp]; simp [h0]
      clear hemp
      have hst := step_any w.heap.size n V c bs t wr HO.out hsz (by omega) (by omega) (by omega) (HE.out wr HB.out)
      have HS := Lib.hid hst
      clear hst
      go_wp2_with (go_at_call 25; refine HS.out.mono ?_; rintro e w2 ⟨V2, n2, c2, bs2, t2, ok2, rfl, hown2, hb2, hlt2, hn2, hst2⟩)
      go_roundw
      case rel =>
        have hl := own_len HO.out
        exact ⟨t2, ok2, V2, n2, c2, bs2, rfl, rfl, rfl, hown2, HB.out.trans hb2, by omega, by omega, far_step HF.out (by omega) hst2⟩
      case measure =>
        exact hlt2
    · have hrun := run_text (P := Tryd.prog) (w := wr) 35 9 5 Tryd.underlying35 Tryd.underlying5 Tryd.underlying9 (Rd.own HO.out)
      have hl := own_len HO.out
      have hend := far_end HF.out fun hok => by
        rcases Nat.eq_zero_or_pos t.size with h | h
        · exact h
        · exact absurd ⟨hok, by omega⟩ hgo
      have HL := Lib.hid hl
      have HEND := Lib.hid hend
      cases ok with
      | true =>
        have h0 : t.size = 0 := by
          rcases Nat.eq_zero_or_pos t.size with h | h
          · exact h
          · exact absurd ⟨rfl, by omega⟩ hgo
        have he : t.toList.isEmpty = true := by rw [hemp]; simp [h0]
        have hq := quote_any (txt bs) (by rw [size_txt]; omega) wr (HT.out wr HB.out)
        have hcmp := eq_tell (txt (quote (bts (txt bs)))) s
        rw [bts_txt _ (quote_lt (bts_lt _))] at hcmp
        have HQ := Lib.hid hq
        obtain ⟨zz, hzz⟩ : ∃ zz, decide (quote (bts (txt bs)) = bts s) = zz := ⟨_, rfl⟩
        rw [hzz] at hcmp
        have HZ := Lib.hid hzz
        clear hq hemp hend hl hzz hgo h0
        cases zz with
        | true =>
          go_wp2_with (go_at_call 17; refine HQ.out.mono ?_; rintro e w2 ⟨rfl, hb2⟩)
          go_ret2
          have hz := of_decide_eq_true HZ.out
          refine ⟨txt bs, true, rfl, ⟨fun _ => hz, (fun h => by cases h), fun l hl' hq' => ?_⟩, HB.out.trans (hb2.mono hsz)⟩
          obtain ⟨_, rfl⟩ := HEND.out l hl' hq'
          exact ⟨rfl, bts_txt _ hl'⟩
        | false =>
          go_wp2_with (go_at_call 17; refine HQ.out.mono ?_; rintro e w2 ⟨rfl, hb2⟩)
          go_ret2
          have hz := of_decide_eq_false HZ.out
          refine ⟨⟨#[]⟩, false, rfl, told_false fun l hl' hq' => ?_, HB.out.trans (hb2.mono hsz)⟩
          obtain ⟨_, rfl⟩ := HEND.out l hl' hq'
          rw [bts_txt _ hl'] at hz
          exact hz hq'.symm
      | false =>
        clear hemp hend hl hgo
        go_wp2
        go_ret2
        refine ⟨⟨#[]⟩, false, rfl, told_false fun l hl' hq' => ?_, HB.out⟩
        have := (HEND.out l hl' hq').1
        cases this
end Go.Proofs.YtlaiofpaahkceaaDoor
