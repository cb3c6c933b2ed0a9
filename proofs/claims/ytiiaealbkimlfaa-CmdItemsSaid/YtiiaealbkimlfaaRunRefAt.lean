/-
  The document's answer: the rune at a place of a text (stonecropref04.At) is the piece with which the bytes from there on begin.
-/
import Derived.Test.YtiiaealbkimlfaaRunLite
namespace Go.Proofs.Ytiiaealbkimlfaa
open Go.RowKit Mem Run

/-- What a byte behind the first tells. -/
def tlv (b : Nat) : Int := if tl b then (b : Int) - 128 else -1
theorem tlv_some {b : Nat} (h : tl b = true) : tlv b = (b : Int) - 128 ∧ 128 ≤ b ∧ b < 192 := by
  have := (tl_iff b).1 h
  simp [tlv, h, this]
theorem tlv_none {b : Nat} (h : tl b = false) : tlv b = -1 := by simp [tlv, h]
theorem tail_any (s : ByteArray) (i : Nat) (w : World) : Calls Try.prog 46 #[.string s, .int .i64 (i : Int)] w fun e w' => e = .returned (.int .i64 (tlv ((bts s).getD i 0))) ∧ w = w' := by
  by_cases h : i < s.size
  · have hge : decide ((i : Int) ≥ (s.size : Int)) = false := by simp; omega
    obtain ⟨b, hb⟩ : ∃ b, (bts s).getD i 0 = b := ⟨_, rfl⟩
    have hix := byte_at s .i64 i h hb
    have hb256 : b < 256 := by rw [← hb]; exact getD_lt s i
    rw [hb]
    obtain ⟨β, hβ⟩ : ∃ β : Int, (b : Int) = β := ⟨_, rfl⟩
    rw [hβ] at hix
    have hβ0 : 0 ≤ β := by omega
    have hβ1 : β ≤ 255 := by omega
    cases ht : tl b with
    | true =>
      obtain ⟨h1, h2, h3⟩ := tlv_some ht
      rw [h1, hβ]
      have i1 : 128 ≤ β := by omega
      have i2 : β ≤ 191 := by omega
      clear h1 h2 h3 ht hb hβ hb256
      go_enter Try.func46, Try.ntmps46
      go_wp2
      go_ret
      exact ⟨rfl, rfl⟩
    | false =>
      rw [tlv_none ht]
      have i1 : β < 128 ∨ 191 < β := by
        rw [Bool.eq_false_iff] at ht
        have := mt (tl_iff b).2 ht
        omega
      clear ht hb hβ hb256
      rcases i1 with i1 | i1
      · go_enter Try.func46, Try.ntmps46
        go_wp2
        go_ret
        exact ⟨rfl, rfl⟩
      · go_enter Try.func46, Try.ntmps46
        go_wp2
        go_ret
        exact ⟨rfl, rfl⟩
  · have hge : decide ((i : Int) ≥ (s.size : Int)) = true := by simp; omega
    have h0 : (bts s).getD i 0 = 0 := by simp [List.getD, length_bts, Nat.le_of_not_lt h]
    have ht : tlv ((bts s).getD i 0) = -1 := by rw [h0]; rfl
    rw [ht]
    clear h0 ht
    go_enter Try.func46, Try.ntmps46
    go_wp2
    go_ret
    exact ⟨rfl, rfl⟩

/-- A rune as the document's answer has it. -/
def rv (v n : Int) : Value := .agg #[.int .i64 v, .int .i64 n]
/-- The number of the first bytes. -/
def vv (f : Nat → Nat) (v0 : Int) : Nat → Int
  | 0 => v0
  | j + 1 => 64 * vv f v0 j + ((f (j + 1) : Int) - 128)
def AtRel (f : Nat → Nat) (v0 : Int) (M : Nat) (v i : Value) : Prop :=
  ∃ j : Nat, j ≤ M ∧ i = .int .i64 ((j : Int) + 1) ∧ v = .int .i64 (vv f v0 j) ∧ ∀ m, 1 ≤ m → m ≤ j → tl (f m) = true
theorem vv_le {f : Nat → Nat} {v0 : Int} {M : Nat} (h0 : 0 ≤ v0) (h1 : v0 ≤ 31) (hM : M ≤ 3) (ht : ∀ m, 1 ≤ m → m ≤ M → tl (f m) = true) : 0 ≤ vv f v0 M ∧ vv f v0 M < 8388608 := by
  match M, hM with
  | 0, _ => simp only [vv]; omega
  | 1, _ =>
    have a := (tl_iff _).1 (ht 1 (by omega) (by omega))
    simp only [vv, Nat.zero_add]; omega
  | 2, _ =>
    have a := (tl_iff _).1 (ht 1 (by omega) (by omega))
    have b := (tl_iff _).1 (ht 2 (by omega) (by omega))
    simp only [vv, Nat.zero_add, Nat.reduceAdd]; omega
  | 3, _ =>
    have a := (tl_iff _).1 (ht 1 (by omega) (by omega))
    have b := (tl_iff _).1 (ht 2 (by omega) (by omega))
    have c := (tl_iff _).1 (ht 3 (by omega) (by omega))
    simp only [vv, Nat.zero_add, Nat.reduceAdd]; omega

/-- The ending of At, where M more bytes are told. -/
def AtEnd (M : Nat) (B : Int) (okv : Int → Bool) (f : Nat → Nat) (α : Int) (w : World) (e : Ending) (w' : World) : Prop :=
  ((∀ m, 1 ≤ m → m ≤ M → tl (f m) = true) → e = .returned (if okv (vv f (α - B) M) then rv (vv f (α - B) M) ((M : Int) + 1) else rv (-1) 1)) ∧ ((∃ m, 1 ≤ m ∧ m ≤ M ∧ tl (f m) = false) → e = .returned (rv (-1) 1)) ∧ Below w.heap.size w w'
theorem at_no {M : Nat} {B : Int} {okv : Int → Bool} {f : Nat → Nat} {α : Int} {w w' : World} (m : Nat) (h1 : 1 ≤ m) (h2 : m ≤ M) (h3 : tl (f m) = false) (hb : Below w.heap.size w w') : AtEnd M B okv f α w (.returned (rv (-1) 1)) w' :=
  ⟨(fun h => by rw [h m h1 h2] at h3; cases h3), fun _ => rfl, hb⟩
theorem at_yes {M : Nat} {B : Int} {okv : Int → Bool} {f : Nat → Nat} {α x : Int} {w w' : World} (ha : ∀ m, 1 ≤ m → m ≤ M → tl (f m) = true) (hx : vv f (α - B) M = x) (hok : okv x = true) (n : Int) (hn : n = (M : Int) + 1) (hb : Below w.heap.size w w') : AtEnd M B okv f α w (.returned (rv x n)) w' :=
  ⟨(fun _ => by rw [hx, if_pos hok, hn]), (fun ⟨m, h1, h2, h3⟩ => by rw [ha m h1 h2] at h3; cases h3), hb⟩
theorem at_bad {M : Nat} {B : Int} {okv : Int → Bool} {f : Nat → Nat} {α x : Int} {w w' : World} (_ha : ∀ m, 1 ≤ m → m ≤ M → tl (f m) = true) (hx : vv f (α - B) M = x) (hok : okv x = false) (hb : Below w.heap.size w w') : AtEnd M B okv f α w (.returned (rv (-1) 1)) w' := by
  refine ⟨fun _ => ?_, fun _ => ?_, hb⟩
  · rw [hx, hok]
    simp
  · rfl

/-- At of a byte that tells no more, or one of ASCII. -/
theorem at_one (s : ByteArray) (i a : Nat) (hi : i < s.size) (ha : (bts s).getD i 0 = a) (w : World) (V : Int) (hV : (a < 128 ∧ V = a) ∨ (128 ≤ a ∧ (a < 194 ∨ 245 ≤ a) ∧ V = -1)) :
    Calls Try.prog 44 #[.string s, .int .i64 (i : Int)] w fun e w' => e = .returned (rv V 1) ∧ Below w.heap.size w w' := by
  have ha256 : a < 256 := by rw [← ha]; exact getD_lt s i
  have hix := byte_at s .i64 i hi ha
  obtain ⟨α, hα⟩ : ∃ α : Int, (a : Int) = α := ⟨_, rfl⟩
  rw [hα] at hix
  have a0 : 0 ≤ α := by omega
  have a1 : α ≤ 255 := by omega
  rcases hV with ⟨h1, h2⟩ | ⟨h1, h2, rfl⟩
  · have i1 : α < 128 := by omega
    obtain rfl : V = α := by omega
    clear ha hα h1 h2 ha256
    go_enter Try.func44, Try.ntmps44
    go_wp2
    exact bodyPost_ret (v := rv V 1) (by simp [results, Try.results44, go_sem]; rfl) rfl ⟨rfl, bel_alloc (Below.refl _ _) _⟩
  · have i1 : 128 ≤ α := by omega
    have i2 : α < 194 ∨ 245 ≤ α := by omega
    clear ha hα h1 h2 ha256
    rcases i2 with i2 | i2
    · go_enter Try.func44, Try.ntmps44
      go_wp2
      exact bodyPost_ret (v := rv (-1) 1) (by simp [results, Try.results44, go_sem]; rfl) rfl ⟨rfl, bel_alloc (Below.refl _ _) _⟩
    · go_enter Try.func44, Try.ntmps44
      go_wp2
      exact bodyPost_ret (v := rv (-1) 1) (by simp [results, Try.results44, go_sem]; rfl) rfl ⟨rfl, bel_alloc (Below.refl _ _) _⟩

/-- Whether the number fits. -/
def ok1 (v : Int) : Bool := decide (0 ≤ v)
set_option maxHeartbeats 2000000 in
theorem at_1 (s : ByteArray) (i a : Nat) (hi : i < s.size) (hs : s.size ≤ 1073741824) (ha : (bts s).getD i 0 = a) (h1 : 194 ≤ a) (h2 : a ≤ 223) (w : World) (f : Nat → Nat) (hf : ∀ m, (bts s).getD (i + m) 0 = f m) :
    Calls Try.prog 44 #[.string s, .int .i64 (i : Int)] w (AtEnd 1 192 ok1 f (a : Int) w) := by
  have hix := byte_at s .i64 i hi ha
  have htl : ∀ (j : Nat) (W : World), 1 ≤ j → j ≤ 1 → Calls Try.prog 46 #[.string s, .int .i64 ((i : Int) + (j : Int))] W fun e w' => e = .returned (.int .i64 (tlv (f j))) ∧ W = w' := fun j W _ hj => by
    have := tail_any s (i + j) W
    rw [hf j, show ((i + j : Nat) : Int) = (i : Int) + (j : Int) by omega] at this
    exact this
  obtain ⟨α, hα⟩ : ∃ α : Int, (a : Int) = α := ⟨_, rfl⟩
  rw [hα] at hix ⊢
  have i1 : 194 ≤ α := by omega
  have i2 : α ≤ 223 := by omega
  have b128 : decide (α < 128) = false := by simp; omega
  have HT := Lib.hid htl
  clear htl hf ha hα h1 h2
  go_enter Try.func44, Try.ntmps44
  go_wp2
  go_loop [7, 8] (AtRel f (α - 192) 1) (fun _ vi => 2 - (intOf vi).toNat)
  case atStart => exact ⟨0, by omega, rfl, rfl, fun m h1 h2 => by omega⟩
  case round =>
    obtain ⟨j, hj, rfl, rfl, hall⟩ := hrel
    have hv := vv_le (f := f) (v0 := α - 192) (M := j) (by omega) (by omega) (by omega) hall
    by_cases hjM : j < 1
    · have hle : decide ((j : Int) + 1 ≤ 1) = true := by simp; omega
      have hcall := HT.out (j + 1) (w.alloc (.cells #[.int .i64 0, .int .i64 0] 57)) (by omega) (by omega)
      rw [show ((j + 1 : Nat) : Int) = (j : Int) + 1 by omega] at hcall
      have e64 : vv f (α - 192) (j + 1) = 64 * vv f (α - 192) j + ((f (j + 1) : Int) - 128) := rfl
      obtain ⟨x, hx⟩ : ∃ x, vv f (α - 192) j = x := ⟨_, rfl⟩
      rw [hx] at e64 hv ⊢
      cases ht : tl (f (j + 1)) with
      | true =>
        obtain ⟨e1, e2, e3⟩ := tlv_some ht
        rw [e1] at hcall
        obtain ⟨β, hβ⟩ : ∃ β : Int, (f (j + 1) : Int) - 128 = β := ⟨_, rfl⟩
        rw [hβ] at hcall e64
        have j1 : 0 ≤ β := by omega
        have j2 : β ≤ 63 := by omega
        have HC := Lib.hid hcall
        have HE := Lib.hid (And.intro e64 ht)
        have HA := Lib.hid hall
        obtain ⟨v0, v1⟩ := hv
        clear hcall e64 ht hall e1 e2 e3 hβ hx
        go_wp2_with (go_at_call 46; refine HC.out.mono ?_; rintro e w' ⟨rfl, rfl⟩)
        refine ⟨⟨j + 1, by omega, by simp, by rw [HE.out.1], fun m h1 h2 => ?_⟩, by simp [intOf]; omega⟩
        by_cases hm : m = j + 1
        · rw [hm]; exact HE.out.2
        · exact HA.out m h1 (by omega)
      | false =>
        rw [tlv_none ht] at hcall
        have HC := Lib.hid hcall
        have HE := Lib.hid ht
        clear hcall e64 ht hall hx
        go_wp2_with (go_at_call 46; refine HC.out.mono ?_; rintro e w' ⟨rfl, rfl⟩)
        exact bodyPost_ret (v := rv (-1) 1) (by simp [results, Try.results44, go_sem]; rfl) rfl (at_no (j + 1) (by omega) (by omega) HE.out (bel_alloc (Below.refl _ _) _))
    · obtain rfl : j = 1 := by omega
      obtain ⟨x, hx⟩ : ∃ x, vv f (α - 192) 1 = x := ⟨_, rfl⟩
      rw [hx] at hv ⊢
      have HA := Lib.hid (And.intro hall hx)
      obtain ⟨v0, v1⟩ := hv
      clear hall hx hj
      go_wp2
      exact bodyPost_ret (v := rv x 2) (by simp [results, Try.results44, go_sem]; rfl) rfl (at_yes HA.out.1 HA.out.2 (by simp [ok1]; omega) 2 rfl (bel_alloc (Below.refl _ _) _))


/-- Whether the number fits. -/
def ok2 (v : Int) : Bool := decide (2048 ≤ v ∧ v < 55296) || decide (57343 < v)
set_option maxHeartbeats 2000000 in
theorem at_2 (s : ByteArray) (i a : Nat) (hi : i < s.size) (hs : s.size ≤ 1073741824) (ha : (bts s).getD i 0 = a) (h1 : 224 ≤ a) (h2 : a ≤ 239) (w : World) (f : Nat → Nat) (hf : ∀ m, (bts s).getD (i + m) 0 = f m) :
    Calls Try.prog 44 #[.string s, .int .i64 (i : Int)] w (AtEnd 2 224 ok2 f (a : Int) w) := by
  have hix := byte_at s .i64 i hi ha
  have htl : ∀ (j : Nat) (W : World), 1 ≤ j → j ≤ 2 → Calls Try.prog 46 #[.string s, .int .i64 ((i : Int) + (j : Int))] W fun e w' => e = .returned (.int .i64 (tlv (f j))) ∧ W = w' := fun j W _ hj => by
    have := tail_any s (i + j) W
    rw [hf j, show ((i + j : Nat) : Int) = (i : Int) + (j : Int) by omega] at this
    exact this
  obtain ⟨α, hα⟩ : ∃ α : Int, (a : Int) = α := ⟨_, rfl⟩
  rw [hα] at hix ⊢
  have i1 : 224 ≤ α := by omega
  have i2 : α ≤ 239 := by omega
  have b128 : decide (α < 128) = false := by simp; omega
  have HT := Lib.hid htl
  clear htl hf ha hα h1 h2
  go_enter Try.func44, Try.ntmps44
  go_wp2
  go_loop [7, 8] (AtRel f (α - 224) 2) (fun _ vi => 3 - (intOf vi).toNat)
  case atStart => exact ⟨0, by omega, rfl, rfl, fun m h1 h2 => by omega⟩
  case round =>
    obtain ⟨j, hj, rfl, rfl, hall⟩ := hrel
    have hv := vv_le (f := f) (v0 := α - 224) (M := j) (by omega) (by omega) (by omega) hall
    by_cases hjM : j < 2
    · have hle : decide ((j : Int) + 1 ≤ 2) = true := by simp; omega
      have hcall := HT.out (j + 1) (w.alloc (.cells #[.int .i64 0, .int .i64 0] 57)) (by omega) (by omega)
      rw [show ((j + 1 : Nat) : Int) = (j : Int) + 1 by omega] at hcall
      have e64 : vv f (α - 224) (j + 1) = 64 * vv f (α - 224) j + ((f (j + 1) : Int) - 128) := rfl
      obtain ⟨x, hx⟩ : ∃ x, vv f (α - 224) j = x := ⟨_, rfl⟩
      rw [hx] at e64 hv ⊢
      cases ht : tl (f (j + 1)) with
      | true =>
        obtain ⟨e1, e2, e3⟩ := tlv_some ht
        rw [e1] at hcall
        obtain ⟨β, hβ⟩ : ∃ β : Int, (f (j + 1) : Int) - 128 = β := ⟨_, rfl⟩
        rw [hβ] at hcall e64
        have j1 : 0 ≤ β := by omega
        have j2 : β ≤ 63 := by omega
        have HC := Lib.hid hcall
        have HE := Lib.hid (And.intro e64 ht)
        have HA := Lib.hid hall
        obtain ⟨v0, v1⟩ := hv
        clear hcall e64 ht hall e1 e2 e3 hβ hx
        go_wp2_with (go_at_call 46; refine HC.out.mono ?_; rintro e w' ⟨rfl, rfl⟩)
        refine ⟨⟨j + 1, by omega, by simp, by rw [HE.out.1], fun m h1 h2 => ?_⟩, by simp [intOf]; omega⟩
        by_cases hm : m = j + 1
        · rw [hm]; exact HE.out.2
        · exact HA.out m h1 (by omega)
      | false =>
        rw [tlv_none ht] at hcall
        have HC := Lib.hid hcall
        have HE := Lib.hid ht
        clear hcall e64 ht hall hx
        go_wp2_with (go_at_call 46; refine HC.out.mono ?_; rintro e w' ⟨rfl, rfl⟩)
        exact bodyPost_ret (v := rv (-1) 1) (by simp [results, Try.results44, go_sem]; rfl) rfl (at_no (j + 1) (by omega) (by omega) HE.out (bel_alloc (Below.refl _ _) _))
    · obtain rfl : j = 2 := by omega
      obtain ⟨x, hx⟩ : ∃ x, vv f (α - 224) 2 = x := ⟨_, rfl⟩
      rw [hx] at hv ⊢
      have HA := Lib.hid (And.intro hall hx)
      obtain ⟨v0, v1⟩ := hv
      clear hall hx hj
      rcases (show x < 2048 ∨ (2048 ≤ x ∧ x < 55296) ∨ (55296 ≤ x ∧ x ≤ 57343) ∨ 57343 < x by omega) with hc | ⟨hc, hc'⟩ | ⟨hc, hc'⟩ | hc
      · go_wp2
        exact bodyPost_ret (v := rv (-1) 1) (by simp [results, Try.results44, go_sem]; rfl) rfl (at_bad HA.out.1 HA.out.2 (by simp [ok2]; omega) (bel_alloc (Below.refl _ _) _))
      · go_wp2
        exact bodyPost_ret (v := rv x 3) (by simp [results, Try.results44, go_sem]; rfl) rfl (at_yes HA.out.1 HA.out.2 (by simp [ok2]; omega) 3 rfl (bel_alloc (Below.refl _ _) _))
      · go_wp2
        exact bodyPost_ret (v := rv (-1) 1) (by simp [results, Try.results44, go_sem]; rfl) rfl (at_bad HA.out.1 HA.out.2 (by simp [ok2]; omega) (bel_alloc (Below.refl _ _) _))
      · go_wp2
        exact bodyPost_ret (v := rv x 3) (by simp [results, Try.results44, go_sem]; rfl) rfl (at_yes HA.out.1 HA.out.2 (by simp [ok2]; omega) 3 rfl (bel_alloc (Below.refl _ _) _))


/-- Whether the number fits. -/
def ok3 (v : Int) : Bool := decide (65536 ≤ v ∧ v ≤ 1114111)
set_option maxHeartbeats 2000000 in
theorem at_3 (s : ByteArray) (i a : Nat) (hi : i < s.size) (hs : s.size ≤ 1073741824) (ha : (bts s).getD i 0 = a) (h1 : 240 ≤ a) (h2 : a ≤ 244) (w : World) (f : Nat → Nat) (hf : ∀ m, (bts s).getD (i + m) 0 = f m) :
    Calls Try.prog 44 #[.string s, .int .i64 (i : Int)] w (AtEnd 3 240 ok3 f (a : Int) w) := by
  have hix := byte_at s .i64 i hi ha
  have htl : ∀ (j : Nat) (W : World), 1 ≤ j → j ≤ 3 → Calls Try.prog 46 #[.string s, .int .i64 ((i : Int) + (j : Int))] W fun e w' => e = .returned (.int .i64 (tlv (f j))) ∧ W = w' := fun j W _ hj => by
    have := tail_any s (i + j) W
    rw [hf j, show ((i + j : Nat) : Int) = (i : Int) + (j : Int) by omega] at this
    exact this
  obtain ⟨α, hα⟩ : ∃ α : Int, (a : Int) = α := ⟨_, rfl⟩
  rw [hα] at hix ⊢
  have i1 : 240 ≤ α := by omega
  have i2 : α ≤ 244 := by omega
  have b128 : decide (α < 128) = false := by simp; omega
  have HT := Lib.hid htl
  clear htl hf ha hα h1 h2
  go_enter Try.func44, Try.ntmps44
  go_wp2
  go_loop [7, 8] (AtRel f (α - 240) 3) (fun _ vi => 4 - (intOf vi).toNat)
  case atStart => exact ⟨0, by omega, rfl, rfl, fun m h1 h2 => by omega⟩
  case round =>
    obtain ⟨j, hj, rfl, rfl, hall⟩ := hrel
    have hv := vv_le (f := f) (v0 := α - 240) (M := j) (by omega) (by omega) (by omega) hall
    by_cases hjM : j < 3
    · have hle : decide ((j : Int) + 1 ≤ 3) = true := by simp; omega
      have hcall := HT.out (j + 1) (w.alloc (.cells #[.int .i64 0, .int .i64 0] 57)) (by omega) (by omega)
      rw [show ((j + 1 : Nat) : Int) = (j : Int) + 1 by omega] at hcall
      have e64 : vv f (α - 240) (j + 1) = 64 * vv f (α - 240) j + ((f (j + 1) : Int) - 128) := rfl
      obtain ⟨x, hx⟩ : ∃ x, vv f (α - 240) j = x := ⟨_, rfl⟩
      rw [hx] at e64 hv ⊢
      cases ht : tl (f (j + 1)) with
      | true =>
        obtain ⟨e1, e2, e3⟩ := tlv_some ht
        rw [e1] at hcall
        obtain ⟨β, hβ⟩ : ∃ β : Int, (f (j + 1) : Int) - 128 = β := ⟨_, rfl⟩
        rw [hβ] at hcall e64
        have j1 : 0 ≤ β := by omega
        have j2 : β ≤ 63 := by omega
        have HC := Lib.hid hcall
        have HE := Lib.hid (And.intro e64 ht)
        have HA := Lib.hid hall
        obtain ⟨v0, v1⟩ := hv
        clear hcall e64 ht hall e1 e2 e3 hβ hx
        go_wp2_with (go_at_call 46; refine HC.out.mono ?_; rintro e w' ⟨rfl, rfl⟩)
        refine ⟨⟨j + 1, by omega, by simp, by rw [HE.out.1], fun m h1 h2 => ?_⟩, by simp [intOf]; omega⟩
        by_cases hm : m = j + 1
        · rw [hm]; exact HE.out.2
        · exact HA.out m h1 (by omega)
      | false =>
        rw [tlv_none ht] at hcall
        have HC := Lib.hid hcall
        have HE := Lib.hid ht
        clear hcall e64 ht hall hx
        go_wp2_with (go_at_call 46; refine HC.out.mono ?_; rintro e w' ⟨rfl, rfl⟩)
        exact bodyPost_ret (v := rv (-1) 1) (by simp [results, Try.results44, go_sem]; rfl) rfl (at_no (j + 1) (by omega) (by omega) HE.out (bel_alloc (Below.refl _ _) _))
    · obtain rfl : j = 3 := by omega
      obtain ⟨x, hx⟩ : ∃ x, vv f (α - 240) 3 = x := ⟨_, rfl⟩
      rw [hx] at hv ⊢
      have HA := Lib.hid (And.intro hall hx)
      obtain ⟨v0, v1⟩ := hv
      clear hall hx hj
      rcases (show x < 65536 ∨ (65536 ≤ x ∧ x ≤ 1114111) ∨ 1114111 < x by omega) with hc | ⟨hc, hc'⟩ | hc
      · go_wp2
        exact bodyPost_ret (v := rv (-1) 1) (by simp [results, Try.results44, go_sem]; rfl) rfl (at_bad HA.out.1 HA.out.2 (by simp [ok3]; omega) (bel_alloc (Below.refl _ _) _))
      · go_wp2
        exact bodyPost_ret (v := rv x 4) (by simp [results, Try.results44, go_sem]; rfl) rfl (at_yes HA.out.1 HA.out.2 (by simp [ok3]; omega) 4 rfl (bel_alloc (Below.refl _ _) _))
      · go_wp2
        exact bodyPost_ret (v := rv (-1) 1) (by simp [results, Try.results44, go_sem]; rfl) rfl (at_bad HA.out.1 HA.out.2 (by simp [ok3]; omega) (bel_alloc (Below.refl _ _) _))


/-- At, whatever stands there. -/
theorem at_any (s : ByteArray) (i : Nat) (hi : i < s.size) (hs : s.size ≤ 1073741824) (w : World) (p : Pc) (hp : first ((bts s).drop i) = p) :
    Calls Try.prog 44 #[.string s, .int .i64 (i : Int)] w fun e w' => e = .returned (rv p.val (p.bytes.length : Int)) ∧ Below w.heap.size w w' := by
  obtain ⟨f, hf⟩ : ∃ f : Nat → Nat, ∀ m, (bts s).getD (i + m) 0 = f m := ⟨fun m => (bts s).getD (i + m) 0, fun _ => rfl⟩
  have h4 : first4 (f 0) (f 1) (f 2) (f 3) = p := by
    rw [← hp, ← hf, ← hf, ← hf, ← hf]
    simp only [first, getD_drop]
  have ha : (bts s).getD i 0 = f 0 := hf 0
  have hf256 : f 0 < 256 := by rw [← ha]; exact getD_lt s i
  by_cases c1 : f 0 < 128
  · obtain rfl : p = .rune (f 0) := by rw [← h4, first4, if_pos c1]
    refine (at_one s i (f 0) hi ha w (f 0 : Int) (.inl ⟨c1, rfl⟩)).mono ?_
    rintro e w' ⟨rfl, hb⟩
    exact ⟨by rw [Pc.val, Pc.bytes, enc_one c1]; rfl, hb⟩
  by_cases c2 : f 0 < 194 ∨ 245 ≤ f 0
  · obtain rfl : p = .lone (f 0) := by
      rw [← h4, first4, if_neg c1, if_neg (by simp; omega), if_neg (by simp; omega), if_neg (by simp; omega)]
    refine (at_one s i (f 0) hi ha w (-1) (.inr ⟨by omega, c2, rfl⟩)).mono ?_
    rintro e w' ⟨rfl, hb⟩
    exact ⟨rfl, hb⟩
  by_cases c3 : f 0 ≤ 223
  · refine (at_1 s i (f 0) hi hs ha (by omega) c3 w f hf).mono ?_
    rintro e w' ⟨h1, h2, hb⟩
    refine ⟨?_, hb⟩
    cases ht : tl (f 1) with
    | true =>
      have htb := (tl_iff _).1 ht
      obtain rfl : p = .rune ((f 0 - 192) * 64 + (f 1 - 128)) := by
        rw [← h4, first4, if_neg c1, if_pos (by simp [ht]; omega)]
      rw [h1 (fun m m1 m2 => by obtain rfl : m = 1 := by omega
                                exact ht)]
      have e : vv f ((f 0 : Int) - 192) 1 = (((f 0 - 192) * 64 + (f 1 - 128) : Nat) : Int) := by simp only [vv, Nat.zero_add]; omega
      rw [e, if_pos (by simp [ok1]; omega), Pc.val, Pc.bytes, enc_two (by omega) (by omega)]
      rfl
    | false =>
      obtain rfl : p = .lone (f 0) := by
        rw [← h4, first4, if_neg c1, if_neg (by simp [ht]), if_neg (by simp [ht]), if_neg (by simp [ht])]
      exact h2 ⟨1, by omega, by omega, ht⟩
  by_cases c4 : f 0 ≤ 239
  · refine (at_2 s i (f 0) hi hs ha (by omega) c4 w f hf).mono ?_
    rintro e w' ⟨h1, h2, hb⟩
    refine ⟨?_, hb⟩
    cases ht : tl (f 1) with
    | false =>
      obtain rfl : p = .lone (f 0) := by
        rw [← h4, first4, if_neg c1, if_neg (by simp [ht]), if_neg (by simp [ht]), if_neg (by simp [ht])]
      exact h2 ⟨1, by omega, by omega, ht⟩
    | true =>
      cases ht2 : tl (f 2) with
      | false =>
        obtain rfl : p = .lone (f 0) := by
          rw [← h4, first4, if_neg c1, if_neg (by simp; omega), if_neg (by simp [ht2]), if_neg (by simp [ht2])]
        exact h2 ⟨2, by omega, by omega, ht2⟩
      | true =>
        have htb := (tl_iff _).1 ht
        have htc := (tl_iff _).1 ht2
        rw [h1 (fun m m1 m2 => by rcases (show m = 1 ∨ m = 2 by omega) with rfl | rfl <;> assumption)]
        have e : vv f ((f 0 : Int) - 224) 2 = (((f 0 - 224) * 4096 + (f 1 - 128) * 64 + (f 2 - 128) : Nat) : Int) := by simp only [vv, Nat.zero_add, Nat.reduceAdd]; omega
        rw [e]
        obtain ⟨x, hx⟩ : ∃ x, (f 0 - 224) * 4096 + (f 1 - 128) * 64 + (f 2 - 128) = x := ⟨_, rfl⟩
        rw [first4, hx] at h4
        rw [hx]
        by_cases hok : 2048 ≤ x ∧ fit x = true
        · obtain rfl : p = .rune x := by
            rw [← h4, if_neg c1, if_neg (by simp; omega), if_pos (by simp [ht, ht2, hok]; omega)]
          have hfx := (fit_iff x).1 hok.2
          rw [if_pos (by simp [ok2]; omega), Pc.val, Pc.bytes, enc_three hok.1 (by omega)]
          rfl
        · obtain rfl : p = .lone (f 0) := by
            rw [← h4, if_neg c1, if_neg (by simp; omega), if_neg (by simp only [Bool.and_eq_true, decide_eq_true_eq]; exact fun h => hok ⟨h.1.2, h.2⟩), if_neg (by simp; omega)]
          have hnf : ¬ (2048 ≤ x ∧ (x < 55296 ∨ (57344 ≤ x ∧ x ≤ 1114111))) := fun h => hok ⟨h.1, (fit_iff x).2 h.2⟩
          rw [if_neg (by simp [ok2]; omega)]
          rfl
  · refine (at_3 s i (f 0) hi hs ha (by omega) (by omega) w f hf).mono ?_
    rintro e w' ⟨h1, h2, hb⟩
    refine ⟨?_, hb⟩
    cases ht : tl (f 1) with
    | false =>
      obtain rfl : p = .lone (f 0) := by
        rw [← h4, first4, if_neg c1, if_neg (by simp [ht]), if_neg (by simp [ht]), if_neg (by simp [ht])]
      exact h2 ⟨1, by omega, by omega, ht⟩
    | true =>
      cases ht2 : tl (f 2) with
      | false =>
        obtain rfl : p = .lone (f 0) := by
          rw [← h4, first4, if_neg c1, if_neg (by simp; omega), if_neg (by simp [ht2]), if_neg (by simp [ht2])]
        exact h2 ⟨2, by omega, by omega, ht2⟩
      | true =>
        cases ht3 : tl (f 3) with
        | false =>
          obtain rfl : p = .lone (f 0) := by
            rw [← h4, first4, if_neg c1, if_neg (by simp; omega), if_neg (by simp; omega), if_neg (by simp [ht3])]
          exact h2 ⟨3, by omega, by omega, ht3⟩
        | true =>
          have htb := (tl_iff _).1 ht
          have htc := (tl_iff _).1 ht2
          have htd := (tl_iff _).1 ht3
          rw [h1 (fun m m1 m2 => by rcases (show m = 1 ∨ m = 2 ∨ m = 3 by omega) with rfl | rfl | rfl <;> assumption)]
          have e : vv f ((f 0 : Int) - 240) 3 = (((f 0 - 240) * 262144 + (f 1 - 128) * 4096 + (f 2 - 128) * 64 + (f 3 - 128) : Nat) : Int) := by simp only [vv, Nat.zero_add, Nat.reduceAdd]; omega
          rw [e]
          obtain ⟨x, hx⟩ : ∃ x, (f 0 - 240) * 262144 + (f 1 - 128) * 4096 + (f 2 - 128) * 64 + (f 3 - 128) = x := ⟨_, rfl⟩
          rw [first4, hx] at h4
          rw [hx]
          by_cases hok : 65536 ≤ x ∧ fit x = true
          · obtain rfl : p = .rune x := by
              rw [← h4, if_neg c1, if_neg (by simp; omega), if_neg (by simp; omega), if_pos (by simp [ht, ht2, ht3, hok]; omega)]
            have hfx := (fit_iff x).1 hok.2
            rw [if_pos (by simp [ok3]; omega), Pc.val, Pc.bytes, enc_four hok.1]
            rfl
          · obtain rfl : p = .lone (f 0) := by
              rw [← h4, if_neg c1, if_neg (by simp; omega), if_neg (by simp; omega), if_neg (by simp only [Bool.and_eq_true, decide_eq_true_eq]; exact fun h => hok ⟨h.1.2, h.2⟩)]
            have hnf : ¬ (65536 ≤ x ∧ (x < 55296 ∨ (57344 ≤ x ∧ x ≤ 1114111))) := fun h => hok ⟨h.1, (fit_iff x).2 h.2⟩
            rw [if_neg (by simp [ok3]; omega)]
            rfl
end Go.Proofs.Ytiiaealbkimlfaa
