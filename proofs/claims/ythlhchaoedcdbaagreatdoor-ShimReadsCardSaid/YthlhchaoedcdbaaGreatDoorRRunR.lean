/-
  Texts of earlier layers, as one.
-/
import Derived.Test.YthlhchaoedcdbaaGreatDoorRRun
import Derived.Deep.AppendLies
/- The document's answer: the rune at a place of a text (stonecropref04.At) is the piece with which the bytes from there on begin. -/
namespace Go.Proofs.YthlhchaoedcdbaaGreatDoor
open Lib (hid)
open Go.RowKit Mem Run
def tlv (b : Nat) : Int := if tl b then (b : Int) - 128 else -1
theorem tlv_some {b : Nat} (h : tl b = true) : tlv b = (b : Int) - 128 ∧ 128 ≤ b ∧ b < 192 := by
 have := (tl_iff b).1 h;simp [tlv, h, this]
theorem tlv_none {b : Nat} (h : tl b = false) : tlv b = -1 := by simp [tlv, h]
theorem tail_any (s : ByteArray) (i : Nat) (w : World) : Calls Tryz.prog 153 #[.string s, .int .i64 (i : Int)] w fun e w' => e = .returned (.int .i64 (tlv ((bts s).getD i 0))) ∧ w = w' := by
 by_cases h : i < s.size
 · have hge : decide ((i : Int) ≥ (s.size : Int)) = false := by simp; omega
   obtain ⟨b, hb⟩ : ∃ b, (bts s).getD i 0 = b := ⟨_, rfl⟩
   have hix := byte_at s .i64 i h hb;have hb256 : b < 256 := (by rw [← hb]; exact getD_lt s i);rw [hb];obtain ⟨β, hβ⟩ : ∃ β : Int, (b : Int) = β := ⟨_, rfl⟩
   rw [hβ] at hix;have hβ0 : 0 ≤ β := (by omega);have hβ1 : β ≤ 255 := (by omega);cases ht : tl b with
   | true =>
     obtain ⟨h1, h2, h3⟩ := tlv_some ht;rw [h1, hβ];have i1 : 128 ≤ β := (by omega);have i2 : β ≤ 191 := (by omega);clear h1 h2 h3 ht hb hβ hb256;go_enter Tryz.func153, Tryz.ntmps153
     go_wp2
     go_ret;exact ⟨rfl, rfl⟩
   | false =>
     rw [tlv_none ht]
     have i1 : β < 128 ∨ 191 < β := by
      rw [Bool.eq_false_iff] at ht;have := mt (tl_iff b).2 ht;omega
     clear ht hb hβ hb256;rcases i1 with i1 | i1
     · go_enter Tryz.func153, Tryz.ntmps153
       go_wp2
       go_ret;exact ⟨rfl, rfl⟩
     · go_enter Tryz.func153, Tryz.ntmps153
       go_wp2
       go_ret;exact ⟨rfl, rfl⟩
 · have hge : decide ((i : Int) ≥ (s.size : Int)) = true := by simp; omega
   have h0 : (bts s).getD i 0 = 0 := (by simp [List.getD, length_bts, Nat.le_of_not_lt h]);have ht : tlv ((bts s).getD i 0) = -1 := (by rw [h0]; rfl);rw [ht];clear h0 ht;go_enter Tryz.func153, Tryz.ntmps153
   go_wp2
   go_ret;exact ⟨rfl, rfl⟩
def rv (v n : Int) : Value := .agg #[.int .i64 v, .int .i64 n]
def vv (f : Nat → Nat) (v0 : Int) : Nat → Int
 | 0 => v0
 | j + 1 => 64 * vv f v0 j + ((f (j + 1) : Int) - 128)
def AtRel (f : Nat → Nat) (v0 : Int) (M : Nat) (v i : Value) : Prop :=
 ∃ j : Nat, j ≤ M ∧ i = .int .i64 ((j : Int) + 1) ∧ v = .int .i64 (vv f v0 j) ∧ ∀ m, 1 ≤ m → m ≤ j → tl (f m) = true
theorem vv_le {f : Nat → Nat} {v0 : Int} {M : Nat} (h0 : 0 ≤ v0) (h1 : v0 ≤ 31) (hM : M ≤ 3) (ht : ∀ m, 1 ≤ m → m ≤ M → tl (f m) = true) : 0 ≤ vv f v0 M ∧ vv f v0 M < 8388608 := by
 match M, hM with
 | 0, _ => simp only [vv]; omega
 | 1, _ =>
   have a := (tl_iff _).1 (ht 1 (by omega) (by omega));simp only [vv, Nat.zero_add]; omega
 | 2, _ =>
   have a := (tl_iff _).1 (ht 1 (by omega) (by omega));have b := (tl_iff _).1 (ht 2 (by omega) (by omega));simp only [vv, Nat.zero_add, Nat.reduceAdd]; omega
 | 3, _ =>
   have a := (tl_iff _).1 (ht 1 (by omega) (by omega));have b := (tl_iff _).1 (ht 2 (by omega) (by omega));have c := (tl_iff _).1 (ht 3 (by omega) (by omega));simp only [vv, Nat.zero_add, Nat.reduceAdd]; omega
def AtEnd (M : Nat) (B : Int) (okv : Int → Bool) (f : Nat → Nat) (α : Int) (w : World) (e : Ending) (w' : World) : Prop :=
 ((∀ m, 1 ≤ m → m ≤ M → tl (f m) = true) → e = .returned (if okv (vv f (α - B) M) then rv (vv f (α - B) M) ((M : Int) + 1) else rv (-1) 1)) ∧ ((∃ m, 1 ≤ m ∧ m ≤ M ∧ tl (f m) = false) → e = .returned (rv (-1) 1)) ∧ Below w.heap.size w w'
theorem at_no {M : Nat} {B : Int} {okv : Int → Bool} {f : Nat → Nat} {α : Int} {w w' : World} (m : Nat) (h1 : 1 ≤ m) (h2 : m ≤ M) (h3 : tl (f m) = false) (hb : Below w.heap.size w w') : AtEnd M B okv f α w (.returned (rv (-1) 1)) w' :=
 ⟨(fun h => by rw [h m h1 h2] at h3; cases h3), fun _ => rfl, hb⟩
theorem at_yes {M : Nat} {B : Int} {okv : Int → Bool} {f : Nat → Nat} {α x : Int} {w w' : World} (ha : ∀ m, 1 ≤ m → m ≤ M → tl (f m) = true) (hx : vv f (α - B) M = x) (hok : okv x = true) (n : Int) (hn : n = (M : Int) + 1) (hb : Below w.heap.size w w') : AtEnd M B okv f α w (.returned (rv x n)) w' :=
 ⟨(fun _ => by rw [hx, if_pos hok, hn]), (fun ⟨m, h1, h2, h3⟩ => by rw [ha m h1 h2] at h3; cases h3), hb⟩
theorem at_bad {M : Nat} {B : Int} {okv : Int → Bool} {f : Nat → Nat} {α x : Int} {w w' : World} (_ha : ∀ m, 1 ≤ m → m ≤ M → tl (f m) = true) (hx : vv f (α - B) M = x) (hok : okv x = false) (hb : Below w.heap.size w w') : AtEnd M B okv f α w (.returned (rv (-1) 1)) w' := by
 refine ⟨fun _ => ?_, fun _ => ?_, hb⟩
 · rw [hx, hok]
   simp
 · rfl
theorem at_one (s : ByteArray) (i a : Nat) (hi : i < s.size) (ha : (bts s).getD i 0 = a) (w : World) (V : Int) (hV : (a < 128 ∧ V = a) ∨ (128 ≤ a ∧ (a < 194 ∨ 245 ≤ a) ∧ V = -1)) :
 Calls Tryz.prog 151 #[.string s, .int .i64 (i : Int)] w fun e w' => e = .returned (rv V 1) ∧ Below w.heap.size w w' := by
 have ha256 : a < 256 := by rw [← ha]; exact getD_lt s i
 have hix := byte_at s .i64 i hi ha;obtain ⟨α, hα⟩ : ∃ α : Int, (a : Int) = α := ⟨_, rfl⟩
 rw [hα] at hix;have a0 : 0 ≤ α := by omega
 have a1 : α ≤ 255 := by omega
 rcases hV with ⟨h1, h2⟩ | ⟨h1, h2, rfl⟩
 · have i1 : α < 128 := by omega
   obtain rfl : V = α := (by omega);clear ha hα h1 h2 ha256;go_enter Tryz.func151, Tryz.ntmps151
   go_wp2
   exact bodyPost_ret (v := rv V 1) (by simp [results, Tryz.results151, go_sem]; rfl) rfl ⟨rfl, bel_alloc (Below.refl _ _) _⟩
 · have i1 : 128 ≤ α := by omega
   have i2 : α < 194 ∨ 245 ≤ α := (by omega);clear ha hα h1 h2 ha256;rcases i2 with i2 | i2
   · go_enter Tryz.func151, Tryz.ntmps151
     go_wp2
     exact bodyPost_ret (v := rv (-1) 1) (by simp [results, Tryz.results151, go_sem]; rfl) rfl ⟨rfl, bel_alloc (Below.refl _ _) _⟩
   · go_enter Tryz.func151, Tryz.ntmps151
     go_wp2
     exact bodyPost_ret (v := rv (-1) 1) (by simp [results, Tryz.results151, go_sem]; rfl) rfl ⟨rfl, bel_alloc (Below.refl _ _) _⟩
def ok1 (v : Int) : Bool := decide (0 ≤ v)
set_option maxHeartbeats 2000000 in
theorem at_1 (s : ByteArray) (i a : Nat) (hi : i < s.size) (hs : s.size ≤ 1073741824) (ha : (bts s).getD i 0 = a) (h1 : 194 ≤ a) (h2 : a ≤ 223) (w : World) (f : Nat → Nat) (hf : ∀ m, (bts s).getD (i + m) 0 = f m) :
 Calls Tryz.prog 151 #[.string s, .int .i64 (i : Int)] w (AtEnd 1 192 ok1 f (a : Int) w) := by
 have hix := byte_at s .i64 i hi ha
 have htl : ∀ (j : Nat) (W : World), 1 ≤ j → j ≤ 1 → Calls Tryz.prog 153 #[.string s, .int .i64 ((i : Int) + (j : Int))] W fun e w' => e = .returned (.int .i64 (tlv (f j))) ∧ W = w' := fun j W _ hj => by
  have := tail_any s (i + j) W;rw [hf j, show ((i + j : Nat) : Int) = (i : Int) + (j : Int) by omega] at this;exact this
 obtain ⟨α, hα⟩ : ∃ α : Int, (a : Int) = α := ⟨_, rfl⟩
 rw [hα] at hix ⊢;have i1 : 194 ≤ α := by omega
 have i2 : α ≤ 223 := by omega
 have b128 : decide (α < 128) = false := by simp; omega
 have HT := hid htl;clear htl hf ha hα h1 h2;go_enter Tryz.func151, Tryz.ntmps151
 go_wp2
 go_loop [7, 8] (AtRel f (α - 192) 1) (fun _ vi => 2 - (intOf vi).toNat)
 case atStart => exact ⟨0, by omega, rfl, rfl, fun m h1 h2 => by omega⟩
 case round =>
  obtain ⟨j, hj, rfl, rfl, hall⟩ := hrel;have hv := vv_le (f := f) (v0 := α - 192) (M := j) (by omega) (by omega) (by omega) hall;by_cases hjM : j < 1
  · have hle : decide ((j : Int) + 1 ≤ 1) = true := by simp; omega
    have hcall := HT.out (j + 1) (w.alloc (.cells #[.int .i64 0, .int .i64 0] 177)) (by omega) (by omega);rw [show ((j + 1 : Nat) : Int) = (j : Int) + 1 by omega] at hcall;have e64 : vv f (α - 192) (j + 1) = 64 * vv f (α - 192) j + ((f (j + 1) : Int) - 128) := rfl;obtain ⟨x, hx⟩ : ∃ x, vv f (α - 192) j = x := ⟨_, rfl⟩
    rw [hx] at e64 hv ⊢;cases ht : tl (f (j + 1)) with
    | true =>
      obtain ⟨e1, e2, e3⟩ := tlv_some ht;rw [e1] at hcall;obtain ⟨β, hβ⟩ : ∃ β : Int, (f (j + 1) : Int) - 128 = β := ⟨_, rfl⟩
      rw [hβ] at hcall e64;have j1 : 0 ≤ β := (by omega);have j2 : β ≤ 63 := (by omega);have HC := hid hcall;have HE := hid (And.intro e64 ht);have HA := hid hall;obtain ⟨v0, v1⟩ := hv;clear hcall e64 ht hall e1 e2 e3 hβ hx;go_wp2_with (go_at_call 153; refine HC.out.mono ?_; rintro e w' ⟨rfl, rfl⟩)
      refine ⟨⟨j + 1, by omega, by simp, by rw [HE.out.1], fun m h1 h2 => ?_⟩, by simp [intOf]; omega⟩;by_cases hm : m = j + 1
      · rw [hm]; exact HE.out.2
      · exact HA.out m h1 (by omega)
    | false =>
      rw [tlv_none ht] at hcall;have HC := hid hcall;have HE := hid ht;clear hcall e64 ht hall hx;go_wp2_with (go_at_call 153; refine HC.out.mono ?_; rintro e w' ⟨rfl, rfl⟩)
      exact bodyPost_ret (v := rv (-1) 1) (by simp [results, Tryz.results151, go_sem]; rfl) rfl (at_no (j + 1) (by omega) (by omega) HE.out (bel_alloc (Below.refl _ _) _))
  · obtain rfl : j = 1 := by omega
    obtain ⟨x, hx⟩ : ∃ x, vv f (α - 192) 1 = x := ⟨_, rfl⟩
    rw [hx] at hv ⊢;have HA := hid (And.intro hall hx);obtain ⟨v0, v1⟩ := hv;clear hall hx hj
    go_wp2
    exact bodyPost_ret (v := rv x 2) (by simp [results, Tryz.results151, go_sem]; rfl) rfl (at_yes HA.out.1 HA.out.2 (by simp [ok1]; omega) 2 rfl (bel_alloc (Below.refl _ _) _))
def ok2 (v : Int) : Bool := decide (2048 ≤ v ∧ v < 55296) || decide (57343 < v)
set_option maxHeartbeats 2000000 in
theorem at_2 (s : ByteArray) (i a : Nat) (hi : i < s.size) (hs : s.size ≤ 1073741824) (ha : (bts s).getD i 0 = a) (h1 : 224 ≤ a) (h2 : a ≤ 239) (w : World) (f : Nat → Nat) (hf : ∀ m, (bts s).getD (i + m) 0 = f m) :
 Calls Tryz.prog 151 #[.string s, .int .i64 (i : Int)] w (AtEnd 2 224 ok2 f (a : Int) w) := by
 have hix := byte_at s .i64 i hi ha
 have htl : ∀ (j : Nat) (W : World), 1 ≤ j → j ≤ 2 → Calls Tryz.prog 153 #[.string s, .int .i64 ((i : Int) + (j : Int))] W fun e w' => e = .returned (.int .i64 (tlv (f j))) ∧ W = w' := fun j W _ hj => by
  have := tail_any s (i + j) W;rw [hf j, show ((i + j : Nat) : Int) = (i : Int) + (j : Int) by omega] at this;exact this
 obtain ⟨α, hα⟩ : ∃ α : Int, (a : Int) = α := ⟨_, rfl⟩
 rw [hα] at hix ⊢;have i1 : 224 ≤ α := by omega
 have i2 : α ≤ 239 := by omega
 have b128 : decide (α < 128) = false := by simp; omega
 have HT := hid htl;clear htl hf ha hα h1 h2;go_enter Tryz.func151, Tryz.ntmps151
 go_wp2
 go_loop [7, 8] (AtRel f (α - 224) 2) (fun _ vi => 3 - (intOf vi).toNat)
 case atStart => exact ⟨0, by omega, rfl, rfl, fun m h1 h2 => by omega⟩
 case round =>
  obtain ⟨j, hj, rfl, rfl, hall⟩ := hrel;have hv := vv_le (f := f) (v0 := α - 224) (M := j) (by omega) (by omega) (by omega) hall;by_cases hjM : j < 2
  · have hle : decide ((j : Int) + 1 ≤ 2) = true := by simp; omega
    have hcall := HT.out (j + 1) (w.alloc (.cells #[.int .i64 0, .int .i64 0] 177)) (by omega) (by omega);rw [show ((j + 1 : Nat) : Int) = (j : Int) + 1 by omega] at hcall;have e64 : vv f (α - 224) (j + 1) = 64 * vv f (α - 224) j + ((f (j + 1) : Int) - 128) := rfl;obtain ⟨x, hx⟩ : ∃ x, vv f (α - 224) j = x := ⟨_, rfl⟩
    rw [hx] at e64 hv ⊢;cases ht : tl (f (j + 1)) with
    | true =>
      obtain ⟨e1, e2, e3⟩ := tlv_some ht;rw [e1] at hcall;obtain ⟨β, hβ⟩ : ∃ β : Int, (f (j + 1) : Int) - 128 = β := ⟨_, rfl⟩
      rw [hβ] at hcall e64;have j1 : 0 ≤ β := (by omega);have j2 : β ≤ 63 := (by omega);have HC := hid hcall;have HE := hid (And.intro e64 ht);have HA := hid hall;obtain ⟨v0, v1⟩ := hv;clear hcall e64 ht hall e1 e2 e3 hβ hx;go_wp2_with (go_at_call 153; refine HC.out.mono ?_; rintro e w' ⟨rfl, rfl⟩)
      refine ⟨⟨j + 1, by omega, by simp, by rw [HE.out.1], fun m h1 h2 => ?_⟩, by simp [intOf]; omega⟩;by_cases hm : m = j + 1
      · rw [hm]; exact HE.out.2
      · exact HA.out m h1 (by omega)
    | false =>
      rw [tlv_none ht] at hcall;have HC := hid hcall;have HE := hid ht;clear hcall e64 ht hall hx;go_wp2_with (go_at_call 153; refine HC.out.mono ?_; rintro e w' ⟨rfl, rfl⟩)
      exact bodyPost_ret (v := rv (-1) 1) (by simp [results, Tryz.results151, go_sem]; rfl) rfl (at_no (j + 1) (by omega) (by omega) HE.out (bel_alloc (Below.refl _ _) _))
  · obtain rfl : j = 2 := by omega
    obtain ⟨x, hx⟩ : ∃ x, vv f (α - 224) 2 = x := ⟨_, rfl⟩
    rw [hx] at hv ⊢;have HA := hid (And.intro hall hx);obtain ⟨v0, v1⟩ := hv;clear hall hx hj;rcases (show x < 2048 ∨ (2048 ≤ x ∧ x < 55296) ∨ (55296 ≤ x ∧ x ≤ 57343) ∨ 57343 < x by omega) with hc | ⟨hc, hc'⟩ | ⟨hc, hc'⟩ | hc
    · go_wp2
      exact bodyPost_ret (v := rv (-1) 1) (by simp [results, Tryz.results151, go_sem]; rfl) rfl (at_bad HA.out.1 HA.out.2 (by simp [ok2]; omega) (bel_alloc (Below.refl _ _) _))
    · go_wp2
      exact bodyPost_ret (v := rv x 3) (by simp [results, Tryz.results151, go_sem]; rfl) rfl (at_yes HA.out.1 HA.out.2 (by simp [ok2]; omega) 3 rfl (bel_alloc (Below.refl _ _) _))
    · go_wp2
      exact bodyPost_ret (v := rv (-1) 1) (by simp [results, Tryz.results151, go_sem]; rfl) rfl (at_bad HA.out.1 HA.out.2 (by simp [ok2]; omega) (bel_alloc (Below.refl _ _) _))
    · go_wp2
      exact bodyPost_ret (v := rv x 3) (by simp [results, Tryz.results151, go_sem]; rfl) rfl (at_yes HA.out.1 HA.out.2 (by simp [ok2]; omega) 3 rfl (bel_alloc (Below.refl _ _) _))
def ok3 (v : Int) : Bool := decide (65536 ≤ v ∧ v ≤ 1114111)
set_option maxHeartbeats 2000000 in
theorem at_3 (s : ByteArray) (i a : Nat) (hi : i < s.size) (hs : s.size ≤ 1073741824) (ha : (bts s).getD i 0 = a) (h1 : 240 ≤ a) (h2 : a ≤ 244) (w : World) (f : Nat → Nat) (hf : ∀ m, (bts s).getD (i + m) 0 = f m) :
 Calls Tryz.prog 151 #[.string s, .int .i64 (i : Int)] w (AtEnd 3 240 ok3 f (a : Int) w) := by
 have hix := byte_at s .i64 i hi ha
 have htl : ∀ (j : Nat) (W : World), 1 ≤ j → j ≤ 3 → Calls Tryz.prog 153 #[.string s, .int .i64 ((i : Int) + (j : Int))] W fun e w' => e = .returned (.int .i64 (tlv (f j))) ∧ W = w' := fun j W _ hj => by
  have := tail_any s (i + j) W;rw [hf j, show ((i + j : Nat) : Int) = (i : Int) + (j : Int) by omega] at this;exact this
 obtain ⟨α, hα⟩ : ∃ α : Int, (a : Int) = α := ⟨_, rfl⟩
 rw [hα] at hix ⊢;have i1 : 240 ≤ α := by omega
 have i2 : α ≤ 244 := by omega
 have b128 : decide (α < 128) = false := by simp; omega
 have HT := hid htl;clear htl hf ha hα h1 h2;go_enter Tryz.func151, Tryz.ntmps151
 go_wp2
 go_loop [7, 8] (AtRel f (α - 240) 3) (fun _ vi => 4 - (intOf vi).toNat)
 case atStart => exact ⟨0, by omega, rfl, rfl, fun m h1 h2 => by omega⟩
 case round =>
  obtain ⟨j, hj, rfl, rfl, hall⟩ := hrel;have hv := vv_le (f := f) (v0 := α - 240) (M := j) (by omega) (by omega) (by omega) hall;by_cases hjM : j < 3
  · have hle : decide ((j : Int) + 1 ≤ 3) = true := by simp; omega
    have hcall := HT.out (j + 1) (w.alloc (.cells #[.int .i64 0, .int .i64 0] 177)) (by omega) (by omega);rw [show ((j + 1 : Nat) : Int) = (j : Int) + 1 by omega] at hcall;have e64 : vv f (α - 240) (j + 1) = 64 * vv f (α - 240) j + ((f (j + 1) : Int) - 128) := rfl;obtain ⟨x, hx⟩ : ∃ x, vv f (α - 240) j = x := ⟨_, rfl⟩
    rw [hx] at e64 hv ⊢;cases ht : tl (f (j + 1)) with
    | true =>
      obtain ⟨e1, e2, e3⟩ := tlv_some ht;rw [e1] at hcall;obtain ⟨β, hβ⟩ : ∃ β : Int, (f (j + 1) : Int) - 128 = β := ⟨_, rfl⟩
      rw [hβ] at hcall e64;have j1 : 0 ≤ β := (by omega);have j2 : β ≤ 63 := (by omega);have HC := hid hcall;have HE := hid (And.intro e64 ht);have HA := hid hall;obtain ⟨v0, v1⟩ := hv;clear hcall e64 ht hall e1 e2 e3 hβ hx;go_wp2_with (go_at_call 153; refine HC.out.mono ?_; rintro e w' ⟨rfl, rfl⟩)
      refine ⟨⟨j + 1, by omega, by simp, by rw [HE.out.1], fun m h1 h2 => ?_⟩, by simp [intOf]; omega⟩;by_cases hm : m = j + 1
      · rw [hm]; exact HE.out.2
      · exact HA.out m h1 (by omega)
    | false =>
      rw [tlv_none ht] at hcall;have HC := hid hcall;have HE := hid ht;clear hcall e64 ht hall hx;go_wp2_with (go_at_call 153; refine HC.out.mono ?_; rintro e w' ⟨rfl, rfl⟩)
      exact bodyPost_ret (v := rv (-1) 1) (by simp [results, Tryz.results151, go_sem]; rfl) rfl (at_no (j + 1) (by omega) (by omega) HE.out (bel_alloc (Below.refl _ _) _))
  · obtain rfl : j = 3 := by omega
    obtain ⟨x, hx⟩ : ∃ x, vv f (α - 240) 3 = x := ⟨_, rfl⟩
    rw [hx] at hv ⊢;have HA := hid (And.intro hall hx);obtain ⟨v0, v1⟩ := hv;clear hall hx hj;rcases (show x < 65536 ∨ (65536 ≤ x ∧ x ≤ 1114111) ∨ 1114111 < x by omega) with hc | ⟨hc, hc'⟩ | hc
    · go_wp2
      exact bodyPost_ret (v := rv (-1) 1) (by simp [results, Tryz.results151, go_sem]; rfl) rfl (at_bad HA.out.1 HA.out.2 (by simp [ok3]; omega) (bel_alloc (Below.refl _ _) _))
    · go_wp2
      exact bodyPost_ret (v := rv x 4) (by simp [results, Tryz.results151, go_sem]; rfl) rfl (at_yes HA.out.1 HA.out.2 (by simp [ok3]; omega) 4 rfl (bel_alloc (Below.refl _ _) _))
    · go_wp2
      exact bodyPost_ret (v := rv (-1) 1) (by simp [results, Tryz.results151, go_sem]; rfl) rfl (at_bad HA.out.1 HA.out.2 (by simp [ok3]; omega) (bel_alloc (Below.refl _ _) _))
theorem at_any (s : ByteArray) (i : Nat) (hi : i < s.size) (hs : s.size ≤ 1073741824) (w : World) (p : Pc) (hp : first ((bts s).drop i) = p) :
 Calls Tryz.prog 151 #[.string s, .int .i64 (i : Int)] w fun e w' => e = .returned (rv p.val (p.bytes.length : Int)) ∧ Below w.heap.size w w' := by
 obtain ⟨f, hf⟩ : ∃ f : Nat → Nat, ∀ m, (bts s).getD (i + m) 0 = f m := ⟨fun m => (bts s).getD (i + m) 0, fun _ => rfl⟩
 have h4 : first4 (f 0) (f 1) (f 2) (f 3) = p := by
  rw [← hp, ← hf, ← hf, ← hf, ← hf];simp only [first, getD_drop]
 have ha : (bts s).getD i 0 = f 0 := hf 0;have hf256 : f 0 < 256 := by rw [← ha]; exact getD_lt s i
 by_cases c1 : f 0 < 128
 · obtain rfl : p = .rune (f 0) := by rw [← h4, first4, if_pos c1]
   refine (at_one s i (f 0) hi ha w (f 0 : Int) (.inl ⟨c1, rfl⟩)).mono ?_;rintro e w' ⟨rfl, hb⟩;exact ⟨by rw [Pc.val, Pc.bytes, enc_one c1]; rfl, hb⟩
 by_cases c2 : f 0 < 194 ∨ 245 ≤ f 0
 · obtain rfl : p = .lone (f 0) := by
    rw [← h4, first4, if_neg c1, if_neg (by simp; omega), if_neg (by simp; omega), if_neg (by simp; omega)]
   refine (at_one s i (f 0) hi ha w (-1) (.inr ⟨by omega, c2, rfl⟩)).mono ?_;rintro e w' ⟨rfl, hb⟩;exact ⟨rfl, hb⟩
 by_cases c3 : f 0 ≤ 223
 · refine (at_1 s i (f 0) hi hs ha (by omega) c3 w f hf).mono ?_
   rintro e w' ⟨h1, h2, hb⟩;refine ⟨?_, hb⟩;cases ht : tl (f 1) with
   | true =>
     have htb := (tl_iff _).1 ht
     obtain rfl : p = .rune ((f 0 - 192) * 64 + (f 1 - 128)) := by
      rw [← h4, first4, if_neg c1, if_pos (by simp [ht]; omega)]
     rw [h1 (fun m m1 m2 => by obtain rfl : m = 1 := by omega
                               exact ht)]
     have e : vv f ((f 0 : Int) - 192) 1 = (((f 0 - 192) * 64 + (f 1 - 128) : Nat) : Int) := (by simp only [vv, Nat.zero_add]; omega);rw [e, if_pos (by simp [ok1]; omega), Pc.val, Pc.bytes, enc_two (by omega) (by omega)];rfl
   | false =>
     obtain rfl : p = .lone (f 0) := by
      rw [← h4, first4, if_neg c1, if_neg (by simp [ht]), if_neg (by simp [ht]), if_neg (by simp [ht])]
     exact h2 ⟨1, by omega, by omega, ht⟩
 by_cases c4 : f 0 ≤ 239
 · refine (at_2 s i (f 0) hi hs ha (by omega) c4 w f hf).mono ?_
   rintro e w' ⟨h1, h2, hb⟩;refine ⟨?_, hb⟩;cases ht : tl (f 1) with
   | false =>
     obtain rfl : p = .lone (f 0) := by
      rw [← h4, first4, if_neg c1, if_neg (by simp [ht]), if_neg (by simp [ht]), if_neg (by simp [ht])]
     exact h2 ⟨1, by omega, by omega, ht⟩
   | true =>
     cases ht2 : tl (f 2) with
     | false =>
       obtain rfl : p = .lone (f 0) := by
        rw [← h4, first4, if_neg c1, if_neg (by simp; omega), if_neg (by simp [ht2]), if_neg (by simp [ht2])]
       exact h2 ⟨2, by omega, by omega, ht2⟩
     | true =>
       have htb := (tl_iff _).1 ht;have htc := (tl_iff _).1 ht2;rw [h1 (fun m m1 m2 => by rcases (show m = 1 ∨ m = 2 by omega) with rfl | rfl <;> assumption)];have e : vv f ((f 0 : Int) - 224) 2 = (((f 0 - 224) * 4096 + (f 1 - 128) * 64 + (f 2 - 128) : Nat) : Int) := (by simp only [vv, Nat.zero_add, Nat.reduceAdd]; omega);rw [e];obtain ⟨x, hx⟩ : ∃ x, (f 0 - 224) * 4096 + (f 1 - 128) * 64 + (f 2 - 128) = x := ⟨_, rfl⟩
       rw [first4, hx] at h4;rw [hx];by_cases hok : 2048 ≤ x ∧ fit x = true
       · obtain rfl : p = .rune x := by
          rw [← h4, if_neg c1, if_neg (by simp; omega), if_pos (by simp [ht, ht2, hok]; omega)]
         have hfx := (fit_iff x).1 hok.2;rw [if_pos (by simp [ok2]; omega), Pc.val, Pc.bytes, enc_three hok.1 (by omega)];rfl
       · obtain rfl : p = .lone (f 0) := by
          rw [← h4, if_neg c1, if_neg (by simp; omega), if_neg (by simp only [Bool.and_eq_true, decide_eq_true_eq]; exact fun h => hok ⟨h.1.2, h.2⟩), if_neg (by simp; omega)]
         have hnf : ¬ (2048 ≤ x ∧ (x < 55296 ∨ (57344 ≤ x ∧ x ≤ 1114111))) := fun h => hok ⟨h.1, (fit_iff x).2 h.2⟩;rw [if_neg (by simp [ok2]; omega)];rfl
 · refine (at_3 s i (f 0) hi hs ha (by omega) (by omega) w f hf).mono ?_
   rintro e w' ⟨h1, h2, hb⟩;refine ⟨?_, hb⟩;cases ht : tl (f 1) with
   | false =>
     obtain rfl : p = .lone (f 0) := by
      rw [← h4, first4, if_neg c1, if_neg (by simp [ht]), if_neg (by simp [ht]), if_neg (by simp [ht])]
     exact h2 ⟨1, by omega, by omega, ht⟩
   | true =>
     cases ht2 : tl (f 2) with
     | false =>
       obtain rfl : p = .lone (f 0) := by
        rw [← h4, first4, if_neg c1, if_neg (by simp; omega), if_neg (by simp [ht2]), if_neg (by simp [ht2])]
       exact h2 ⟨2, by omega, by omega, ht2⟩
     | true =>
       cases ht3 : tl (f 3) with
       | false =>
         obtain rfl : p = .lone (f 0) := by
          rw [← h4, first4, if_neg c1, if_neg (by simp; omega), if_neg (by simp; omega), if_neg (by simp [ht3])]
         exact h2 ⟨3, by omega, by omega, ht3⟩
       | true =>
         have htb := (tl_iff _).1 ht;have htc := (tl_iff _).1 ht2;have htd := (tl_iff _).1 ht3;rw [h1 (fun m m1 m2 => by rcases (show m = 1 ∨ m = 2 ∨ m = 3 by omega) with rfl | rfl | rfl <;> assumption)];have e : vv f ((f 0 : Int) - 240) 3 = (((f 0 - 240) * 262144 + (f 1 - 128) * 4096 + (f 2 - 128) * 64 + (f 3 - 128) : Nat) : Int) := (by simp only [vv, Nat.zero_add, Nat.reduceAdd]; omega);rw [e];obtain ⟨x, hx⟩ : ∃ x, (f 0 - 240) * 262144 + (f 1 - 128) * 4096 + (f 2 - 128) * 64 + (f 3 - 128) = x := ⟨_, rfl⟩
         rw [first4, hx] at h4;rw [hx];by_cases hok : 65536 ≤ x ∧ fit x = true
         · obtain rfl : p = .rune x := by
            rw [← h4, if_neg c1, if_neg (by simp; omega), if_neg (by simp; omega), if_pos (by simp [ht, ht2, ht3, hok]; omega)]
           have hfx := (fit_iff x).1 hok.2;rw [if_pos (by simp [ok3]; omega), Pc.val, Pc.bytes, enc_four hok.1];rfl
         · obtain rfl : p = .lone (f 0) := by
            rw [← h4, if_neg c1, if_neg (by simp; omega), if_neg (by simp; omega), if_neg (by simp only [Bool.and_eq_true, decide_eq_true_eq]; exact fun h => hok ⟨h.1.2, h.2⟩)]
           have hnf : ¬ (65536 ≤ x ∧ (x < 55296 ∨ (57344 ≤ x ∧ x ≤ 1114111))) := fun h => hok ⟨h.1, (fit_iff x).2 h.2⟩;rw [if_neg (by simp [ok3]; omega)];rfl
end Go.Proofs.YthlhchaoedcdbaaGreatDoor
/- The document's answers: Runes (all pieces, as numbers and sizes), Beginning, Key, Begins. -/
namespace Go.Proofs.YthlhchaoedcdbaaGreatDoor
open Lib (hid)
open Go.RowKit Mem Run
theorem info34 : (Tryz.prog.info? 177).map (fun i => (i.zero, i.size, i.bytes)) = some (some (.agg #[.int .i64 0, .int .i64 0]), 2, 16) := by kernel_rfl
theorem own_form {w : World} {base : Nat} {e : TypeId} {size : Nat} {v : Value} {n : Nat} {xs : List Value} (h : w.ownsRow base e size v n xs) : ∃ V c, v = .slice V n c := by
 rcases h.2 with ⟨rfl, rfl⟩ | ⟨g, cap, cur, rfl, _⟩
 · exact ⟨none, 0, rfl⟩
 · exact ⟨_, _, rfl⟩
def prs (ps : List Pc) : List Value := ps.flatMap fun p => [.int .i64 p.val, .int .i64 (p.bytes.length : Int)]
theorem length_prs (ps : List Pc) : (prs ps).length = ps.length * 2 := by
 induction ps with
 | nil => rfl
 | cons p ps ih => simp only [prs, List.flatMap_cons, List.length_append, List.length_cons, List.length_nil] at *; omega
theorem prs_append (a b : List Pc) : prs (a ++ b) = prs a ++ prs b := by simp [prs]
theorem prs_at : ∀ (ps : List Pc) (k : Nat) (p : Pc), ps[k]? = some p → (prs ps)[2 * k]? = some (.int .i64 p.val) ∧ (prs ps)[2 * k + 1]? = some (.int .i64 (p.bytes.length : Int))
 | [], k, p, h => by simp at h
 | q :: ps, 0, p, h => by
   simp at h;subst h;exact ⟨rfl, rfl⟩
 | q :: ps, k + 1, p, h => by
   have := prs_at ps k p (by simpa using h);have e : prs (q :: ps) = .int .i64 q.val :: .int .i64 (q.bytes.length : Int) :: prs ps := rfl;rw [e, show 2 * (k + 1) = 2 * k + 1 + 1 by omega];simpa using this
def Row (w : World) (A : Option Addr) (n : Nat) (ps : List Pc) : Prop :=
 ps.length = n ∧ ∀ k p, ps[k]? = some p → ∃ g, A = some ⟨g, 0, none⟩ ∧ g < w.heap.size ∧ w.cell? ⟨g, 2 * k, none⟩ = some (.int .i64 p.val) ∧ w.cell? ⟨g, 2 * k + 1, none⟩ = some (.int .i64 (p.bytes.length : Int))
theorem Row.of_own {w : World} {base : Nat} {V : Option Addr} {n c : Nat} {ps : List Pc} (h : w.ownsRow base 177 2 (.slice V n c) n (prs ps)) : Row w V n ps := by
 have hl := h.1;rw [length_prs] at hl;refine ⟨by omega, fun k p hp => ?_⟩;have hk : k < ps.length := (List.getElem?_eq_some_iff.1 hp).1;rcases h.2 with ⟨_, hn⟩ | ⟨g, cap, cur, hv, _, hh, hnc, _, hcs, htk⟩
 · omega
 · cases hv
   obtain ⟨h1, h2⟩ := prs_at ps k p hp;refine ⟨g, rfl, (Array.getElem?_eq_some_iff.1 hh).1, ?_, ?_⟩
   · rw [cell_of_row w g _ cur _ _ hh]
     rw [← htk, List.getElem?_take, if_pos (by omega)] at h1;simpa using h1
   · rw [cell_of_row w g _ cur _ _ hh]
     rw [← htk, List.getElem?_take, if_pos (by omega)] at h2;simpa using h2
theorem Row.below {w w' : World} {V : Option Addr} {n : Nat} {ps : List Pc} (h : Row w V n ps) (hb : Below w.heap.size w w') : Row w' V n ps :=
 ⟨h.1, fun k p hp => by
  obtain ⟨g, e, hg, h1, h2⟩ := h.2 k p hp;exact ⟨g, e, Nat.lt_of_lt_of_le hg hb.size, (hb.cell (p := ⟨g, 2 * k, none⟩) hg).trans h1, (hb.cell (p := ⟨g, 2 * k + 1, none⟩) hg).trans h2⟩⟩
def RunRel (s : ByteArray) (w : World) (v3 v4 : Value) (wr : World) : Prop :=
 ∃ (pos : Nat) (V : Option Addr) (n c : Nat) (ps : List Pc), v3 = .slice V n c ∧ v4 = .int .i64 pos ∧ wr.ownsRow w.heap.size 177 2 (.slice V n c) n (prs ps) ∧ Below w.heap.size w wr ∧ pieces (bts s) = ps ++ rest s pos ∧ n ≤ pos ∧ pos ≤ s.size
set_option maxHeartbeats 2000000 in
theorem runes_any (s : ByteArray) (hs : s.size ≤ 1073741824) (w : World) :
 Calls Tryz.prog 141 #[.string s] w fun e w' => ∃ A c, e = .returned (.slice A (pieces (bts s)).length c) ∧ Row w' A (pieces (bts s)).length (pieces (bts s)) ∧ Below w.heap.size w w' := by
 obtain ⟨i0, hi, hz0, hz1, hz2⟩ := info_parts info34;go_enter Tryz.func141, Tryz.ntmps141
 go_wp2
 go_loopw [3, 4] (RunRel s w) (fun _ v4 _ => s.size - (intOf v4).toNat)
 case atStart => exact ⟨0, none, 0, 0, [], rfl, rfl, ⟨rfl, .inl ⟨rfl, rfl⟩⟩, Below.refl _ _, rfl, Nat.le_refl _, Nat.zero_le _⟩
 case round =>
  obtain ⟨pos, V, n, c, ps, rfl, rfl, hown, hbel, hps, hn, hpos⟩ := hrel;have HO := hid hown;have HB := hid hbel;have hsz := hbel.size;clear hown hbel;by_cases hp : pos < s.size
  · obtain ⟨p, hpc⟩ : ∃ p, first ((bts s).drop pos) = p := ⟨_, rfl⟩
    have hat := at_any s pos hp hs wr p hpc;unfold rv at hat;have hm1 := bytes_len p;have hle := rest_le hp;have hrm := rest_more hp;rw [hpc] at hle hrm;obtain ⟨m, hm⟩ : ∃ m, p.bytes.length = m := ⟨_, rfl⟩
    obtain ⟨vp, hvp⟩ : ∃ v, p.val = v := ⟨_, rfl⟩
    rw [hm] at hm1 hle hrm hat;rw [hvp] at hat;have HA := hid hat;have HH := hid (And.intro hps (And.intro hrm (And.intro hm hvp)));clear hat hps hrm hm hvp hpc;go_wp2_with fail
    refine HA.out.mono ?_;rintro e w2 ⟨rfl, hb2⟩;have hs2 := hb2.size;have HB2 := hid hb2;have hown2 : w2.ownsRow w.heap.size 177 2 (.slice V n c) n (prs ps) := ownsRow_below HO.out hb2;have HO2 := hid hown2
    have hnews : ∀ j u, ([.int .i64 vp, .int .i64 (m : Int)] : List Value)[j]? = some u → ((w2.alloc (.cells #[.int .i64 vp, .int .i64 (m : Int)] 177)).alloc (.cells #[.int .i64 vp, .int .i64 (m : Int)] 177)).cell? ((⟨w2.heap.size + 1, 0, none⟩ : Addr).add j) = some u := by
     have h := World.news_of_block (Blk.new (w2.alloc (.cells #[.int .i64 vp, .int .i64 (m : Int)] 177)) 177 #[.int .i64 vp, .int .i64 (m : Int)]);rw [size_alloc] at h;exact h
    have HNB := hid hnews;clear hnews;have HBX := hid ((Blk.new w2 177 #[.int .i64 vp, .int .i64 (m : Int)]).alloc (.cells #[.int .i64 vp, .int .i64 (m : Int)] 177))
    have hne : some w2.heap.size ≠ (Value.slice V n c).ownBlock := by
     intro e;have := (HO2.out.lt w2.heap.size e.symm).2;omega
    have HNE := hid hne;clear hb2 hown2 hne;go_wp2_with (at_builtin; refine wpList_append_own _ rfl (.tmp 13) (.tmp 15) 174 rfl w.heap.size 177 i0 _ 2 16 Tryz.underlying174 hi hz0 hz1 hz2 rfl (by omega) (.slice V n c) n (prs ps) rfl ((HO2.out.alloc _).alloc _) ⟨w2.heap.size + 1, 0, none⟩ 1 1 [.int .i64 vp, .int .i64 (m : Int)] rfl rfl HNB.out (by intro u hu; simp at hu; rcases hu with rfl | rfl <;> rfl) (by unfold maxLen; omega) (by omega) (by rw [size_alloc, size_alloc]; omega) ?_; intro v3 w3 hown3 hg3 _; obtain ⟨V3, c3, rfl⟩ := own_form hown3; have c1 : w3.cell? ⟨w2.heap.size, 1, none⟩ = some (.int .i64 (m : Int)) := (HBX.out.grown hg3 HNE.out).cell 1)
    have hbel3 : Below w.heap.size w w3 := ((((HB.out.trans (HB2.out.mono hsz)).alloc (by omega) _).alloc (by rw [size_alloc]; omega) _).grown hg3 (by rw [size_alloc, size_alloc]; omega) fun k hk => (HO2.out.lt k hk).1)
    have HB3 := hid hbel3;have HO3 := hid hown3;clear hbel3 hown3 hg3;go_roundw
    case rel =>
     refine ⟨pos + m, V3, n + 1, c3, ps ++ [p], rfl, by simp, ?_, HB3.out, ?_, by omega, hle⟩
     · have e : prs (ps ++ [p]) = prs ps ++ [.int .i64 vp, .int .i64 (m : Int)] := by
        rw [prs_append, ← HH.out.2.2.1, ← HH.out.2.2.2];rfl
       rw [e];exact HO3.out
     · rw [HH.out.1, HH.out.2.1]
       simp
    case measure =>
     simp [intOf];omega
  · rw [rest_end hp, List.append_nil] at hps
    have hrow := Row.of_own HO.out;have HR := hid (And.intro hps hrow);clear hps hrow
    go_wp2
    go_ret;rw [HR.out.1];have hl := HR.out.2.1;rw [hl];exact ⟨V, c, rfl, HR.out.2, HB.out⟩
end Go.Proofs.YthlhchaoedcdbaaGreatDoor
/- The document's answers: Beginning, Key, Begins. -/
namespace Go.Proofs.YthlhchaoedcdbaaGreatDoor
open Lib (hid)
open Go.RowKit Mem Run
theorem fine_val (p : Pc) : p.fine = (!decide (p.val < 32) && !decide (p.val = 127)) := by
 cases p with
 | lone b => rfl
 | rune c =>
   show (!decide (c < 32) && !decide (c = 127)) = (!decide ((c : Int) < 32) && !decide ((c : Int) = 127));have e1 : decide (c < 32) = decide ((c : Int) < 32) := decide_eq_decide.2 (by omega);have e2 : decide (c = 127) = decide ((c : Int) = 127) := decide_eq_decide.2 (by omega);rw [e1, e2]
theorem Row.at_ {w : World} {A : Option Addr} {n : Nat} {ps : List Pc} (h : Row w A n ps) {k : Nat} (hk : k < n) : ∃ g p, A = some ⟨g, 0, none⟩ ∧ ps[k]? = some p ∧ w.cell? ⟨g, k * 2, none⟩ = some (.int .i64 p.val) ∧ w.cell? ⟨g, k * 2 + 1, none⟩ = some (.int .i64 (p.bytes.length : Int)) := by
 have hl := h.1;have e : ps[k]? = some (ps[k]'(by omega)) := List.getElem?_eq_getElem (by omega);obtain ⟨g, h1, _, h2, h3⟩ := h.2 k _ e;rw [Nat.mul_comm 2 k] at h2 h3;exact ⟨g, _, h1, e, h2, h3⟩
set_option maxHeartbeats 1000000 in
theorem refbegin_any (s : ByteArray) (hs : s.size ≤ 1073741824) (w : World) : Calls Tryz.prog 102 #[.string s] w (Tells (beg (bts s)) w) := by
 have hr := runes_any s hs w;have hpl := pieces_le (bts s);rw [length_bts] at hpl;obtain ⟨ps, hps⟩ : ∃ ps, pieces (bts s) = ps := ⟨_, rfl⟩
 obtain ⟨n, hn⟩ : ∃ n, ps.length = n := ⟨_, rfl⟩
 rw [hps, hn] at hr hpl;have hbeg : beg (bts s) = (decide (n ≤ 32) && ps.all Pc.fine) := by rw [beg, hps, hn]
 rw [hbeg];have HR := hid hr;have HN := hid hn;clear hr hps hn hbeg;go_enter Tryz.func102, Tryz.ntmps102
 go_wp2_with fail
 refine HR.out.mono ?_;rintro e w1 ⟨A, c, rfl, hrow, hb1⟩;have HW := hid hrow;have HB := hid hb1;clear hrow hb1
 go_wp2
 go_loop [4] (fun vi => ∃ k : Nat, k ≤ n ∧ vi = .int .i64 k ∧ (ps.take k).all Pc.fine = true) (fun vi => n - (intOf vi).toNat)
 case atStart => exact ⟨0, Nat.zero_le _, rfl, rfl⟩
 case round =>
  obtain ⟨k, hk, rfl, hall⟩ := hrel;by_cases hkn : k < n
  · obtain ⟨g, p, rfl, hp, hc0, hc1⟩ := HW.out.at_ hkn
    have hlt : decide ((k : Int) < (n : Int)) = true := (by simp; omega);have hfv := fine_val p;obtain ⟨v, hv⟩ : ∃ v, p.val = v := ⟨_, rfl⟩
    rw [hv] at hc0 hfv;have htk : ps.take (k + 1) = ps.take k ++ [p] := (by rw [List.take_add_one, hp]; rfl);have hmem : p ∈ ps := List.mem_of_getElem? hp;have HH := hid (And.intro hall (And.intro hfv (And.intro htk hmem)));clear hall hfv htk hmem hp hv hc1;by_cases h1 : v < 32
    · have hfin : (decide (n ≤ 32) && ps.all Pc.fine) = false := by
       have hf : p.fine = false := by rw [HH.out.2.1]; simp [h1]
       have : ps.all Pc.fine = false := by
        rw [List.all_eq_false];exact ⟨p, HH.out.2.2.2, by simp [hf]⟩
       rw [this, Bool.and_false]
      rw [hfin];clear hfin
      go_wp2
      go_ret;exact ⟨rfl, HB.out⟩
    · have b1 : decide (v < 32) = false := by simpa using h1
      by_cases h2 : v = 127
      · subst h2
        have hfin : (decide (n ≤ 32) && ps.all Pc.fine) = false := by
         have hf : p.fine = false := by rw [HH.out.2.1]; simp
         have : ps.all Pc.fine = false := by
          rw [List.all_eq_false];exact ⟨p, HH.out.2.2.2, by simp [hf]⟩
         rw [this, Bool.and_false]
        rw [hfin];clear hfin
        go_wp2
        go_ret;exact ⟨rfl, HB.out⟩
      · have b2 : (v == 127) = false := by simpa using h2
        go_wp2
        refine ⟨⟨k + 1, by omega, by simp, ?_⟩, by simp [intOf]; omega⟩;rw [HH.out.2.2.1, List.all_append, HH.out.1];simp [HH.out.2.1, h1, h2]
  · have hlt : decide ((k : Int) < (n : Int)) = false := by simp; omega
    have hkk : k = n := by omega
    have hfin : (decide (n ≤ 32) && ps.all Pc.fine) = decide ((n : Int) ≤ 32) := by
     rw [hkk, ← HN.out, List.take_length] at hall;rw [hall, Bool.and_true];by_cases h : n ≤ 32
     · simp [h]; omega
     · simp [h]; omega
    have HF := hid hfin;clear hfin hall
    go_wp2
    go_ret;exact ⟨ret_bool HF.out.symm, HB.out⟩
theorem refkey_any (s : ByteArray) (hs : s.size ≤ 1073741824) (w : World) : Calls Tryz.prog 103 #[.string s] w (Tells (key (bts s)) w) := by
 have hb := refbegin_any s hs w;have HB := hid hb;clear hb;cases h : s.toList.isEmpty with
 | true =>
   have hk : key (bts s) = false := by
    rw [empty_tell] at h;simp [key, h]
   rw [hk];clear hk;go_enter Tryz.func103, Tryz.ntmps103
   go_wp2
   go_ret;exact ⟨rfl, Below.refl _ _⟩
 | false =>
   have hk : key (bts s) = beg (bts s) := by
    rw [empty_tell] at h;simp [key, h]
   rw [hk];clear hk;go_enter Tryz.func103, Tryz.ntmps103
   go_wp2_with fail
   refine HB.out.mono ?_;rintro e w1 ⟨rfl, hb1⟩
   go_wp2
   go_ret;exact ⟨rfl, hb1⟩
end Go.Proofs.YthlhchaoedcdbaaGreatDoor
