/-
  strconv.ParseUint to the base 16, of 8 and of 21 bits, of any text: the digits' number, if there are digits alone, and it isn't too great; else an error.
-/
import Derived.Test.YtlaiofpaahkceaaDoorRunStep
import Derived.BigCall
import Derived.BigGuard
namespace Go.Proofs.YtlaiofpaahkceaaDoor
open Go.RowKit Mem Run

def low (c : Nat) : Nat := c ||| 32
theorem low_or (c : Nat) (h : c < 256) : bits .or .u8 (c : Int) 32 = (low c : Int) := u8_or_nat c 32 h (by omega)
theorem low_some_all : ∀ c : Fin 256, ∀ d : Fin 16, dv c.val = some d.val → (48 ≤ c.val ∧ c.val ≤ 57 ∧ d.val = c.val - 48) ∨ (10 ≤ d.val ∧ low c.val = 87 + d.val ∧ 58 ≤ c.val ∧ c.val ≠ 95) := by decide +kernel
theorem dv_lt {c d : Nat} (h : dv c = some d) : d < 16 := by
  unfold dv at h
  split at h
  · cases h; omega
  · split at h
    · cases h; omega
    · split at h
      · cases h; omega
      · cases h
theorem low_some {c d : Nat} (hc : c < 256) (h : dv c = some d) : (48 ≤ c ∧ c ≤ 57 ∧ d = c - 48) ∨ (10 ≤ d ∧ low c = 87 + d ∧ 58 ≤ c ∧ c ≠ 95) := low_some_all ⟨c, hc⟩ ⟨d, dv_lt h⟩ h
theorem low_none_all : ∀ c : Fin 256, dv c.val = none → (c.val < 48 ∨ 57 < c.val) ∧ (low c.val < 97 ∨ 102 < low c.val) ∧ low c.val < 256 := by decide +kernel
theorem low_none {c : Nat} (hc : c < 256) (h : dv c = none) : (c < 48 ∨ 57 < c) ∧ (low c < 97 ∨ 102 < low c) ∧ low c < 256 := low_none_all ⟨c, hc⟩ h

/-- What is told of the digits' number: it, or an error. -/
def Num (r : Option Nat) (v : Nat) (er : Value) : Prop :=
  (∀ x, r = some x → v = x ∧ er = .nilIface) ∧ (r = none → er = .iface 59 (.int .i64 2) ∨ er = .iface 59 (.int .i64 1))
def ParsedIn (mx : Nat) (r : Option Nat) (w : World) (e : Ending) (w' : World) : Prop :=
  ∃ (v : Nat) (er : Value), e = .returned (.tuple #[.int .u64 (v : Int), er]) ∧ v ≤ mx ∧ Num r v er ∧ Below w.heap.size w w'
theorem parsed_none {mx : Nat} {r : Option Nat} {w w' : World} {v : Nat} {k : Int} (hr : r = none) (hv : v ≤ mx) (hk : k = 2 ∨ k = 1) (hb : Below w.heap.size w w') :
    ParsedIn mx r w (.returned (.tuple #[.int .u64 (v : Int), .iface 59 (.int .i64 k)])) w' := by
  refine ⟨v, _, rfl, hv, ⟨(fun x hx => by rw [hr] at hx; cases hx), fun _ => ?_⟩, hb⟩
  rcases hk with rfl | rfl
  · exact .inl rfl
  · exact .inr rfl
theorem parsed_some {mx : Nat} {r : Option Nat} {w w' : World} {v : Nat} (hr : r = some v) (hv : v ≤ mx) (hb : Below w.heap.size w w') :
    ParsedIn mx r w (.returned (.tuple #[.int .u64 (v : Int), .nilIface])) w' := by
  refine ⟨v, _, rfl, hv, ⟨fun x hx => ?_, (fun h => by rw [hr] at h; cases h)⟩, hb⟩
  rw [hr] at hx
  cases hx
  exact ⟨rfl, rfl⟩

set_option maxHeartbeats 8000000 in
set_option maxRecDepth 100000 in
theorem parse_in_8 (t : ByteArray) (hne : t.size ≠ 0) (hmax : t.size ≤ 1099511627776) (w : World) :
    Calls Tryd.prog 34 #[.string t, .int .i64 16, .int .i64 8] w (ParsedIn 255 (pu 255 0 (bts t)) w) := by
  have hemp : t.toList.isEmpty = false := by
    rw [empty_tell]
    have := length_bts t
    cases h : bts t with
    | nil => rw [h] at this; simp at this; omega
    | cons _ _ => rfl
  have hcv := Lib.run_convert_string_bytes (P := Tryd.prog) w 9 35 5 t (u := .string) Tryd.underlying9 Tryd.underlying35 Tryd.underlying5
  have hcell : ∀ j, j < t.size → (Lib.bytesWorld w 5 t).cell? ⟨w.heap.size, j, none⟩ = some (.int .u8 ((bts t).getD j 0 : Nat)) := fun j hj => by
    rw [Lib.bytesWorld_cell w 5 t j hj]
    simp [bts, List.getD]
    cases t.data[j]? <;> rfl
  have hbel := below_ofText w 5 t
  obtain ⟨W1, hW1⟩ : ∃ W1, W1 = Lib.bytesWorld w 5 t := ⟨_, rfl⟩
  rw [← hW1] at hcv hcell hbel
  clear hW1
  have hmv : IntKind.u64.wrap (IntKind.u64.wrap 256 - 1) = 255 := by decide
  have HC := Lib.hid hcell
  have HB := Lib.hid hbel
  clear hcell hbel
  go_enter Tryd.func34, Tryd.ntmps34
  go_wp2
  go_loop [12, 13, 101] (fun vu vn vi => ∃ (k acc : Nat) (a : Int), vu = .bool false ∧ vn = .int .u64 a ∧ vi = .int .i64 k ∧ k ≤ t.size ∧ a = (acc : Int) ∧ acc ≤ 255 ∧ pu 255 0 (bts t) = pu 255 acc ((bts t).drop k)) (fun _ _ vi => t.size - (intOf vi).toNat)
  case atStart => exact ⟨0, 0, 0, rfl, rfl, rfl, Nat.zero_le _, rfl, Nat.zero_le _, rfl⟩
  case round =>
    obtain ⟨k, acc, a, rfl, rfl, rfl, hk, ha, hacc, hpu⟩ := hrel
    have a0 : 0 ≤ a := by omega
    have a1 : a ≤ 255 := by omega
    by_cases hkn : k < t.size
    · obtain ⟨b, hb⟩ : ∃ b, (bts t).getD k 0 = b := ⟨_, rfl⟩
      have hb256 : b < 256 := by rw [← hb]; exact getD_lt t k
      have hc := HC.out k hkn
      rw [hb] at hc
      have hdrop : (bts t).drop k = b :: (bts t).drop (k + 1) := by
        rw [List.drop_eq_getElem_cons (by rw [length_bts]; exact hkn), ← hb]
        simp [List.getD, List.getElem?_eq_getElem (show k < (bts t).length by rw [length_bts]; exact hkn)]
      rw [hdrop] at hpu
      have hlo := low_or b hb256
      obtain ⟨β, hβ⟩ : ∃ β : Int, (b : Int) = β := ⟨_, rfl⟩
      obtain ⟨l, hl⟩ : ∃ l : Int, (low b : Int) = l := ⟨_, rfl⟩
      rw [hβ] at hc hlo
      rw [hl] at hlo
      have b0 : 0 ≤ β := by omega
      have b1 : β ≤ 255 := by omega
      cases hd : dv b with
      | none =>
        obtain ⟨h1, h2, h3⟩ := low_none hb256 hd
        have i1 : β < 48 ∨ 57 < β := by omega
        have i2 : l < 97 ∨ 102 < l := by omega
        have i3 : 0 ≤ l := by omega
        have i4 : l < 256 := by omega
        have hres : pu 255 0 (bts t) = none := by rw [hpu]; simp [pu, hd]
        have HR := Lib.hid hres
        clear hd hpu hdrop hb hres h1 h2 h3 hβ hl hb256 ha hacc
        go_wp2_with (go_at_call 42; refine (Tryd.internal_strconv_lower _ _).mono ?_; rintro e w' ⟨rfl, rfl⟩)
        all_goals go_ret2
        all_goals exact parsed_none (v := 0) HR.out (by omega) (.inl rfl) HB.out
      | some d =>
        have hd16 := dv_lt hd
        have hstep : pu 255 0 (bts t) = if acc * 16 + d ≤ 255 then pu 255 (acc * 16 + d) ((bts t).drop (k + 1)) else none := by rw [hpu]; simp [pu, hd]
        have HS := Lib.hid hstep
        have hls := low_some hb256 hd
        clear hd hpu hdrop hb hstep
        by_cases hov : acc * 16 + d ≤ 255
        · rcases hls with ⟨h1, h2, h3⟩ | ⟨h1, h2, h3, h4⟩
          · have i1 : 48 ≤ β := by omega
            have i2 : β ≤ 57 := by omega
            have iov : a * 16 + (β - 48) ≤ 255 := by omega
            have HF := Lib.hid (And.intro (show a * 16 + (β - 48) = ((acc * 16 + d : Nat) : Int) by omega) (And.intro hov (show pu 255 0 (bts t) = pu 255 (acc * 16 + d) ((bts t).drop (k + 1)) by rw [HS.out, if_pos hov])))
            clear h1 h2 h3 hβ hl hb256 ha hacc hov hd16 HS
            go_wp2
            refine ⟨⟨k + 1, acc * 16 + d, a * 16 + (β - 48), rfl, by first | rfl | (congr 1; omega), by first | rfl | simp, by omega, HF.out⟩, by simp [intOf]; omega⟩
          · have hb95 : (β == 95) = false := by simp; omega
            have i0 : 57 < β := by omega
            have i1 : 97 ≤ l := by omega
            have i2 : l ≤ 102 := by omega
            have iov : a * 16 + (l - 97 + 10) ≤ 255 := by omega
            have HF := Lib.hid (And.intro (show a * 16 + (l - 97 + 10) = ((acc * 16 + d : Nat) : Int) by omega) (And.intro hov (show pu 255 0 (bts t) = pu 255 (acc * 16 + d) ((bts t).drop (k + 1)) by rw [HS.out, if_pos hov])))
            clear h1 h2 h3 h4 hβ hl hb256 ha hacc hov hd16 HS
            go_wp2_with (go_at_call 42; refine (Tryd.internal_strconv_lower _ _).mono ?_; rintro e w' ⟨rfl, rfl⟩)
            refine ⟨⟨k + 1, acc * 16 + d, a * 16 + (l - 97 + 10), rfl, by first | rfl | (congr 1; omega), by first | rfl | simp, by omega, HF.out⟩, by simp [intOf]; omega⟩
        · have HS2 := Lib.hid (show pu 255 0 (bts t) = none by rw [HS.out, if_neg hov])
          rcases hls with ⟨h1, h2, h3⟩ | ⟨h1, h2, h3, h4⟩
          · have i1 : 48 ≤ β := by omega
            have i2 : β ≤ 57 := by omega
            have iov : 255 < a * 16 + (β - 48) := by omega
            clear h1 h2 h3 hβ hl hb256 ha hacc hov hd16 HS
            go_wp2
            go_ret2
            exact parsed_none (v := 255) HS2.out (by omega) (.inr rfl) HB.out
          · have hb95 : (β == 95) = false := by simp; omega
            have i0 : 57 < β := by omega
            have i1 : 97 ≤ l := by omega
            have i2 : l ≤ 102 := by omega
            have iov : 255 < a * 16 + (l - 97 + 10) := by omega
            clear h1 h2 h3 h4 hβ hl hb256 ha hacc hov hd16 HS
            go_wp2_with (go_at_call 42; refine (Tryd.internal_strconv_lower _ _).mono ?_; rintro e w' ⟨rfl, rfl⟩)
            go_ret2
            exact parsed_none (v := 255) HS2.out (by omega) (.inr rfl) HB.out
    · have hkk : k = t.size := by omega
      subst hkk
      have hres : pu 255 0 (bts t) = some acc := by
        rw [hpu, List.drop_eq_nil_of_le (by rw [length_bts]; exact Nat.le_refl _)]
        rfl
      have HR := Lib.hid hres
      subst ha
      clear hpu hres a0 a1
      go_wp2
      go_ret2
      exact parsed_some HR.out hacc HB.out
end Go.Proofs.YtlaiofpaahkceaaDoor
