/-
  Texts of earlier layers, as one.
-/
import Derived.Test.YtcnjjabjdepjgaaDskShows
import Derived.Test.YtcnjjabjdepjgaaRBase
import Derived.Deep.Cut
/- Acts in memory; are there more, or longer ones, than are looked at? -/
namespace Go.Proofs.Ytcnjjabjdepjgaa.Dsk
open Go.RowKit Mem Cod

structure Ac where
  z : Int
  x : ByteArray
  y : ByteArray
  p : List Nat
  nn : Int
  ks : List Int
/-- Acts that can be read, in a row of six cells each. -/
def Acts (w : World) (A : Option Addr) (n c : Nat) (l : List Ac) : Prop :=
  l.length = n ∧ n ≤ c ∧ c ≤ maxLen ∧ ∀ (i : Nat) (a : Ac), l[i]? = some a → ∃ b o PA pc KA kc, A = some ⟨b, o, none⟩ ∧ b < w.heap.size ∧
    w.cell? ⟨b, o + i * 6, none⟩ = some (.int .i64 a.z) ∧ w.cell? ⟨b, o + i * 6 + 1, none⟩ = some (.string a.x) ∧ w.cell? ⟨b, o + i * 6 + 2, none⟩ = some (.string a.y) ∧
    w.cell? ⟨b, o + i * 6 + 3, none⟩ = some (.slice PA a.p.length pc) ∧ w.cell? ⟨b, o + i * 6 + 4, none⟩ = some (.int .i64 a.nn) ∧ w.cell? ⟨b, o + i * 6 + 5, none⟩ = some (.slice KA a.ks.length kc) ∧
    Rd w PA a.p.length pc (cs a.p) ∧ Rd w KA a.ks.length kc (vs a.ks)
theorem Acts.below {w w' : World} {A : Option Addr} {n c : Nat} {l : List Ac} (h : Acts w A n c l) (hb : Below w.heap.size w w') : Acts w' A n c l := by
  obtain ⟨h1, h2, h3, h4⟩ := h
  refine ⟨h1, h2, h3, fun i a ha => ?_⟩
  obtain ⟨b, o, PA, pc, KA, kc, e, hlt, c0, c1, c2, c3, c4, c5, r1, r2⟩ := h4 i a ha
  have hk : ∀ j, w'.cell? ⟨b, j, none⟩ = w.cell? ⟨b, j, none⟩ := fun j => hb.cell (p := ⟨b, j, none⟩) hlt
  exact ⟨b, o, PA, pc, KA, kc, e, Nat.lt_of_lt_of_le hlt hb.size, (hk _).trans c0, (hk _).trans c1, (hk _).trans c2, (hk _).trans c3, (hk _).trans c4, (hk _).trans c5, r1.below hb, r2.below hb⟩
/-- Not too long. -/
def Small (a : Ac) : Prop := a.p.length ≤ 100 ∧ a.ks.length ≤ 50
def GreatRel (w0 : World) (n : Nat) (l : List Ac) (i : Value) (wr : World) : Prop := ∃ k : Nat, k ≤ n ∧ k ≤ 60 ∧ i = .int .i64 (k : Int) ∧ (∀ a ∈ l.take k, Small a) ∧ wr = w0
set_option maxRecDepth 20000 in
set_option maxHeartbeats 8000000 in
theorem great_any (A : Option Addr) (n c : Nat) (l : List Ac) (w : World) (h : Acts w A n c l) :
    Calls Try.prog 8 #[.slice A n c] w (fun e w' => ∃ t, e = .returned (.bool t) ∧ (t = false → n ≤ 60 ∧ ∀ a ∈ l, Small a) ∧ w' = w) := by
  obtain ⟨hl, hnc, hc, hat⟩ := h
  unfold maxLen at hc
  have HL := Lib.hid hl
  have HAT := Lib.hid hat
  clear hl hat
  go_enter Try.func8, Try.ntmps8
  go_wp2_with fail
  go_loopw [3] (GreatRel w n l) (fun i _ => n - (intOf i).toNat)
  case atStart => exact ⟨0, Nat.zero_le _, Nat.zero_le _, rfl, by simp, rfl⟩
  case round =>
    obtain ⟨k, hk, hk60, rfl, hs, rfl⟩ := hrel
    have HS := Lib.hid hs
    clear hs
    by_cases hlt : k < n
    · have b1 : decide ((k : Int) < (n : Int)) = true := decide_eq_true (by omega)
      by_cases h60 : k < 60
      · have b2 : decide ((k : Int) < 60) = true := decide_eq_true (by omega)
        have b3 : decide ((n : Int) ≤ (k : Int)) = false := decide_eq_false (by omega)
        have b4 : ¬ n ≤ k := by omega
        obtain ⟨a, ha⟩ : ∃ a, l[k]? = some a := ⟨_, List.getElem?_eq_getElem (by rw [HL.out]; exact hlt)⟩
        obtain ⟨b, o, PA, pc, KA, kc, rfl, hlb, c0, c1, c2, c3, c4, c5, _, _⟩ := HAT.out k a ha
        have hsm : a.p.length ≤ 100 → a.ks.length ≤ 50 → ∀ x ∈ l.take (k + 1), Small x := fun h1 h2 x hx => by
          rw [List.take_add_one, ha] at hx
          rcases List.mem_append.1 hx with hx | hx
          · exact HS.out x hx
          · have : x = a := by simpa using hx
            subst this
            exact ⟨h1, h2⟩
        obtain ⟨pn, hpn⟩ : ∃ pn, a.p.length = pn := ⟨_, rfl⟩
        obtain ⟨kn, hkn⟩ : ∃ kn, a.ks.length = kn := ⟨_, rfl⟩
        rw [hpn] at c3 hsm
        rw [hkn] at c5 hsm
        have HSM := Lib.hid hsm
        clear ha c0 c1 c2 c4 hpn hkn hsm
        by_cases hp : 100 < pn
        · have b5 : decide ((100 : Int) < (pn : Int)) = true := decide_eq_true (by omega)
          go_wp2_with fail
          go_ret
          exact ⟨true, rfl, (fun h => by cases h), rfl⟩
        · have b5 : decide ((100 : Int) < (pn : Int)) = false := decide_eq_false (by omega)
          by_cases hq : 50 < kn
          · have b6 : decide ((50 : Int) < (kn : Int)) = true := decide_eq_true (by omega)
            go_wp2_with fail
            go_ret
            exact ⟨true, rfl, (fun h => by cases h), rfl⟩
          · have b6 : decide ((50 : Int) < (kn : Int)) = false := decide_eq_false (by omega)
            go_wp2_with fail
            exact ⟨⟨k + 1, by omega, by omega, by simp, HSM.out (by omega) (by omega), rfl⟩, by simp [intOf]; omega⟩
      · have b2 : decide ((k : Int) < 60) = false := decide_eq_false (by omega)
        by_cases hn : 60 < n
        · have b5 : decide ((60 : Int) < (n : Int)) = true := decide_eq_true (by omega)
          go_wp2_with fail
          go_ret
          exact ⟨true, rfl, (fun h => by cases h), rfl⟩
        · omega
    · have b1 : decide ((k : Int) < (n : Int)) = false := decide_eq_false (by omega)
      have b5 : decide ((60 : Int) < (n : Int)) = false := decide_eq_false (by omega)
      have hall : l.take k = l := List.take_of_length_le (by rw [HL.out]; omega)
      have hs := HS.out
      rw [hall] at hs
      have HA := Lib.hid hs
      clear hs hall
      go_wp2_with fail
      go_ret
      exact ⟨false, rfl, fun _ => ⟨by omega, HA.out⟩, rfl⟩
end Go.Proofs.Ytcnjjabjdepjgaa.Dsk
