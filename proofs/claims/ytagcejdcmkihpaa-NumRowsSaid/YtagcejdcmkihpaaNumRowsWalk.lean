/-
  The walk of the law NumRows: it answers true, whatever the numbers; what was there stays.
-/
import Derived.Test.YtagcejdcmkihpaaNumBackWalk
namespace Go.Proofs.Ytagcejdcmkihpaa
open Go.RowKit Mem

/-- The forms of numbers, one behind the other. -/
def forms (vs : List Nat) : List Nat := (vs.map Num.put).flatten

theorem forms_snoc (vs : List Nat) (v : Nat) : forms (vs ++ [v]) = forms vs ++ Num.put v := by simp [forms]
theorem forms_cons (vs : List Nat) (v : Nat) : forms (v :: vs) = Num.put v ++ forms vs := by simp [forms]
theorem forms_lt (vs : List Nat) (h : ∀ v ∈ vs, v < 2 ^ 64) : ∀ b ∈ forms vs, b < 256 := by
  intro b hb
  obtain ⟨l, hl, hb⟩ := List.mem_flatten.1 hb
  obtain ⟨v, hv, rfl⟩ := List.mem_map.1 hl
  exact Num.put_lt v (h v hv) b hb
theorem forms_le (vs : List Nat) (h : ∀ v ∈ vs, v < 2 ^ 64) : (forms vs).length ≤ 9 * vs.length := by
  induction vs with
  | nil => simp [forms]
  | cons v vs ih =>
    have h1 := ih (fun x hx => h x (by simp [hx]))
    have h2 := Num.size_le v (h v (by simp))
    rw [forms_cons, List.length_append, Num.length_put, List.length_cons]
    omega

def RowsRel (w : World) (n : Nat) (vs : List Nat) (o i : Value) (wr : World) : Prop :=
  ∃ k : Nat, k ≤ n ∧ i = .int .i64 k ∧ ∃ B m d, o = .slice B m d ∧ m ≤ 540 ∧ Rd wr B m d (cs (forms (vs.take k))) ∧ Below w.heap.size w wr

def RowsRel2 (wr : World) (n : Nat) (vs : List Nat) (o i : Value) : Prop :=
  ∃ k : Nat, k ≤ n ∧ i = .int .i64 k ∧ ∃ B m d, o = .slice B m d ∧ m ≤ 540 ∧ Rd wr B m d (cs (forms (vs.drop k)))

theorem Rd.num {w : World} {A : Option Addr} {n c k : Nat} {vs : List Nat} (h : Rd w A n c (us vs)) (hk : k < n) : ∃ ad b, A = some ad ∧ vs[k]? = some b ∧ w.cell? (ad.add k) = some (.int .u64 (b : Int)) := by
  obtain ⟨ad, u, e, _, hx, hc⟩ := h.at_ hk
  have hl := h.len
  rw [length_us] at hl
  rw [us_at vs k (by omega)] at hx
  cases hx
  exact ⟨ad, _, e, List.getElem?_eq_getElem (by omega), hc⟩

set_option maxHeartbeats 1000000 in
theorem rows_far (A : Option Addr) (n c : Nat) (w : World) (hn : 60 < n) :
    Calls Try.prog 7 #[.slice A n c] w (Tells true w) := by
  go_enter Try.func7, Try.ntmps7
  go_wp2_with fail
  refine (awake_true _).mono ?_
  rintro e w4 ⟨rfl, hb4⟩
  go_wp2_with fail
  go_ret
  exact ⟨rfl, hb4⟩

set_option maxHeartbeats 2000000 in
theorem rows_near (A : Option Addr) (n c : Nat) (vs : List Nat) (w : World) (hn : n ≤ 60) (hr : Rd w A n c (us vs)) (hlt : ∀ v ∈ vs, v < 2 ^ 64) :
    Calls Try.prog 7 #[.slice A n c] w (Tells true w) := by
  have HL := Lib.hid hlt
  have hl := hr.len
  rw [length_us] at hl
  have HLEN := Lib.hid hl
  clear hlt hl
  have d0 : decide (60 < n) = false := by simp; omega
  have d1 : decide ((60 : Int) < (n : Int)) = false := by simp; omega
  go_enter Try.func7, Try.ntmps7
  go_wp2_with fail
  go_loopw [3, 4] (RowsRel w n vs) (fun _ i _ => n - (intOf i).toNat)
  case atStart => exact ⟨0, Nat.zero_le _, rfl, none, 0, 0, rfl, by omega, Rd.nil_ _, Below.refl _ _⟩
  case round =>
    obtain ⟨k, hk, rfl, B, m, d, rfl, hm, hrb, hbw⟩ := hrel
    by_cases hlt : k < n
    · obtain ⟨ad, x, rfl, hx, hcx⟩ := Rd.num (hr.below hbw) hlt
      have HX := Lib.hid hx
      clear hx
      have hx64 := HL.out x (List.mem_of_getElem? HX.out)
      have hle := forms_le (vs.take (k + 1)) (fun v hv => HL.out v (List.mem_of_mem_take hv))
      have htk : (vs.take (k + 1)).length ≤ k + 1 := List.length_take_le _ _
      have hfo : forms (vs.take k) ++ Num.put ((x : Nat) : Int).toNat = forms (vs.take (k + 1)) := by
        rw [List.take_add_one, HX.out, Int.toNat_natCast]
        exact (forms_snoc _ _).symm
      have HG := Lib.hid (put_gives B m d _ (forms (vs.take k)) (forms (vs.take (k + 1))) x wr hrb (by omega) (by omega) (by omega) hfo rfl)
      generalize (forms (vs.take (k + 1))).length = m' at hle HG
      clear hfo hx64
      go_wp2_with fail
      refine HG.out.mono ?_
      rintro e w1 ⟨B1, d1, rfl, hr1, hb1⟩
      go_wp2_with fail
      exact ⟨⟨k + 1, by omega, by simp, B1, m', d1, rfl, by omega, hr1, bel_trans hbw hb1⟩, by simp [intOf]; omega⟩
    · obtain rfl : k = n := by omega
      rw [List.take_of_length_le (by rw [HLEN.out]; exact Nat.le_refl _)] at hrb
      have hrw := hr.below hbw
      go_wp2_with fail
      go_loop [3, 5] (RowsRel2 wr k vs) (fun _ i => k - (intOf i).toNat)
      case atStart => exact ⟨0, Nat.zero_le _, rfl, B, m, d, rfl, hm, by simpa using hrb⟩
      case round =>
        clear hrb hm hlt
        obtain ⟨j, hj, rfl, B, m, d, rfl, hm, hrb⟩ := hrel
        by_cases hlt : j < k
        · obtain ⟨ad, x, rfl, hx, hcx⟩ := Rd.num hrw hlt
          have hx64 := HL.out x (List.mem_of_getElem? hx)
          have hdr : vs.drop j = x :: vs.drop (j + 1) := by
            have h2 := HLEN.out
            rw [List.drop_eq_getElem_cons (by omega)]
            rw [List.getElem?_eq_getElem (by omega)] at hx
            rw [Option.some.inj hx]
          have hsz9 := Num.size_le x hx64
          have hsz1 := Num.size_pos x
          have hlen := hrb.len
          rw [length_cs, hdr, forms_cons, List.length_append, Num.length_put] at hlen
          have HT := Lib.hid (take_tk B m d (forms (vs.drop j)) wr x (Num.size x) 0 hrb (forms_lt _ (fun v hv => HL.out v (List.mem_of_mem_drop hv)))
            (by rw [hdr, forms_cons, Num.take_put _ hx64, Int.toNat_natCast, Int.toNat_natCast]; rfl) (by omega) (by omega) (by omega))
          have hcut := hrb.cut (k := Num.size x) (by omega)
          rw [cs_drop, hdr, forms_cons, List.drop_left' (Num.length_put x)] at hcut
          have hsm : Num.size x ≤ m := by omega
          generalize Num.size x = s at *
          have hsl := run_cut (P := Try.prog) 22 Try.underlying22 (fun _ => Try.sizeOf5 _) B m d s hsm
          have HD := Lib.hid hdr
          have HX := Lib.hid hx
          clear hlen hdr hx
          have e1 : decide ((s : Int) < 1) = false := by simp; omega
          have e2 : decide (m < s) = false := by simp; omega
          go_wp2_with fail
          refine HT.out.mono ?_
          rintro e w1 ⟨rfl, rfl⟩
          go_wp2_with fail
          exact ⟨⟨j + 1, by omega, by simp, _, _, _, rfl, by omega, hcut⟩, by simp [intOf]; omega⟩
        · have hl0 := hrb.len
          rw [length_cs, List.drop_of_length_le (by rw [HLEN.out]; omega)] at hl0
          obtain rfl : m = 0 := by simpa [forms] using hl0.symm
          clear hl0
          go_wp2_with fail
          refine (awake_true _).mono ?_
          rintro e w4 ⟨rfl, hb4⟩
          go_wp2_with fail
          go_ret
          exact ⟨rfl, bel_trans hbw hb4⟩

theorem numRows_walk (A : Option Addr) (n c : Nat) (vs : List Nat) (w : World) (hr : Rd w A n c (us vs)) (hlt : ∀ v ∈ vs, v < 2 ^ 64) :
    Calls Try.prog 7 #[.slice A n c] w fun e w' => e = .returned (.bool true) ∧ Below w.heap.size w w' := by
  by_cases hn : n ≤ 60
  · exact rows_near A n c vs w hn hr hlt
  · exact rows_far A n c w (by omega)

end Go.Proofs.Ytagcejdcmkihpaa
