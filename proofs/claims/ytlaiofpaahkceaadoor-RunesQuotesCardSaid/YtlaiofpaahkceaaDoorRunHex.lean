/-
  strconv.AppendUint to the base 16, onto bytes of the call's own: the digits go in behind them.
-/
import Derived.Test.YtlaiofpaahkceaaDoorRunMem
namespace Go.Proofs.YtlaiofpaahkceaaDoor
open Go.RowKit Mem Run

def digits : ByteArray := ⟨#[48, 49, 50, 51, 52, 53, 54, 55, 56, 57, 97, 98, 99, 100, 101, 102, 103, 104, 105, 106, 107, 108, 109, 110, 111, 112, 113, 114, 115, 116, 117, 118, 119, 120, 121, 122]⟩
theorem dig_tab : ∀ d : Fin 16, (bts digits).getD d.val 0 = dg d.val := by decide
theorem dig_at (k : IntKind) {d : Nat} (h : d < 16) (w : World) : (Instr.index 9 (.string ⟨#[48, 49, 50, 51, 52, 53, 54, 55, 56, 57, 97, 98, 99, 100, 101, 102, 103, 104, 105, 106, 107, 108, 109, 110, 111, 112, 113, 114, 115, 116, 117, 118, 119, 120, 121, 122]⟩) (.int k (d : Int))).run Tryd.prog w = .ok (.int .u8 (dg d : Int)) w := by
  have hs : (⟨#[48, 49, 50, 51, 52, 53, 54, 55, 56, 57, 97, 98, 99, 100, 101, 102, 103, 104, 105, 106, 107, 108, 109, 110, 111, 112, 113, 114, 115, 116, 117, 118, 119, 120, 121, 122]⟩ : ByteArray).size = 36 := rfl
  rw [run_index_string w 9 _ k (d : Int) Tryd.underlying9, dif_pos (by rw [hs]; omega), at_bts]
  have := dig_tab ⟨d, h⟩
  rw [Int.toNat_natCast]
  exact congrArg (fun x : Nat => Result.ok (Value.int .u8 (x : Int)) w) this

theorem pow_any (w : World) : Calls Tryd.prog 52 #[.int .i64 16] w fun e w' => e = .returned (.bool true) ∧ w = w' := by
  have hp : bits .and .i64 16 15 = 0 := by decide
  go_enter Tryd.func52, Tryd.ntmps52
  go_wp2
  go_ret
  exact ⟨rfl, rfl⟩
theorem trail64_any (w : World) (hT : Tab w) : Calls Tryd.prog 62 #[.int .u64 16] w fun e w' => e = .returned (.int .i64 4) ∧ w = w' := by
  have hp : bits .and .u64 16 (IntKind.u64.wrap (-16)) = 16 := by decide
  have hq : IntKind.u64.wrap 4573923408821661840 = 4573923408821661840 := by decide
  unfold Tab at hT
  go_enter Tryd.func62, Tryd.ntmps62
  go_wp2
  go_ret
  exact ⟨rfl, rfl⟩
theorem trail_any (w : World) (hT : Tab w) : Calls Tryd.prog 53 #[.int .u64 16] w fun e w' => e = .returned (.int .i64 4) ∧ w = w' := by
  have h := trail64_any w hT
  have H := Lib.hid h
  clear h
  go_enter Tryd.func53, Tryd.ntmps53
  go_wp2_with (go_at_call 62; refine H.out.mono ?_; rintro e w' ⟨rfl, rfl⟩)
  go_ret
  exact ⟨rfl, rfl⟩

theorem and15 (x : Nat) (h : x < 4294967296) : bits .and .u64 (x : Int) 15 = ((x % 16 : Nat) : Int) := by
  have := bits_and_u64_nat x 15 (by omega) (by omega)
  rw [show ((15 : Nat) : Int) = 15 from rfl] at this
  rw [this]
  have e := Nat.and_two_pow_sub_one_eq_mod x 4
  rw [show 2 ^ 4 - 1 = 15 from rfl, show 2 ^ 4 = 16 from rfl] at e
  rw [e]
theorem drop_put (vs : Array Value) (j d : Nat) (suf : List Nat) (hj : j < vs.size) (h : vs.toList.drop (j + 1) = cs suf) : (vs.setIfInBounds j (.int .u8 (d : Int))).toList.drop j = cs (d :: suf) := by
  rw [Array.toList_setIfInBounds, List.drop_set, if_neg (by omega), Nat.sub_self]
  have e : vs.toList.drop j = vs.toList[j]'(by simpa using hj) :: vs.toList.drop (j + 1) := List.drop_eq_getElem_cons (by simpa using hj)
  rw [e, List.set_cons_zero, h]
  rfl
theorem slice65 (g j : Nat) (hj : j < 65) (w : World) : (Instr.sliceAt 69 (.pointer (some ⟨g, 0, none⟩)) (some (.int .i64 (j : Int))) none none).run Tryd.prog w = .ok (.slice (some ⟨g, j, none⟩) (65 - j) (65 - j)) w := by
  have hs : (sizeOf (Tryd.prog.elem 69)).run Tryd.prog w = .ok 1 w := by kernel_rfl
  have ha : Tryd.prog.arrayLen 69 = 65 := by kernel_rfl
  rw [run_sliceAt_array_l w 69 ⟨g, 0, none⟩ (by kernel_rfl) .i64 (j : Int) (by omega) (by rw [ha]; omega), hs, ha]
  simp only [Result.andThen, slicedAt, Int.toNat_natCast, Nat.mul_one]
  rw [if_neg (by omega), Addr.add_lit, Nat.zero_add]
theorem Rd.tail65 {w : World} {g : Nat} {t : TypeId} {vs : Array Value} (h : Blk w g t vs) (hv : vs.size = 65) (j : Nat) (bs : List Nat) (hj : j < 65) (hd : vs.toList.drop j = cs bs) : Rd w (some ⟨g, j, none⟩) (65 - j) (65 - j) (cs bs) := by
  refine ⟨?_, Nat.le_refl _, by unfold maxLen; omega, (fun e => by cases e), fun _ => ⟨_, rfl, h.lt, fun k u hu => ?_⟩⟩
  · rw [← hd, List.length_drop, Array.length_toList, hv]
  · rw [Addr.add_lit, h.cell, ← Array.getElem?_toList]
    rw [← hd, List.getElem?_drop] at hu
    exact hu
def FmtRel (u : Nat) (w : World) (v1 v13 : Value) (wr : World) : Prop :=
  ∃ (x i : Nat) (suf : List Nat) (vs : Array Value), v1 = .int .u64 x ∧ v13 = .int .i64 i ∧ Blk wr w.heap.size 69 vs ∧ vs.size = 65 ∧ vs.toList.drop i = cs suf ∧ hexd u = hexd x ++ suf ∧ x < 4294967296 ∧ i + suf.length = 65 ∧ Below w.heap.size w wr

set_option maxHeartbeats 2000000 in
theorem format_any (u : Nat) (hu : u < 4294967296) (base n : Nat) (V : Option Addr) (c : Nat) (bs : List Nat) (w : World) (hown : w.ownsRow base 5 1 (.slice V n c) n (cs bs)) (hb : base ≤ w.heap.size) (hn : n ≤ 1099511627776) (hT : Tab w) :
    Calls Tryd.prog 41 #[.slice V n c, .int .u64 u, .int .i64 16, .bool false, .bool true] w fun e w' => ∃ V' c', e = .returned (.tuple #[.slice V' (n + (hexd u).length) c', .string ⟨#[]⟩]) ∧ w'.ownsRow base 5 1 (.slice V' (n + (hexd u).length) c') (n + (hexd u).length) (cs (bs ++ hexd u)) ∧ Kept base w w' := by
  have HO := Lib.hid hown
  have ht : ∀ o, Tab (w.alloc o) := fun o => (World.cell?_alloc_lt w o _ hT.lt).trans hT
  have HT := Lib.hid ht
  clear hown hT ht
  go_enter Tryd.func41, Tryd.ntmps41
  go_wp2_with (first
    | (go_at_call 52; refine (pow_any _).mono ?_; rintro e w' ⟨rfl, rfl⟩)
    | (go_at_call 53; refine (trail_any _ (HT.out _)).mono ?_; rintro e w' ⟨rfl, rfl⟩))
  go_loopw [1, 13] (FmtRel u w) (fun v _ _ => (intOf v).toNat)
  case atStart => exact ⟨u, 65, [], Tryd.zeroCells69, rfl, rfl, Blk.new _ _ _, rfl, rfl, by simp, hu, rfl, (Below.refl _ _).alloc (Nat.le_refl _) _⟩
  case round =>
    obtain ⟨x, i, suf, vs, rfl, rfl, hblk, hvs, hdr, hhex, hx, his, hbel⟩ := hrel
    have hl8 := hexd_len 7 u (by simpa using hu)
    have hlx := hexd_len 7 x (by simpa using hx)
    have hll := congrArg List.length hhex
    rw [List.length_append] at hll
    obtain ⟨j, rfl⟩ : ∃ j, i = j + 1 := ⟨i - 1, by omega⟩
    have hcell : wr.cell? ⟨w.heap.size, j, none⟩ = some (vs[j]'(by omega)) := by rw [hblk.cell]; exact Array.getElem?_eq_getElem (by omega)
    have hsoft := hblk.soft j
    by_cases hx16 : x < 16
    · have hge : decide ((x : Int) ≥ 16) = false := by simp; omega
      have hix := dig_at .u64 hx16
      have hx1 := hexd_low hx16
      have HH := Lib.hid (And.intro hdr (And.intro hhex hx1))
      clear hdr hhex hx1 hl8 hlx hll
      have hsl := slice65 w.heap.size j (by omega)
      have hbel2 := hbel.setCell (p := ⟨w.heap.size, j, none⟩) (Nat.le_refl _) (.int .u8 (dg x : Int))
      have hrd := Rd.tail65 (hblk.put j (.int .u8 (dg x : Int))) (by simpa using hvs) j (dg x :: suf) (by omega) (drop_put vs j _ suf (by omega) HH.out.1)
      have hown := ownsRow_below HO.out hbel2
      have HB := Lib.hid hbel2
      have HR := Lib.hid hrd
      have HW := Lib.hid hown
      have hsz := hbel2.size
      clear hbel2 hrd hown
      have h63 : n + (65 - j) ≤ 70368744177664 := by omega
      go_wp2_with (at_builtin; refine wpList_append_kept rfl (.tmp 95) (.tmp 97) rfl base V n c bs rfl HW.out _ (65 - j) (65 - j) (dg x :: suf) rfl HR.out h63 (by omega) ?_; intro V2 c2 w2 hown2 hk2)
      go_ret2
      have e : hexd u = dg x :: suf := by rw [HH.out.2.1, HH.out.2.2]; rfl
      have el : (hexd u).length = 65 - j := by rw [e, List.length_cons]; omega
      rw [el, e]
      exact ⟨V2, c2, rfl, hown2, (Kept.of_below HB.out hb).trans hk2⟩
    · obtain ⟨d, hd⟩ : ∃ d : Nat, x % 16 = d := ⟨_, rfl⟩
      obtain ⟨q, hq⟩ : ∃ q : Nat, x / 16 = q := ⟨_, rfl⟩
      have hand : bits .and .u64 (x : Int) 15 = (d : Int) := by
        rw [← hd]
        exact and15 x (by omega)
      have hdiv : (x : Int) / 16 = (q : Int) := by omega
      have hix := dig_at .u64 (d := d) (by omega)
      have hge : decide ((x : Int) ≥ 16) = true := by simp; omega
      have HH := Lib.hid (And.intro hdr (And.intro hhex (And.intro hd hq)))
      clear hdr hhex hd hq hl8 hlx hll
      go_wp2
      refine ⟨⟨q, j, dg d :: suf, _, rfl, rfl, hblk.put j _, by simpa using hvs, ?_, ?_, ?_, ?_, ?_⟩, ?_⟩
      · exact drop_put vs j _ suf (by omega) HH.out.1
      · rw [HH.out.2.1, hexd_more hx16, HH.out.2.2.1, HH.out.2.2.2, List.append_assoc]
        rfl
      · omega
      · simp only [List.length_cons]; omega
      · exact hbel.setCell (Nat.le_refl _) _
      · simp [intOf]; omega

theorem appendUint_in (u : Nat) (hu : u < 4294967296) (base n : Nat) (V : Option Addr) (c : Nat) (bs : List Nat) (w : World) (hown : w.ownsRow base 5 1 (.slice V n c) n (cs bs)) (hb : base ≤ w.heap.size) (hn : n ≤ 1099511627776) (hT : Tab w) :
    Calls Tryd.prog 33 #[.slice V n c, .int .u64 u, .int .i64 16] w fun e w' => ∃ V' c', e = .returned (.slice V' (n + (hexd u).length) c') ∧ w'.ownsRow base 5 1 (.slice V' (n + (hexd u).length) c') (n + (hexd u).length) (cs (bs ++ hexd u)) ∧ Kept base w w' := by
  have h := format_any u hu base n V c bs w hown hb hn hT
  have H := Lib.hid h
  clear h hown hT
  go_enter Tryd.func33, Tryd.ntmps33
  go_wp2_with (go_at_call 41; refine H.out.mono ?_; rintro e w' ⟨V', c', rfl, hown', hk'⟩)
  go_ret
  exact ⟨V', c', rfl, hown', hk'⟩
theorem appendUint_any (u : Nat) (hu : u < 4294967296) (base n : Nat) (V : Option Addr) (c : Nat) (bs : List Nat) (w : World) (hown : w.ownsRow base 5 1 (.slice V n c) n (cs bs)) (hb : base ≤ w.heap.size) (hn : n ≤ 1099511627776) (hT : Tab w) :
    Calls Tryd.prog 29 #[.slice V n c, .int .u64 u, .int .i64 16] w fun e w' => ∃ V' c', e = .returned (.slice V' (n + (hexd u).length) c') ∧ w'.ownsRow base 5 1 (.slice V' (n + (hexd u).length) c') (n + (hexd u).length) (cs (bs ++ hexd u)) ∧ Kept base w w' := by
  have h := appendUint_in u hu base n V c bs w hown hb hn hT
  have H := Lib.hid h
  clear h hown hT
  go_enter Tryd.func29, Tryd.ntmps29
  go_wp2_with (go_at_call 33; refine H.out.mono ?_; rintro e w' ⟨V', c', rfl, hown', hk'⟩)
  go_ret
  exact ⟨V', c', rfl, hown', hk'⟩
end Go.Proofs.YtlaiofpaahkceaaDoor
