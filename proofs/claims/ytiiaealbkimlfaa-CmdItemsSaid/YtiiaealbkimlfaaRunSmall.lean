/-
  runes.alone, Count, Beginning, Key, Begins: what they answer, in words of the text's pieces; what was there stays.
-/
import Derived.Test.YtiiaealbkimlfaaShelf
import Derived.Test.YtiiaealbkimlfaaRunDec
import Derived.WalkKit
import Derived.WalkLawsBesides
import Derived.Lib.OthersKept
namespace Go.Proofs.Ytiiaealbkimlfaa
open Go.RowKit Mem Run

theorem prefix_tell (s p : ByteArray) : Lib.hasPrefix s.data.toList p.data.toList = decide (bts p <+: bts s) := by
  rw [Bool.eq_iff_iff]
  simp only [Lib.hasPrefix, decide_eq_true_eq, List.isPrefixOf_iff_prefix]
  constructor
  · rintro ⟨t, ht⟩
    exact ⟨t.map (·.toNat), by simp only [bts, ← ht, List.map_append]⟩
  · rintro ⟨t, ht⟩
    have h1 : (bts s).take p.size = bts p := by rw [← ht, ← length_bts]; exact List.take_left
    have h2 : bts (s.extract 0 p.size) = bts p := by rw [bts_extract, List.drop_zero, Nat.sub_zero, h1]
    have h3 := bts_inj h2
    rw [← h3, Lib.extract_data, List.drop_zero]
    exact List.take_prefix _ _
theorem has_any (s p : ByteArray) (w : World) : Calls Try.prog 43 #[.string s, .string p] w fun e w' => e = .returned (.bool (decide (bts p <+: bts s))) ∧ w = w' := by
  refine (Try.strings_HasPrefix s p w).mono ?_
  rintro e w' ⟨rfl, rfl⟩
  exact ⟨by rw [prefix_tell], rfl⟩

theorem ret_int {k : IntKind} {a b : Int} (h : a = b) : Ending.returned (.int k a) = .returned (.int k b) := by rw [h]
theorem ret_bool {a b : Bool} (h : a = b) : Ending.returned (.bool a) = .returned (.bool b) := by rw [h]

/-- The bytes of the rune fffd. -/
def fffd (s : ByteArray) : Bool := decide ([239, 191, 189] <+: bts s)
theorem alone_any (r : Int) (s : ByteArray) (w : World) : Calls Try.prog 38 #[.int .i32 r, .string s] w fun e w' => e = .returned (.bool (r == 65533 && !fffd s)) ∧ w = w' := by
  have hx : Calls Try.prog 43 #[.string s, .string ⟨#[239, 191, 189]⟩] w fun e w' => e = .returned (.bool (fffd s)) ∧ w = w' := has_any s ⟨#[239, 191, 189]⟩ w
  have HX := Lib.hid hx
  clear hx
  by_cases h : r = 65533
  · subst h
    go_enter Try.func38, Try.ntmps38
    go_wp2_with (go_at_call 43; refine HX.out.mono ?_; rintro e w' ⟨rfl, rfl⟩)
    go_ret
    exact ⟨rfl, rfl⟩
  · have hb : (r == 65533) = false := by simpa using h
    go_enter Try.func38, Try.ntmps38
    go_wp2_with (go_at_call 43; refine HX.out.mono ?_; rintro e w' ⟨rfl, rfl⟩)
    go_ret
    exact ⟨ret_bool (by rw [hb]; rfl), rfl⟩
theorem alone_first {s : ByteArray} {i : Nat} (h : i < s.size) : ((((first ((bts s).drop i)).num : Nat) : Int) == 65533 && !fffd (s.extract i s.size)) = (first ((bts s).drop i)).alone := by
  rw [alone_tell (drop_ne h), fffd, bts_tail]
  congr 1
  rw [Bool.eq_iff_iff]
  simp
  omega

theorem below_iter (w : World) (s : ByteArray) (pos : Nat) : Below w.heap.size w (w.iter s pos) := (Below.refl _ w).alloc (Nat.le_refl _) _
theorem next_any {w : World} {s : ByteArray} {pos r k : Nat} (h : pos < s.size) (hr : (first ((bts s).drop pos)).num = r) (hk : (first ((bts s).drop pos)).bytes.length = k) (ty : TypeId) :
    (Instr.next (.pointer (some ⟨w.heap.size, 0, none⟩)) true ty).run Try.prog (w.iter s pos) = .ok (.tuple #[.bool true, .int .i64 pos, .int .i32 r]) (w.iter s (pos + k)) := by
  rw [run_next_any w s pos ty h, decode_first, hr, hk]

/-- Beginning. -/
def begRet (b : Bool) : Int := if b then 0 else 11
theorem fine_first {p : Pc} : p.fine = (!decide (p.num < 32) && !decide (p.num = 127) && !p.alone) := by
  cases p with
  | lone b => simp [Pc.fine, Pc.alone]
  | rune c =>
    show _ = ((!decide (c < 32) && !decide (c = 127)) && !false)
    rw [Bool.not_false, Bool.and_true]
    rfl
theorem begin_any (s : ByteArray) (w : World) :
    Calls Try.prog 24 #[.string s] w fun e w' => e = .returned (.int .i64 (begRet (beg (bts s)))) ∧ Below w.heap.size w w' := by
  go_enter Try.func24, Try.ntmps24
  go_wp2
  go_loopw [3] (fun n w' => ∃ (pos k : Nat), w' = w.iter s pos ∧ n = .int .i64 k ∧ beg (bts s) = (decide (k + (rest s pos).length ≤ 32) && (rest s pos).all Pc.fine) ∧ k ≤ 32 ∧ pos ≤ s.size) (fun _ w' => s.size - w'.iterPos w.heap.size)
  case atStart => exact ⟨0, 0, rfl, rfl, by rw [rest_zero, Nat.zero_add]; rfl, by omega, Nat.zero_le _⟩
  case round =>
    obtain ⟨pos, k, rfl, rfl, hc, hkp, hps⟩ := hrel
    by_cases hp : pos < s.size
    · obtain ⟨r, hr⟩ : ∃ r, (first ((bts s).drop pos)).num = r := ⟨_, rfl⟩
      obtain ⟨m, hm⟩ : ∃ m, (first ((bts s).drop pos)).bytes.length = m := ⟨_, rfl⟩
      obtain ⟨al, hal⟩ : ∃ al, (first ((bts s).drop pos)).alone = al := ⟨_, rfl⟩
      have hnx := fun ty => next_any (w := w) hp hr hm ty
      have hm1 := bytes_len (first ((bts s).drop pos))
      have hle := rest_le hp
      have hrm := rest_more hp
      have hfi := fine_first (p := first ((bts s).drop pos))
      have hcall := alone_any (r : Int) (s.extract pos s.size) (w.iter s (pos + m))
      have hfir := alone_first hp
      rw [hr, hal] at hfir
      rw [hfir] at hcall
      rw [hm] at hm1 hle hrm
      rw [hr, hal] at hfi
      rw [hrm, List.all_cons, hfi, List.length_cons] at hc
      have HH := Lib.hid hc
      have HC := Lib.hid hcall
      clear hc hrm hr hm hfi hfir hcall hal
      by_cases h1 : k + 1 ≤ 32
      · have b1 : decide ((k : Int) + 1 > 32) = false := by simp; omega
        by_cases h2 : r < 32
        · have b2 : decide ((r : Int) < 32) = true := by simp; omega
          have hfin : begRet (beg (bts s)) = 11 := by rw [HH.out]; simp [h2, begRet]
          have HF := Lib.hid hfin
          clear hfin
          go_wp2_with (go_at_call 38; refine HC.out.mono ?_; rintro e w' ⟨rfl, rfl⟩)
          go_ret
          exact ⟨ret_int HF.out.symm, below_iter _ _ _⟩
        · have b2 : decide ((r : Int) < 32) = false := by simp; omega
          by_cases h3 : r = 127
          · have b3 : ((r : Int) == 127) = true := by simp; omega
            have hfin : begRet (beg (bts s)) = 11 := by rw [HH.out]; simp [h3, begRet]
            have HF := Lib.hid hfin
            clear hfin h3
            go_wp2_with (go_at_call 38; refine HC.out.mono ?_; rintro e w' ⟨rfl, rfl⟩)
            go_ret
            exact ⟨ret_int HF.out.symm, below_iter _ _ _⟩
          · have b3 : ((r : Int) == 127) = false := by simp; omega
            cases al with
            | true =>
              have hfin : begRet (beg (bts s)) = 11 := by rw [HH.out]; simp [begRet]
              have HF := Lib.hid hfin
              clear hfin
              go_wp2_with (go_at_call 38; refine HC.out.mono ?_; rintro e w' ⟨rfl, rfl⟩)
              go_ret
              exact ⟨ret_int HF.out.symm, below_iter _ _ _⟩
            | false =>
              go_wp2_with (go_at_call 38; refine HC.out.mono ?_; rintro e w' ⟨rfl, rfl⟩)
              go_roundw
              case rel =>
                refine ⟨pos + m, k + 1, rfl, by simp, ?_, by omega, by omega⟩
                have e : k + ((rest s (pos + m)).length + 1) = k + 1 + (rest s (pos + m)).length := by omega
                rw [HH.out, e]
                simp [h2, h3]
              case measure =>
                simp
                omega
      · have b1 : decide ((k : Int) + 1 > 32) = true := by simp; omega
        have hfin : begRet (beg (bts s)) = 11 := by
          rw [HH.out]
          have : ¬ (k + ((rest s (pos + m)).length + 1) ≤ 32) := by omega
          simp [this, begRet]
        have HF := Lib.hid hfin
        clear hfin
        go_wp2_with (go_at_call 38; refine HC.out.mono ?_; rintro e w' ⟨rfl, rfl⟩)
        go_ret
        exact ⟨ret_int HF.out.symm, below_iter _ _ _⟩
    · have hnx : ∀ ty, (Instr.next (.pointer (some ⟨w.heap.size, 0, none⟩)) true ty).run Try.prog (w.iter s pos) = _ := fun ty => run_next_end w s pos ty hp
      rw [rest_end hp] at hc
      have hfin : begRet (beg (bts s)) = 0 := by rw [hc]; simp [begRet, hkp]
      have HF := Lib.hid hfin
      clear hc hfin
      go_wp2
      go_ret
      exact ⟨ret_int HF.out.symm, below_iter _ _ _⟩

/-- Key. -/
def key (l : List Nat) : Bool := !l.isEmpty && beg l
theorem empty_tell (s : ByteArray) : s.toList.isEmpty = (bts s).isEmpty := by
  rw [Lib.toList_data, bts]
  cases s.data.toList <;> rfl
theorem key_any (s : ByteArray) (w : World) : Calls Try.prog 25 #[.string s] w fun e w' => e = .returned (.int .i64 (begRet (key (bts s)))) ∧ Below w.heap.size w w' := by
  have hb := begin_any s w
  have HB := Lib.hid hb
  clear hb
  cases h : s.toList.isEmpty with
  | true =>
    have hk : begRet (key (bts s)) = 11 := by
      rw [empty_tell] at h
      simp [key, h, begRet]
    have HK := Lib.hid hk
    clear hk
    go_enter Try.func25, Try.ntmps25
    go_wp2
    go_ret
    exact ⟨ret_int HK.out.symm, Below.refl _ _⟩
  | false =>
    have hk : begRet (key (bts s)) = begRet (beg (bts s)) := by
      rw [empty_tell] at h
      simp [key, h]
    rw [hk]
    clear hk
    go_enter Try.func25, Try.ntmps25
    go_wp2_with (go_at_call 24; refine HB.out.mono ?_; rintro e w' ⟨rfl, hw⟩)
    go_ret
    exact ⟨rfl, hw⟩

/-- Begins. -/
theorem begins_any (s t : ByteArray) (w : World) : Calls Try.prog 40 #[.string s, .string t] w fun e w' => e = .returned (.bool (decide (bts t <+: bts s))) ∧ w = w' := by
  have hb := has_any s t w
  have HB := Lib.hid hb
  clear hb
  go_enter Try.func40, Try.ntmps40
  go_wp2_with (go_at_call 43; refine HB.out.mono ?_; rintro e w' ⟨rfl, rfl⟩)
  go_ret
  exact ⟨rfl, rfl⟩
end Go.Proofs.Ytiiaealbkimlfaa
