/-
  attr.held, number and parts: what an item has as a value of which the type tells what it is; a number, or the parts of a list.
-/
import Derived.Test.YtccbkpdkmdnmfaaAttItem
import Derived.KernelRfl
import Derived.WideLaws
namespace Go.Proofs.Ytccbkpdkmdnmfaa
open Go.RowKit Mem Ids Att Cod

theorem as_num_num (v : Value) (w : World) : (Instr.typeAssert (.iface 34 v) 20 34 true).run Try.prog w = .ok (.tuple #[v, .bool true]) w := by kernel_rfl
theorem as_list_num (v : Value) (w : World) : (Instr.typeAssert (.iface 35 v) 20 34 true).run Try.prog w = .ok (.tuple #[.int .u64 0, .bool false]) w := by kernel_rfl
theorem as_nil_num (w : World) : (Instr.typeAssert .nilIface 20 34 true).run Try.prog w = .ok (.tuple #[.int .u64 0, .bool false]) w := by kernel_rfl
theorem as_list_list (v : Value) (w : World) : (Instr.typeAssert (.iface 35 v) 20 35 true).run Try.prog w = .ok (.tuple #[v, .bool true]) w := by kernel_rfl
theorem as_num_list (v : Value) (w : World) : (Instr.typeAssert (.iface 34 v) 20 35 true).run Try.prog w = .ok (.tuple #[.slice none 0 0, .bool false]) w := by kernel_rfl
theorem as_nil_list (w : World) : (Instr.typeAssert .nilIface 20 35 true).run Try.prog w = .ok (.tuple #[.slice none 0 0, .bool false]) w := by kernel_rfl

theorem held_num (nm : Int) (A : Option Addr) (c : Nat) (w : World) :
    Calls Try.prog 55 #[.agg #[.int .i64 0, .int .u64 nm, .string ⟨#[]⟩, .slice A 0 c]] w (Hands (.iface 34 (.int .u64 nm)) w) := by
  go_enter Try.func55, Try.ntmps55
  go_wp2_with fail
  go_ret
  exact ⟨rfl, bel_alloc (Below.refl _ _) _⟩
theorem held_list (A : Option Addr) (m c : Nat) (w : World) :
    Calls Try.prog 55 #[.agg #[.int .i64 2, .int .u64 0, .string ⟨#[]⟩, .slice A m c]] w (Hands (.iface 35 (.slice A m c)) w) := by
  go_enter Try.func55, Try.ntmps55
  go_wp2_with fail
  go_ret
  exact ⟨rfl, bel_alloc (Below.refl _ _) _⟩
theorem not_empty {s : ByteArray} (h : ¬ s = ByteArray.empty) : ¬ s.toList = [] := fun e => by
  apply h
  have := (toList_nil s).1 e
  apply ByteArray.ext
  exact Array.eq_empty_of_size_eq_zero this
set_option maxHeartbeats 1000000 in
theorem held_nil (kd nm : Int) (st : ByteArray) (A : Option Addr) (m c : Nat) (w : World) (h1 : ¬ (kd = 0 ∧ st = ByteArray.empty ∧ m = 0)) (h2 : ¬ (kd = 2 ∧ nm = 0 ∧ st = ByteArray.empty)) :
    Calls Try.prog 55 #[.agg #[.int .i64 kd, .int .u64 nm, .string st, .slice A m c]] w (Hands .nilIface w) := by
  by_cases k0 : kd = 0
  · subst k0
    by_cases s0 : st = ByteArray.empty
    · subst s0
      have b1 : ((m : Int) == 0) = false := beq_false_of_ne fun h => h1 ⟨rfl, rfl, by omega⟩
      clear h1 h2
      go_enter Try.func55, Try.ntmps55
      go_wp2_with fail
      go_ret
      exact ⟨rfl, bel_alloc (Below.refl _ _) _⟩
    · have b1 := not_empty s0
      have b2 : st.toList.isEmpty = false := by simpa using b1
      clear h1 h2 s0
      go_enter Try.func55, Try.ntmps55
      go_wp2_with fail
      go_ret
      exact ⟨rfl, bel_alloc (Below.refl _ _) _⟩
  · have b0 : (kd == 0) = false := beq_false_of_ne k0
    by_cases k2 : kd = 2
    · subst k2
      by_cases n0 : nm = 0
      · subst n0
        have s0 : ¬ st = ByteArray.empty := fun h => h2 ⟨rfl, rfl, h⟩
        have b1 := not_empty s0
        have b2 : st.toList.isEmpty = false := by simpa using b1
        clear h1 h2 s0 k0 b0
        go_enter Try.func55, Try.ntmps55
        go_wp2_with fail
        go_ret
        exact ⟨rfl, bel_alloc (Below.refl _ _) _⟩
      · have b1 : (nm == 0) = false := beq_false_of_ne n0
        clear h1 h2 n0 k0 b0
        go_enter Try.func55, Try.ntmps55
        go_wp2_with fail
        go_ret
        exact ⟨rfl, bel_alloc (Below.refl _ _) _⟩
    · have b1 : (kd == 2) = false := beq_false_of_ne k2
      clear h1 h2 k0 k2
      go_enter Try.func55, Try.ntmps55
      go_wp2_with fail
      go_ret
      exact ⟨rfl, bel_alloc (Below.refl _ _) _⟩

/-- The ending: a number, and whether it is one. -/
def Numbers (v : Int) (b : Bool) (w : World) (e : Ending) (w' : World) : Prop := e = .returned (.tuple #[.int .i64 v, .bool b]) ∧ Below w.heap.size w w'
theorem number_yes (nm : Nat) (A : Option Addr) (c : Nat) (w : World) :
    Calls Try.prog 37 #[.agg #[.int .i64 0, .int .u64 (nm : Int), .string ⟨#[]⟩, .slice A 0 c]] w (Numbers (w64 nm) true w) := by
  obtain ⟨R, hR⟩ : ∃ R : Int, w64 nm = R := ⟨_, rfl⟩
  rw [hR]
  unfold w64 at hR
  have H1 := Lib.hid (fun w => held_num (nm : Int) A c w)
  have a1 := as_num_num
  have HB := Lib.hid (bel_alloc (Below.refl w.heap.size w) (.cells #[.int .i64 0, .int .u64 (nm : Int), .string ⟨#[]⟩, .slice A 0 c] 37))
  go_enter Try.func37, Try.ntmps37
  go_wp2_with fail
  refine (H1.out _).mono ?_
  rintro e w1 ⟨rfl, hb1⟩
  have HB1 := Lib.hid (bel_trans HB.out hb1)
  clear hb1
  go_wp2_with fail
  go_ret2
  exact ⟨rfl, HB1.out⟩
set_option maxHeartbeats 1000000 in
theorem number_no (kd nm : Int) (st : ByteArray) (A : Option Addr) (m c : Nat) (w : World) (h1 : ¬ (kd = 0 ∧ st = ByteArray.empty ∧ m = 0)) :
    Calls Try.prog 37 #[.agg #[.int .i64 kd, .int .u64 nm, .string st, .slice A m c]] w (Numbers 0 false w) := by
  have HB := Lib.hid (bel_alloc (Below.refl w.heap.size w) (.cells #[.int .i64 kd, .int .u64 nm, .string st, .slice A m c] 37))
  have hz : IntKind.i64.wrap 0 = 0 := rfl
  by_cases h2 : kd = 2 ∧ nm = 0 ∧ st = ByteArray.empty
  · obtain ⟨rfl, rfl, rfl⟩ := h2
    have H1 := Lib.hid (fun w => held_list A m c w)
    have a1 := as_list_num
    clear h1
    go_enter Try.func37, Try.ntmps37
    go_wp2_with fail
    refine (H1.out _).mono ?_
    rintro e w1 ⟨rfl, hb1⟩
    have HB1 := Lib.hid (bel_trans HB.out hb1)
    clear hb1
    go_wp2_with fail
    go_ret2
    exact ⟨rfl, HB1.out⟩
  · have H1 := Lib.hid (fun w => held_nil kd nm st A m c w h1 h2)
    have a1 := as_nil_num
    clear h1 h2
    go_enter Try.func37, Try.ntmps37
    go_wp2_with fail
    refine (H1.out _).mono ?_
    rintro e w1 ⟨rfl, hb1⟩
    have HB1 := Lib.hid (bel_trans HB.out hb1)
    clear hb1
    go_wp2_with fail
    go_ret2
    exact ⟨rfl, HB1.out⟩

/-- What is read of an item as a number. -/
def numOf (x : It) : Int := if isNum x = true then w64 x.num else 0
theorem number_any (x : It) (A : Option Addr) (c : Nat) (w : World) :
    Calls Try.prog 37 #[.agg #[.int .i64 x.kind, .int .u64 (x.num : Int), .string x.str, .slice A x.kids.length c]] w (Numbers (numOf x) (isNum x) w) := by
  cases h : isNum x with
  | true =>
    obtain ⟨h1, h2, h3⟩ := of_decide_eq_true h
    rw [numOf, if_pos h, h1, h2, h3]
    exact number_yes x.num A c w
  | false =>
    rw [numOf, if_neg (by simp [h])]
    exact number_no x.kind x.num x.str A x.kids.length c w (of_decide_eq_false h)
/-- The ending: a list, and whether it is one of so many. -/
def Parts (v : Value) (b : Bool) (w : World) (e : Ending) (w' : World) : Prop := e = .returned (.tuple #[v, .bool b]) ∧ Below w.heap.size w w'
theorem parts_list (A : Option Addr) (m c : Nat) (k : Nat) (w : World) :
    Calls Try.prog 36 #[.agg #[.int .i64 2, .int .u64 0, .string ⟨#[]⟩, .slice A m c], .int .i64 (k : Int)] w (Parts (.slice A m c) (decide (m = k)) w) := by
  have hd : ((m : Int) == (k : Int)) = decide (m = k) := by
    rw [Bool.eq_iff_iff]
    simp only [beq_iff_eq, decide_eq_true_eq]
    omega
  have H1 := Lib.hid (fun w => held_list A m c w)
  have a1 := as_list_list
  have HB := Lib.hid (bel_alloc (Below.refl w.heap.size w) (.cells #[.int .i64 2, .int .u64 0, .string ⟨#[]⟩, .slice A m c] 37))
  generalize decide (m = k) = r at hd ⊢
  go_enter Try.func36, Try.ntmps36
  go_wp2_with fail
  refine (H1.out _).mono ?_
  rintro e w1 ⟨rfl, hb1⟩
  have HB1 := Lib.hid (bel_trans HB.out hb1)
  clear hb1
  go_wp2_with fail
  go_ret2
  exact ⟨rfl, HB1.out⟩
set_option maxHeartbeats 1000000 in
theorem parts_no (kd nm : Int) (st : ByteArray) (A : Option Addr) (m c : Nat) (k : Int) (w : World) (h2 : ¬ (kd = 2 ∧ nm = 0 ∧ st = ByteArray.empty)) :
    Calls Try.prog 36 #[.agg #[.int .i64 kd, .int .u64 nm, .string st, .slice A m c], .int .i64 k] w (Parts (.slice none 0 0) false w) := by
  have HB := Lib.hid (bel_alloc (Below.refl w.heap.size w) (.cells #[.int .i64 kd, .int .u64 nm, .string st, .slice A m c] 37))
  by_cases h1 : kd = 0 ∧ st = ByteArray.empty ∧ m = 0
  · obtain ⟨rfl, rfl, rfl⟩ := h1
    have H1 := Lib.hid (fun w => held_num nm A c w)
    have a1 := as_num_list
    clear h2
    go_enter Try.func36, Try.ntmps36
    go_wp2_with fail
    refine (H1.out _).mono ?_
    rintro e w1 ⟨rfl, hb1⟩
    have HB1 := Lib.hid (bel_trans HB.out hb1)
    clear hb1
    go_wp2_with fail
    go_ret2
    exact ⟨rfl, HB1.out⟩
  · have H1 := Lib.hid (fun w => held_nil kd nm st A m c w h1 h2)
    have a1 := as_nil_list
    clear h1 h2
    go_enter Try.func36, Try.ntmps36
    go_wp2_with fail
    refine (H1.out _).mono ?_
    rintro e w1 ⟨rfl, hb1⟩
    have HB1 := Lib.hid (bel_trans HB.out hb1)
    clear hb1
    go_wp2_with fail
    go_ret2
    exact ⟨rfl, HB1.out⟩
end Go.Proofs.Ytccbkpdkmdnmfaa
