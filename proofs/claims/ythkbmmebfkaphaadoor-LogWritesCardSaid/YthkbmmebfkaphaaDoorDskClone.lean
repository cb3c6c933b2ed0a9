/-
  Texts of earlier layers, as one.
-/
import Derived.Test.YthkbmmebfkaphaaDoorShelf
import Derived.Test.YthkbmmebfkaphaaDoorDskOwn
import Derived.Test.YthkbmmebfkaphaaDoorDskLow
import Derived.Test.YthkbmmebfkaphaaDoorRBase
import Derived.Lib.SliceRun
/- The library's Clone of a text, and of bytes. -/
namespace Go.Proofs.YthkbmmebfkaphaaDoor.Dsk
open Go.RowKit Mem

set_option maxHeartbeats 4000000 in
theorem sclone_any (s : ByteArray) (w : World) (hs : s.size ≤ 281474976710656) : Calls Tryd.prog 23 #[.string s] w (fun e w' => e = .returned (.string s) ∧ Below w.heap.size w w') := by
  have HC := Lib.hid (Tryd.stringslite_Clone s w hs)
  go_enter Tryd.func23, Tryd.ntmps23
  go_wp2_with fail
  refine HC.out.mono ?_
  rintro e u ⟨rfl, hb⟩
  have HB := Lib.hid hb
  clear hb
  go_wp2_with fail
  go_ret
  exact ⟨rfl, HB.out⟩
set_option maxRecDepth 20000 in
set_option maxHeartbeats 4000000 in
theorem bclone_any (A : Option Addr) (n c : Nat) (bs : List Nat) (w : World) (hr : Rd w A n c (cs bs)) (hn : n ≤ 1099511627776) :
    Calls Tryd.prog 30 #[.slice A n c] w (fun e w' => ∃ A' c', e = .returned (.slice A' n c') ∧ w'.ownsRow w.heap.size 5 1 (.slice A' n c') n (cs bs) ∧ Below w.heap.size w w') := by
  obtain ⟨i0, hi, hz0, hz1, hz2⟩ := info_parts info5
  have hnil := fun (u : World) (A : Option Addr) (n c : Nat) => Lib.run_eql_slice_nil (P := Tryd.prog) u 32 5 A n c 0 0 Tryd.underlying32
  cases A with
  | none =>
    have hc : c = 0 := hr.nil rfl
    have hn0 : n = 0 := by have := hr.le; omega
    subst hc
    subst hn0
    have hbs : cs bs = [] := List.eq_nil_of_length_eq_zero hr.len
    rw [hbs]
    clear hr hn
    go_enter Tryd.func30, Tryd.ntmps30
    go_wp2_with fail
    go_ret
    exact ⟨none, 0, rfl, World.ownsRow_nil _ _ _ _, Below.refl _ _⟩
  | some ad =>
    have HR := Lib.hid (show Rd (w.alloc (.cells #[] 5)) (some ad) n c (cs bs) from hr.alloc _)
    have HO := Lib.hid (show (w.alloc (.cells #[] 5)).ownsRow w.heap.size 5 1 (.slice (some ⟨w.heap.size, 0, none⟩) 0 0) 0 [] from ⟨rfl, .inr ⟨w.heap.size, 0, #[], rfl, Nat.le_refl _, heap_alloc_new w _, Nat.le_refl _, by unfold maxLen; omega, rfl, rfl⟩⟩)
    have HW := Lib.hid (bel_alloc (Below.refl w.heap.size w) (.cells #[] 5))
    clear hr
    go_enter Tryd.func30, Tryd.ntmps30
    go_wp2_with (first
      | (at_builtin; refine wpList_append_rd rfl (.tmp 5) (.tmp 6) 32 rfl w.heap.size 5 i0 _ 1 Tryd.underlying32 hi hz0 hz1 hz2 rfl (some ⟨w.heap.size, 0, none⟩) 0 0 [] (by rfl) HO.out (some ad) n c (cs bs) (by rfl) HR.out (cs_one _) (by unfold maxLen; omega) (by omega) HW.out.size ?_; intro V' c' w' hown hb)
      | fail)
    have HO2 := Lib.hid hown
    have HB2 := Lib.hid hb
    clear hown hb
    go_wp2_with fail
    go_ret
    have h := HO2.out
    rw [List.nil_append, Nat.zero_add] at h
    exact ⟨V', c', by simp, h, HW.out.trans HB2.out⟩
end Go.Proofs.YthkbmmebfkaphaaDoor.Dsk
