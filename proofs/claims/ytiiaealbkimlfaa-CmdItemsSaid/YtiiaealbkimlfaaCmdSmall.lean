/-
  cmd.called, outside, Writes, unnamed, covers; the document's Writes and Great: what they answer.
-/
import Derived.Test.YtiiaealbkimlfaaCmdPlain
import Derived.Test.YtiiaealbkimlfaaRunRefBeg
namespace Go.Proofs.Ytiiaealbkimlfaa
open Go.RowKit Mem Run Cmd

theorem called_any (kd cl sq : Int) (ky vl : ByteArray) (rv : Int) (w : World) :
    Calls Try.prog 22 #[.agg #[.int .i64 kd, .int .i64 cl, .int .i64 sq, .string ky, .string vl, .int .i64 rv]] w (Tells (client kd) w) := by
  go_enter Try.func22, Try.ntmps22
  go_wp2_with fail
  all_goals
    go_ret
    exact ⟨by simp_all [client], bel_alloc (Below.refl _ _) _⟩
theorem writes_any (kd cl sq : Int) (ky vl : ByteArray) (rv : Int) (w : World) :
    Calls Try.prog 11 #[.agg #[.int .i64 kd, .int .i64 cl, .int .i64 sq, .string ky, .string vl, .int .i64 rv]] w (Tells (writes kd) w) := by
  go_enter Try.func11, Try.ntmps11
  go_wp2_with fail
  all_goals
    go_ret
    exact ⟨by simp_all [writes], bel_alloc (Below.refl _ _) _⟩
theorem refwrites_any (kd cl sq : Int) (ky vl : ByteArray) (rv : Int) (w : World) :
    Calls Try.prog 12 #[.agg #[.int .i64 kd, .int .i64 cl, .int .i64 sq, .string ky, .string vl, .int .i64 rv]] w (Tells (writes kd) w) := by
  go_enter Try.func12, Try.ntmps12
  go_wp2_with fail
  all_goals
    go_ret
    exact ⟨by simp_all [writes], bel_alloc (Below.refl _ _) _⟩
theorem great_any (kd cl sq : Int) (ky vl : ByteArray) (rv : Int) (w : World) :
    Calls Try.prog 7 #[.agg #[.int .i64 kd, .int .i64 cl, .int .i64 sq, .string ky, .string vl, .int .i64 rv]] w (Tells (great ⟨kd, cl, sq, ky, vl, rv⟩) w) := by
  go_enter Try.func7, Try.ntmps7
  go_wp2_with fail
  all_goals
    go_ret
    exact ⟨by simp_all [great], bel_alloc (Below.refl _ _) _⟩
theorem outside_any (v m : Int) (w : World) : Calls Try.prog 23 #[.int .i64 v, .int .i64 m] w fun e w' => e = .returned (.bool (out v m)) ∧ w = w' := by
  go_enter Try.func23, Try.ntmps23
  go_wp2_with fail
  all_goals
    go_ret
    exact ⟨by simp_all [out], rfl⟩
end Go.Proofs.Ytiiaealbkimlfaa
