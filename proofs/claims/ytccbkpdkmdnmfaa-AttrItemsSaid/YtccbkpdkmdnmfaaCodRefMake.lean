/-
  The document's Num and List.
-/
import Derived.Test.YtccbkpdkmdnmfaaCodKid
import Derived.Test.YtccbkpdkmdnmfaaCodMake
namespace Go.Proofs.Ytccbkpdkmdnmfaa
open Go.RowKit Mem Cod

theorem refnum_any (v : Int) (h0 : 0 ≤ v) (h1 : v ≤ 9223372036854775807) (w : World) : Calls Try.prog 40 #[.int .i64 v] w (Hands (.agg #[.int .i64 0, .int .u64 v, .string ByteArray.empty, .slice none 0 0]) w) := by
  have hu : IntKind.u64.wrap v = v := u64_in h0 (by omega)
  go_enter Try.func40, Try.ntmps40
  go_wp2_with fail
  exact bodyPost_ret (v := .agg #[.int .i64 0, .int .u64 v, .string ByteArray.empty, .slice none 0 0]) (by simp [results, Try.results40, go_sem]; rfl) rfl ⟨rfl, bel_alloc (Below.refl _ _) _⟩
theorem reflist_any (V : Option Addr) (n c : Nat) (w : World) : Calls Try.prog 39 #[.slice V n c] w (Hands (.agg #[.int .i64 2, .int .u64 0, .string ByteArray.empty, .slice V n c]) w) := by
  go_enter Try.func39, Try.ntmps39
  go_wp2_with fail
  exact bodyPost_ret (v := .agg #[.int .i64 2, .int .u64 0, .string ByteArray.empty, .slice V n c]) (by simp [results, Try.results39, go_sem]; rfl) rfl ⟨rfl, bel_alloc (Below.refl _ _) _⟩

end Go.Proofs.Ytccbkpdkmdnmfaa
