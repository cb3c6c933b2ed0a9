/-
  What the program's type assertions come to, each a closed fact of the program.
-/
import Derived.Test.YthlhlhihllgfiaaProg
import Derived.KernelRfl
namespace Go.Proofs.Ythlhlhihllgfiaa

theorem as_num_num (v : Value) (w : World) : (Instr.typeAssert (.iface 75 v) 54 75 true).run Try.prog w = .ok (.tuple #[v, .bool true]) w := by kernel_rfl
theorem as_text_num (v : Value) (w : World) : (Instr.typeAssert (.iface 76 v) 54 75 true).run Try.prog w = .ok (.tuple #[.int .u64 0, .bool false]) w := by kernel_rfl
theorem as_list_num (v : Value) (w : World) : (Instr.typeAssert (.iface 78 v) 54 75 true).run Try.prog w = .ok (.tuple #[.int .u64 0, .bool false]) w := by kernel_rfl
theorem as_text_text (v : Value) (w : World) : (Instr.typeAssert (.iface 76 v) 54 76 true).run Try.prog w = .ok (.tuple #[v, .bool true]) w := by kernel_rfl
theorem as_list_text (v : Value) (w : World) : (Instr.typeAssert (.iface 78 v) 54 76 true).run Try.prog w = .ok (.tuple #[.string ⟨#[]⟩, .bool false]) w := by kernel_rfl
theorem as_list_list (v : Value) (w : World) : (Instr.typeAssert (.iface 78 v) 54 78 true).run Try.prog w = .ok (.tuple #[v, .bool true]) w := by kernel_rfl
theorem as_list (v : Value) (w : World) : (Instr.typeAssert (.iface 78 v) 54 78 false).run Try.prog w = .ok v w := by kernel_rfl
theorem as_fault (v : Value) (w : World) : (Instr.typeAssert (.iface 50 v) 20 50 false).run Try.prog w = .ok v w := by kernel_rfl

end Go.Proofs.Ythlhlhihllgfiaa
