/-
  A text's byte, and what else the document's runes need; of no function of runes alone.
-/
import Derived.Test.YtiiaealbkimlfaaRunSmall
namespace Go.Proofs.Ytiiaealbkimlfaa
open Go.RowKit Mem Run

/-- A text's byte. -/
theorem byte_at (s : ByteArray) (k : IntKind) (i : Nat) {b : Nat} (h : i < s.size) (hb : (bts s).getD i 0 = b) (w : World) : (Instr.index 9 (.string s) (.int k (i : Int))).run Try.prog w = .ok (.int .u8 (b : Int)) w := by
  rw [run_index_string w 9 _ k (i : Int) Try.underlying9, dif_pos (by omega), at_bts]
  rw [Int.toNat_natCast, hb]

theorem u8_ofNat (b : Nat) (h : b < 256) : IntKind.u8.wrap (b : Int) = (b : Int) := by rw [IntKind.wrap_u8]; omega

theorem own_len {w : World} {base : Nat} {v : Value} {n : Nat} {bs : List Nat} (h : w.ownsRow base 5 1 v n (cs bs)) : bs.length = n := by
  have := h.1
  rwa [length_cs, Nat.mul_one] at this

end Go.Proofs.Ytiiaealbkimlfaa
