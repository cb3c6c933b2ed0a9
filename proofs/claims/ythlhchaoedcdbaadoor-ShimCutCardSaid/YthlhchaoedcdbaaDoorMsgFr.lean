/-
  Texts of earlier layers, as one.
-/
import Derived.Test.YthlhchaoedcdbaaDoorRCodP
import Derived.Test.YthlhchaoedcdbaaDoorRCrc
import Derived.Test.YthlhchaoedcdbaaDoorRCodB
import Derived.Deep.RegionHeld
import Derived.Deep.Cut
import Derived.Test.YthlhchaoedcdbaaDoorRCodRG
import Derived.Test.YthlhchaoedcdbaaDoorRCmdI
import Derived.Test.YthlhchaoedcdbaaDoorRStore
/- The document's Frame: a byte, the sum, and the form of an item. -/
namespace Go.Proofs.YthlhchaoedcdbaaDoor.Mg
open Go.RowKit Mem Cod

/-- The sum's bytes, the highest first. -/
def sb (s : Nat) : List Nat := [s / 16777216, s / 65536 % 256, s / 256 % 256, s % 256]
def frame (v : Nat) (p : List Nat) : List Nat := v :: (sb (Crc.sum p) ++ p)
end Go.Proofs.YthlhchaoedcdbaaDoor.Mg
/- The document's Open: the item of a frame, or what is wrong with it. -/
namespace Go.Proofs.YthlhchaoedcdbaaDoor.Mg
open Go.RowKit Mem Cod

/-- Four bytes, the highest first. -/
def word (l : List Nat) : Nat := l.foldl (fun s b => s * 256 + b) 0
theorem word_snoc (l : List Nat) (x : Nat) : word (l ++ [x]) = word l * 256 + x := by simp [word, List.foldl_append]
theorem fold_lt (l : List Nat) (h : ∀ b ∈ l, b < 256) : ∀ s, l.foldl (fun s b => s * 256 + b) s < (s + 1) * 256 ^ l.length := by
  induction l with
  | nil => intro s; simp
  | cons b l ih =>
    intro s
    have h1 := ih (fun x hx => h x (by simp [hx])) (s * 256 + b)
    have hb := h b (by simp)
    have h2 : (s * 256 + b + 1) * 256 ^ l.length ≤ ((s + 1) * 256) * 256 ^ l.length := Nat.mul_le_mul_right _ (by omega)
    have e : (s + 1) * 256 ^ (b :: l).length = ((s + 1) * 256) * 256 ^ l.length := by
      rw [List.length_cons, Nat.pow_succ, Nat.mul_assoc, Nat.mul_comm 256]
    rw [e]
    exact Nat.lt_of_lt_of_le h1 h2
theorem word_lt {l : List Nat} (h : ∀ b ∈ l, b < 256) : word l < 256 ^ l.length := by
  have := fold_lt l h 0
  simpa [word] using this
/-- The item of a frame at a version, and an error's number. -/
def openX (v : Nat) (b : List Nat) : It × Nat :=
  if b.length < 5 then (Cmd.zeroIt, 2) else if v < b.getD 0 0 then (Cmd.zeroIt, 13) else if b.getD 0 0 < v then (Cmd.zeroIt, 4)
  else if word ((b.drop 1).take 4) = Crc.sum (b.drop 5) then (Cp.getX (b.drop 5), Cp.getE (b.drop 5)) else (Cmd.zeroIt, 5)
/-- The ending. -/
def Opens (w : World) (r : It × Nat) (e : Ending) (w' : World) : Prop :=
  ∃ A c, e = .returned (.tuple #[.agg #[.int .i64 r.1.kind, .int .u64 (r.1.num : Int), .string r.1.str, .slice A r.1.kids.length c], .int .i64 (r.2 : Int)]) ∧ Lies w' (fun b => w.heap.size ≤ b) r.1 A c ∧ Below w.heap.size w w'
def WordRel (w : World) (b : List Nat) (s i : Value) (wr : World) : Prop :=
  ∃ j : Nat, 1 ≤ j ∧ j ≤ 5 ∧ i = .int .i64 (j : Int) ∧ s = .int .u32 ((word ((b.drop 1).take (j - 1)) : Nat) : Int) ∧ wr = w
theorem lies_zero (w : World) (S : Nat → Prop) : Lies w S Cmd.zeroIt none 0 := lies_leaf w S (by decide) (by decide) (by decide)
end Go.Proofs.YthlhchaoedcdbaaDoor.Mg
