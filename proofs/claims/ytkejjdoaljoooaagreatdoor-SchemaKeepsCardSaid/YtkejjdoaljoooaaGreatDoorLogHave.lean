/-
  Texts of earlier layers, as one.
-/
import Derived.Test.YtkejjdoaljoooaaGreatDoorDskHave
/- What the laws of log ask of the program's disk: it is held against the plain disk, whatever it keeps in memory. -/
namespace Go.Proofs.YtkejjdoaljoooaaGreatDoor.Dsk
open Go.RowKit Mem Cod
structure Has2 (I : Held) : Prop where
 keep : ∀ {w w' : World} {S T : Nat → Prop} {p : Nat} {d : Dk}, I w S p d → Keeps T w w' → (∀ b, S b → ¬ T b) → I w' S p d
 low : ∀ {w : World} {S : Nat → Prop} {p : Nat} {d : Dk}, I w S p d → ∀ k, S k → k < w.heap.size
 new : ∀ (room : Int) (w : World), Calls Tryz.prog 7 #[.int .i64 room] w (fun e w' => ∃ p S, e = .returned (ptr p) ∧ I w' S p (newDk room) ∧ (∀ k, S k → w.heap.size ≤ k) ∧ Below w.heap.size w w')
 append : ∀ (p : Nat) (S : Nat → Prop) (d : Dk) (s : ByteArray) (BA : Option Addr) (bn bc : Nat) (bs : List Nat) (w : World), I w S p d → Fine d → Rd w BA bn bc (cs bs) → Outs S bn BA → s.size ≤ 9223372036854775807 → bn ≤ 1099511627776 →
  Calls Tryz.prog 45 #[ptr p, .string s, .slice BA bn bc] w (Does I p S (whole (doAppend s bs) d) w)
 sync : ∀ (p : Nat) (S : Nat → Prop) (d : Dk) (s : ByteArray) (w : World), I w S p d → Fine d → s.size ≤ 9223372036854775807 → Calls Tryz.prog 46 #[ptr p, .string s] w (Does I p S (whole (doSync s) d) w)
 cut : ∀ (p : Nat) (S : Nat → Prop) (d : Dk) (s : ByteArray) (n : Int) (w : World), I w S p d → Fine d → s.size ≤ 9223372036854775807 → Calls Tryz.prog 42 #[ptr p, .string s, .int .i64 n] w (Does I p S (whole (doCut s n) d) w)
 move : ∀ (p : Nat) (S : Nat → Prop) (d : Dk) (s t : ByteArray) (w : World), I w S p d → Fine d → s.size ≤ 9223372036854775807 → t.size ≤ 9223372036854775807 → Calls Tryz.prog 166 #[ptr p, .string s, .string t] w (Does I p S (whole (doMove s t) d) w)
 remove : ∀ (p : Nat) (S : Nat → Prop) (d : Dk) (s : ByteArray) (w : World), I w S p d → Fine d → s.size ≤ 9223372036854775807 → Calls Tryz.prog 165 #[ptr p, .string s] w (Does I p S (whole (doRemove s) d) w)
 read : ∀ (p : Nat) (S : Nat → Prop) (d : Dk) (s : ByteArray) (w : World), I w S p d → Fine d → s.size ≤ 9223372036854775807 → Calls Tryz.prog 39 #[ptr p, .string s] w (fun e w' => ∃ A n c, e = .returned (.tuple #[.slice A n c, .int .i64 ((Dsk.read s d).2 : Int)]) ∧
  w'.ownsRow w.heap.size 5 1 (.slice A n c) n (cs (Dsk.read s d).1) ∧ ∃ S', I w' S' p d ∧ Grew S S' w ∧ Keeps S w w' ∧ Outs S' n A)
 fuse : ∀ (p : Nat) (S : Nat → Prop) (d : Dk) (n : Int) (w : World), I w S p d → Fine d → Calls Tryz.prog 9 #[ptr p, .int .i64 n] w (fun e w' => e = .returned (.tuple #[]) ∧ Stays I p S { d with fuse := max n (-1) } w w')
 boot : ∀ (p : Nat) (S : Nat → Prop) (d : Dk) (KA : Option Addr) (kn kc : Nat) (ks : List Int) (w : World), I w S p d → Fine d → Rd w KA kn kc (vs ks) → Outs S kn KA →
  Calls Tryz.prog 13 #[ptr p, .slice KA kn kc] w (fun e w' => e = .returned (.tuple #[]) ∧ Stays I p S (Dsk.boot ks d) w w')
section
variable {I : Held} {F : World → (Nat → Prop) → Prop} {w w' : World} {S : Nat → Prop} {p : Nat} {d : Dk} {e : Ending} {r : Nat × Dk}
end
end Go.Proofs.YtkejjdoaljoooaaGreatDoor.Dsk
