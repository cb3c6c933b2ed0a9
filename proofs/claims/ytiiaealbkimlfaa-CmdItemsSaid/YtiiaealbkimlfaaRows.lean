/-
  NARROWER THAN 'FOR EVERY INPUT', by the rows' own cells (each row's printed sentence says how): CmdItems: loops.
  DERIVED. THE GIVEN ROWS OF THIS SEAT. 4 by the template 'for every input the law returns true; each argument reads behind the call as it read before'; 0 by the template 'total and deterministic' (their statements: YtiiaealbkimlfaaTotals.lean).
  GIVEN WITH THE SEED: the statements are not yours to turn. If you find one false, say at which input.
  Laid BY PROGRAM, IN A SANDBOX (cutbox-rows.mjs): the forced cells as the released guide's own fill.sh prints them over the translation 46e38a1e281fe7cf… (all of the seat's roots in one cut). By AI agents, Wed Nov 11 2026. No macro, syntax, notation, axiom, sorry.
-/
import Derived.Test.YtiiaealbkimlfaaChecked
import GoSem.Claim
import GoSem.ClaimJoined
import GoSem.ClaimMapViews
import Derived.JoinedTies
import Derived.KernelRfl
namespace Go.Proofs.Ytiiaealbkimlfaa
/- THE CELL 'sum', in the pinned program and in every row, IS THE sha256 OF THE DUMP (.gsa) THAT YtiiaealbkimlfaaProg.lean LOADS. Nothing in Lean hashes anything: it is a label: what it is worth is what the hold of that sum in a sandbox is worth. -/
noncomputable def Try.pinned : Pinned := { name := "ytiiaealbkimlfaa", sum := "46e38a1e281fe7cfebf6979d291596739cefc1d198bfb4d072b5e533364aacda", checked := Try.checked }
namespace Rows
def none {H : Type} : Left H := { results := [], args := [] }

/-- 'stonecroplaw06.CmdChecks': WHATEVER THE INPUT: true; the input reads as it did. -/
def cmdChecksSpec : ChangeSpec := { name := "cmdChecks", fn := fun _ => fun
  | [d1, d2] => { results := [.lit (.bool true)], args := [d1, d2] }
  | _ => none }
def cmdChecksRow : OpenClaim := { program := "ytiiaealbkimlfaa", sum := "46e38a1e281fe7cfebf6979d291596739cefc1d198bfb4d072b5e533364aacda", func := "stonecrop/stonecroplaw06.CmdChecks", spec := "cmdChecks", apart := false }
def CmdChecksSaid : Prop := cmdChecksRow.holds Try.pinned (OpenSpec.ofChange cmdChecksSpec)

/-- ITS FALSE NEIGHBOUR: 'it returns false'. Refute it at one input. -/
def cmdChecksWrong : ChangeSpec := { name := "cmdChecks", fn := fun _ => fun
  | [d1, d2] => { results := [.lit (.bool false)], args := [d1, d2] }
  | _ => none }
def CmdChecksWrongFalsely : Prop := cmdChecksRow.holds Try.pinned (OpenSpec.ofChange cmdChecksWrong)

/-- 'stonecroplaw06.CmdItems': WHATEVER THE INPUT: true; the input reads as it did. -/
def cmdItemsSpec : ChangeSpec := { name := "cmdItems", fn := fun _ => fun
  | [d1, d2] => { results := [.lit (.bool true)], args := [d1, d2] }
  | _ => none }
def cmdItemsRow : OpenClaim := { program := "ytiiaealbkimlfaa", sum := "46e38a1e281fe7cfebf6979d291596739cefc1d198bfb4d072b5e533364aacda", func := "stonecrop/stonecroplaw06.CmdItems", spec := "cmdItems", recurses := true, loops := true, apart := false }
def CmdItemsSaid : Prop := cmdItemsRow.holds Try.pinned (OpenSpec.ofChange cmdItemsSpec)

/-- ITS FALSE NEIGHBOUR: 'it returns false'. Refute it at one input. -/
def cmdItemsWrong : ChangeSpec := { name := "cmdItems", fn := fun _ => fun
  | [d1, d2] => { results := [.lit (.bool false)], args := [d1, d2] }
  | _ => none }
def CmdItemsWrongFalsely : Prop := cmdItemsRow.holds Try.pinned (OpenSpec.ofChange cmdItemsWrong)

/-- 'stonecroplaw06.CmdMeets': WHATEVER THE INPUT: true; the input reads as it did. -/
def cmdMeetsSpec : ChangeSpec := { name := "cmdMeets", fn := fun _ => fun
  | [d1, d2] => { results := [.lit (.bool true)], args := [d1, d2] }
  | _ => none }
def cmdMeetsRow : OpenClaim := { program := "ytiiaealbkimlfaa", sum := "46e38a1e281fe7cfebf6979d291596739cefc1d198bfb4d072b5e533364aacda", func := "stonecrop/stonecroplaw06.CmdMeets", spec := "cmdMeets", apart := false }
def CmdMeetsSaid : Prop := cmdMeetsRow.holds Try.pinned (OpenSpec.ofChange cmdMeetsSpec)

/-- ITS FALSE NEIGHBOUR: 'it returns false'. Refute it at one input. -/
def cmdMeetsWrong : ChangeSpec := { name := "cmdMeets", fn := fun _ => fun
  | [d1, d2] => { results := [.lit (.bool false)], args := [d1, d2] }
  | _ => none }
def CmdMeetsWrongFalsely : Prop := cmdMeetsRow.holds Try.pinned (OpenSpec.ofChange cmdMeetsWrong)

/-- 'stonecroplaw06.CmdReads': WHATEVER THE INPUT: true; the input reads as it did. -/
def cmdReadsSpec : ChangeSpec := { name := "cmdReads", fn := fun _ => fun
  | [d1, d2] => { results := [.lit (.bool true)], args := [d1, d2] }
  | _ => none }
def cmdReadsRow : OpenClaim := { program := "ytiiaealbkimlfaa", sum := "46e38a1e281fe7cfebf6979d291596739cefc1d198bfb4d072b5e533364aacda", func := "stonecrop/stonecroplaw06.CmdReads", spec := "cmdReads", apart := false }
def CmdReadsSaid : Prop := cmdReadsRow.holds Try.pinned (OpenSpec.ofChange cmdReadsSpec)

/-- ITS FALSE NEIGHBOUR: 'it returns false'. Refute it at one input. -/
def cmdReadsWrong : ChangeSpec := { name := "cmdReads", fn := fun _ => fun
  | [d1, d2] => { results := [.lit (.bool false)], args := [d1, d2] }
  | _ => none }
def CmdReadsWrongFalsely : Prop := cmdReadsRow.holds Try.pinned (OpenSpec.ofChange cmdReadsWrong)

/- THE SECOND FORM. 'bulk': how many values and letters a reading holds, each counted each time it is reached (what is shared counts as often as it is met; a slice's spare places count too). A statement '..UptoSaid' is the law's where the arguments, and the package variables that the reading takes, are together of bulk at most 1048576: NARROWER than '..Said'. Prove '..Said' where nothing that the law and all that it calls make is longer than what came in: it says more and counts as full. Else prove '..UptoSaid'. A law counts once. -/
mutual
def uptoBulk {H : Type} : DataW H → Nat
  | .lit (.string bytes) => bytes.length + 1
  | .lit _ => 1
  | .nil => 1
  | .ptr d => uptoBulk d + 1
  | .slice elems spare => uptoBulkAll elems + uptoBulkAll spare + 1
  | .agg parts => uptoBulkAll parts + 1
  | .iface _ d => uptoBulk d + 1
  | .map entries => uptoBulkEntries entries + 1
  | .held _ => 1
def uptoBulkAll {H : Type} : List (DataW H) → Nat
  | [] => 0
  | d :: r => uptoBulk d + uptoBulkAll r
def uptoBulkEntries {H : Type} : List (Lit × DataW H) → Nat
  | [] => 0
  | x :: r => uptoBulkEntry x + uptoBulkEntries r
def uptoBulkEntry {H : Type} : Lit × DataW H → Nat
  | (.string bytes, d) => bytes.length + uptoBulk d + 1
  | (_, d) => uptoBulk d + 1
 end
def uptoSmall : (H : Type) → List (DataW H) → Bool := fun _ ds => decide (uptoBulkAll ds ≤ 1048576)
def OpenSpec.upto (s : _root_.Go.ChangeSpec) : _root_.Go.OpenSpec := { _root_.Go.OpenSpec.ofChange s with cond := some uptoSmall }

/-- 'stonecroplaw06.CmdChecks', WHERE WHAT IT READS IS OF BULK AT MOST 1048576: true; the input reads as it did. -/
def cmdChecksUptoRow : OpenClaim := { program := "ytiiaealbkimlfaa", sum := "46e38a1e281fe7cfebf6979d291596739cefc1d198bfb4d072b5e533364aacda", func := "stonecrop/stonecroplaw06.CmdChecks", spec := "cmdChecks", apart := false, narrowed := true }
def CmdChecksUptoSaid : Prop := cmdChecksUptoRow.holds Try.pinned (OpenSpec.upto cmdChecksSpec)

/-- 'stonecroplaw06.CmdItems', WHERE WHAT IT READS IS OF BULK AT MOST 1048576: true; the input reads as it did. -/
def cmdItemsUptoRow : OpenClaim := { program := "ytiiaealbkimlfaa", sum := "46e38a1e281fe7cfebf6979d291596739cefc1d198bfb4d072b5e533364aacda", func := "stonecrop/stonecroplaw06.CmdItems", spec := "cmdItems", recurses := true, loops := true, apart := false, narrowed := true }
def CmdItemsUptoSaid : Prop := cmdItemsUptoRow.holds Try.pinned (OpenSpec.upto cmdItemsSpec)

/-- 'stonecroplaw06.CmdMeets', WHERE WHAT IT READS IS OF BULK AT MOST 1048576: true; the input reads as it did. -/
def cmdMeetsUptoRow : OpenClaim := { program := "ytiiaealbkimlfaa", sum := "46e38a1e281fe7cfebf6979d291596739cefc1d198bfb4d072b5e533364aacda", func := "stonecrop/stonecroplaw06.CmdMeets", spec := "cmdMeets", apart := false, narrowed := true }
def CmdMeetsUptoSaid : Prop := cmdMeetsUptoRow.holds Try.pinned (OpenSpec.upto cmdMeetsSpec)

/-- 'stonecroplaw06.CmdReads', WHERE WHAT IT READS IS OF BULK AT MOST 1048576: true; the input reads as it did. -/
def cmdReadsUptoRow : OpenClaim := { program := "ytiiaealbkimlfaa", sum := "46e38a1e281fe7cfebf6979d291596739cefc1d198bfb4d072b5e533364aacda", func := "stonecrop/stonecroplaw06.CmdReads", spec := "cmdReads", apart := false, narrowed := true }
def CmdReadsUptoSaid : Prop := cmdReadsUptoRow.holds Try.pinned (OpenSpec.upto cmdReadsSpec)

end Rows
end Go.Proofs.Ytiiaealbkimlfaa
