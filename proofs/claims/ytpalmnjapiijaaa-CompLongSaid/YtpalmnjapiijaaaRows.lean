/-
  No cell of these rows narrows 'for every input' (looked for: loops, veiled, ifaces, maps, wideKeys, modest, calm, conditions, laid).
  DERIVED. THE GIVEN ROWS OF THIS SEAT. 5 by the template 'for every input the law returns true; each argument reads behind the call as it read before'; 0 by the template 'total and deterministic' (their statements: YtpalmnjapiijaaaTotals.lean).
  GIVEN WITH THE SEED: the statements are not yours to turn. If you find one false, say at which input.
  Laid BY PROGRAM, IN A SANDBOX (cutbox-rows.mjs): the forced cells as the released guide's own fill.sh prints them over the translation 51294911e39be6a5… (all of the seat's roots in one cut). By AI agents, Wed Nov 11 2026. No macro, syntax, notation, axiom, sorry.
-/
import Derived.Test.YtpalmnjapiijaaaChecked
import GoSem.Claim
import GoSem.ClaimJoined
import GoSem.ClaimMapViews
import Derived.JoinedTies
import Derived.KernelRfl
namespace Go.Proofs.Ytpalmnjapiijaaa
/- THE CELL 'sum', in the pinned program and in every row, IS THE sha256 OF THE DUMP (.gsa) THAT YtpalmnjapiijaaaProg.lean LOADS. Nothing in Lean hashes anything: it is a label: what it is worth is what the hold of that sum in a sandbox is worth. -/
noncomputable def Try.pinned : Pinned := { name := "ytpalmnjapiijaaa", sum := "51294911e39be6a501161707b0cd5b7fcd3227720c601480bac0bc2bc437d82e", checked := Try.checked }
namespace Rows
def none {H : Type} : Left H := { results := [], args := [] }

/-- 'stonecroplaw18.CompFinds': WHATEVER THE INPUT: true; the input reads as it did. -/
def compFindsSpec : ChangeSpec := { name := "compFinds", fn := fun _ => fun
  | [d1, d2] => { results := [.lit (.bool true)], args := [d1, d2] }
  | _ => none }
def compFindsRow : OpenClaim := { program := "ytpalmnjapiijaaa", sum := "51294911e39be6a501161707b0cd5b7fcd3227720c601480bac0bc2bc437d82e", func := "stonecrop/stonecroplaw18.CompFinds", spec := "compFinds", unfollowed := true, recurses := true, apart := false }
def CompFindsSaid : Prop := compFindsRow.holds Try.pinned (OpenSpec.ofChange compFindsSpec)

/-- ITS FALSE NEIGHBOUR: 'it returns false'. Refute it at one input. -/
def compFindsWrong : ChangeSpec := { name := "compFinds", fn := fun _ => fun
  | [d1, d2] => { results := [.lit (.bool false)], args := [d1, d2] }
  | _ => none }
def CompFindsWrongFalsely : Prop := compFindsRow.holds Try.pinned (OpenSpec.ofChange compFindsWrong)

/-- 'stonecroplaw18.CompOnce': WHATEVER THE INPUT: true; the input reads as it did. -/
def compOnceSpec : ChangeSpec := { name := "compOnce", fn := fun _ => fun
  | [d] => { results := [.lit (.bool true)], args := [d] }
  | _ => none }
def compOnceRow : OpenClaim := { program := "ytpalmnjapiijaaa", sum := "51294911e39be6a501161707b0cd5b7fcd3227720c601480bac0bc2bc437d82e", func := "stonecrop/stonecroplaw18.CompOnce", spec := "compOnce", unfollowed := true, recurses := true, apart := false }
def CompOnceSaid : Prop := compOnceRow.holds Try.pinned (OpenSpec.ofChange compOnceSpec)

/-- ITS FALSE NEIGHBOUR: 'it returns false'. Refute it at one input. -/
def compOnceWrong : ChangeSpec := { name := "compOnce", fn := fun _ => fun
  | [d] => { results := [.lit (.bool false)], args := [d] }
  | _ => none }
def CompOnceWrongFalsely : Prop := compOnceRow.holds Try.pinned (OpenSpec.ofChange compOnceWrong)

/-- 'stonecroplaw18.CompLong': WHATEVER THE INPUT: true; the input reads as it did. -/
def compLongSpec : ChangeSpec := { name := "compLong", fn := fun _ => fun
  | [d] => { results := [.lit (.bool true)], args := [d] }
  | _ => none }
def compLongRow : OpenClaim := { program := "ytpalmnjapiijaaa", sum := "51294911e39be6a501161707b0cd5b7fcd3227720c601480bac0bc2bc437d82e", func := "stonecrop/stonecroplaw18.CompLong", spec := "compLong", unfollowed := true, recurses := true, apart := false }
def CompLongSaid : Prop := compLongRow.holds Try.pinned (OpenSpec.ofChange compLongSpec)

/-- ITS FALSE NEIGHBOUR: 'it returns false'. Refute it at one input. -/
def compLongWrong : ChangeSpec := { name := "compLong", fn := fun _ => fun
  | [d] => { results := [.lit (.bool false)], args := [d] }
  | _ => none }
def CompLongWrongFalsely : Prop := compLongRow.holds Try.pinned (OpenSpec.ofChange compLongWrong)

/-- 'stonecroplaw18.CompLeads': WHATEVER THE INPUT: true; the input reads as it did. -/
def compLeadsSpec : ChangeSpec := { name := "compLeads", fn := fun _ => fun
  | [d1, d2, d3] => { results := [.lit (.bool true)], args := [d1, d2, d3] }
  | _ => none }
def compLeadsRow : OpenClaim := { program := "ytpalmnjapiijaaa", sum := "51294911e39be6a501161707b0cd5b7fcd3227720c601480bac0bc2bc437d82e", func := "stonecrop/stonecroplaw18.CompLeads", spec := "compLeads", unfollowed := true, recurses := true, apart := false }
def CompLeadsSaid : Prop := compLeadsRow.holds Try.pinned (OpenSpec.ofChange compLeadsSpec)

/-- ITS FALSE NEIGHBOUR: 'it returns false'. Refute it at one input. -/
def compLeadsWrong : ChangeSpec := { name := "compLeads", fn := fun _ => fun
  | [d1, d2, d3] => { results := [.lit (.bool false)], args := [d1, d2, d3] }
  | _ => none }
def CompLeadsWrongFalsely : Prop := compLeadsRow.holds Try.pinned (OpenSpec.ofChange compLeadsWrong)

/-- 'stonecroplaw18.CompApart': WHATEVER THE INPUT: true; the input reads as it did. -/
def compApartSpec : ChangeSpec := { name := "compApart", fn := fun _ => fun
  | [d1, d2] => { results := [.lit (.bool true)], args := [d1, d2] }
  | _ => none }
def compApartRow : OpenClaim := { program := "ytpalmnjapiijaaa", sum := "51294911e39be6a501161707b0cd5b7fcd3227720c601480bac0bc2bc437d82e", func := "stonecrop/stonecroplaw18.CompApart", spec := "compApart", unfollowed := true, recurses := true, apart := false }
def CompApartSaid : Prop := compApartRow.holds Try.pinned (OpenSpec.ofChange compApartSpec)

/-- ITS FALSE NEIGHBOUR: 'it returns false'. Refute it at one input. -/
def compApartWrong : ChangeSpec := { name := "compApart", fn := fun _ => fun
  | [d1, d2] => { results := [.lit (.bool false)], args := [d1, d2] }
  | _ => none }
def CompApartWrongFalsely : Prop := compApartRow.holds Try.pinned (OpenSpec.ofChange compApartWrong)

/- THE SECOND FORM. 'bulk': how many values and letters a reading holds, each counted each time it is reached (what is shared counts as often as it is met; a slice's spare places count too). A statement '..UptoSaid' is the law's where the arguments, and the package variables that the reading takes, are together of bulk at most 1048576: NARROWER than '..Said'. Prove '..Said' where nothing that the law and all that it calls make is longer than what came in: it says more and counts as full. Else prove '..UptoSaid'. A law counts once. -/
mutual
def uptoBulk {H : Type} : DataW H → Nat
  | .lit (.string bytes) => bytes.length + 1
  | .lit _ => 1
  | .nil => 1
  | .ptr d => uptoBulk d + 1
  | .slice elems spare => uptoBulkAll elems + uptoBulkAll spare + 1
  | .agg parts => uptoBulkAll parts + 1
  | .iface _ d => uptoBulk d + 1
  | .map entries => uptoBulkEntries entries + 1
  | .held _ => 1
def uptoBulkAll {H : Type} : List (DataW H) → Nat
  | [] => 0
  | d :: r => uptoBulk d + uptoBulkAll r
def uptoBulkEntries {H : Type} : List (Lit × DataW H) → Nat
  | [] => 0
  | x :: r => uptoBulkEntry x + uptoBulkEntries r
def uptoBulkEntry {H : Type} : Lit × DataW H → Nat
  | (.string bytes, d) => bytes.length + uptoBulk d + 1
  | (_, d) => uptoBulk d + 1
 end
def uptoSmall : (H : Type) → List (DataW H) → Bool := fun _ ds => decide (uptoBulkAll ds ≤ 1048576)
def OpenSpec.upto (s : _root_.Go.ChangeSpec) : _root_.Go.OpenSpec := { _root_.Go.OpenSpec.ofChange s with cond := some uptoSmall }

/-- 'stonecroplaw18.CompFinds', WHERE WHAT IT READS IS OF BULK AT MOST 1048576: true; the input reads as it did. -/
def compFindsUptoRow : OpenClaim := { program := "ytpalmnjapiijaaa", sum := "51294911e39be6a501161707b0cd5b7fcd3227720c601480bac0bc2bc437d82e", func := "stonecrop/stonecroplaw18.CompFinds", spec := "compFinds", unfollowed := true, recurses := true, apart := false, narrowed := true }
def CompFindsUptoSaid : Prop := compFindsUptoRow.holds Try.pinned (OpenSpec.upto compFindsSpec)

/-- 'stonecroplaw18.CompOnce', WHERE WHAT IT READS IS OF BULK AT MOST 1048576: true; the input reads as it did. -/
def compOnceUptoRow : OpenClaim := { program := "ytpalmnjapiijaaa", sum := "51294911e39be6a501161707b0cd5b7fcd3227720c601480bac0bc2bc437d82e", func := "stonecrop/stonecroplaw18.CompOnce", spec := "compOnce", unfollowed := true, recurses := true, apart := false, narrowed := true }
def CompOnceUptoSaid : Prop := compOnceUptoRow.holds Try.pinned (OpenSpec.upto compOnceSpec)

/-- 'stonecroplaw18.CompLong', WHERE WHAT IT READS IS OF BULK AT MOST 1048576: true; the input reads as it did. -/
def compLongUptoRow : OpenClaim := { program := "ytpalmnjapiijaaa", sum := "51294911e39be6a501161707b0cd5b7fcd3227720c601480bac0bc2bc437d82e", func := "stonecrop/stonecroplaw18.CompLong", spec := "compLong", unfollowed := true, recurses := true, apart := false, narrowed := true }
def CompLongUptoSaid : Prop := compLongUptoRow.holds Try.pinned (OpenSpec.upto compLongSpec)

/-- 'stonecroplaw18.CompLeads', WHERE WHAT IT READS IS OF BULK AT MOST 1048576: true; the input reads as it did. -/
def compLeadsUptoRow : OpenClaim := { program := "ytpalmnjapiijaaa", sum := "51294911e39be6a501161707b0cd5b7fcd3227720c601480bac0bc2bc437d82e", func := "stonecrop/stonecroplaw18.CompLeads", spec := "compLeads", unfollowed := true, recurses := true, apart := false, narrowed := true }
def CompLeadsUptoSaid : Prop := compLeadsUptoRow.holds Try.pinned (OpenSpec.upto compLeadsSpec)

/-- 'stonecroplaw18.CompApart', WHERE WHAT IT READS IS OF BULK AT MOST 1048576: true; the input reads as it did. -/
def compApartUptoRow : OpenClaim := { program := "ytpalmnjapiijaaa", sum := "51294911e39be6a501161707b0cd5b7fcd3227720c601480bac0bc2bc437d82e", func := "stonecrop/stonecroplaw18.CompApart", spec := "compApart", unfollowed := true, recurses := true, apart := false, narrowed := true }
def CompApartUptoSaid : Prop := compApartUptoRow.holds Try.pinned (OpenSpec.upto compApartSpec)

end Rows
end Go.Proofs.Ytpalmnjapiijaaa
