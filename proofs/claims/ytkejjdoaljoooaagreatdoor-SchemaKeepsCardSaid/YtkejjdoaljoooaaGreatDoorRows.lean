/-
  NARROWER THAN 'FOR EVERY INPUT', by the rows' own cells (each row's printed sentence says how): SchemaKeeps: laid · SchemaFresh: laid.
  DERIVED. THE GIVEN ROWS OF THIS SEAT. 2 by the template 'for every input the law returns true; each argument reads behind the call as it read before'; 0 by the template 'total and deterministic' (their statements: YtkejjdoaljoooaaGreatDoorTotals.lean).
  GIVEN WITH THE SEED: the statements are not yours to turn. If you find one false, say at which input.
  Laid BY PROGRAM, IN A SANDBOX (cutbox-rows.mjs): the forced cells as the released guide's own fill.sh prints them over the translation 8f9a2496b4fc896b… (all of the seat's roots in one cut). By AI agents, Wed Nov 11 2026. No macro, syntax, notation, axiom, sorry.
-/
import Derived.Test.YtkejjdoaljoooaaGreatDoorChecked
import GoSem.Claim
import GoSem.ClaimJoined
import GoSem.ClaimMapViews
import Derived.JoinedTies
import Derived.KernelRfl
namespace Go.Proofs.YtkejjdoaljoooaaGreatDoor
/- THE CELL 'sum', in the pinned program and in every row, IS THE sha256 OF THE DUMP (.gsa) THAT YtkejjdoaljoooaaGreatDoorProg.lean LOADS. Nothing in Lean hashes anything: it is a label: what it is worth is what the hold of that sum in a sandbox is worth. -/
noncomputable def Tryz.pinned : Pinned := { name := "ytkejjdoaljoooaagreatdoor", sum := "8f9a2496b4fc896b255bc19b5e4150412d48b8d54d9ca036f9f1b57215e5232e", checked := Tryz.checked }
namespace Rows
def none {H : Type} : Left H := { results := [], args := [] }

/- WHAT THE LISTED PACKAGE-LEVEL VARIABLES READ AS WHEN THE CALL BEGINS. Each datum BY PROGRAM (the guide's laid-datum.mjs) off the statement by which the dump's own 'gosem.cut.vars' lays the variable. In a bare row this is a premise. The card (YtkejjdoaljoooaaGreatDoorCards.lean) ties it to the program's text. -/
def laid_stonecrop_crc_halves {H : Type} : DataW H := .agg [.lit (.int .u32 0), .lit (.int .u32 274646895), .lit (.int .u32 549293790), .lit (.int .u32 820201905), .lit (.int .u32 1098587580), .lit (.int .u32 1361435347), .lit (.int .u32 1640403810), .lit (.int .u32 1905808397), .lit (.int .u32 2197175160), .lit (.int .u32 2460548119), .lit (.int .u32 2722870694), .lit (.int .u32 2987750089), .lit (.int .u32 3280807620), .lit (.int .u32 3553878443), .lit (.int .u32 3811616794), .lit (.int .u32 4084100981)]

/-- 'stonecroplaw14.SchemaKeeps': WHATEVER THE INPUT: true; the input reads as it did. -/
def schemaKeepsSpec : ChangeSpec := { name := "schemaKeeps", fn := fun _ => fun
  | [d1, d2, d3, d4] => { results := [.lit (.bool true)], args := [d1, d2, d3, d4] }
  | _ => none }
def schemaKeepsRow : OpenClaim := { program := "ytkejjdoaljoooaagreatdoor", sum := "8f9a2496b4fc896b255bc19b5e4150412d48b8d54d9ca036f9f1b57215e5232e", func := "stonecrop/stonecroplaw14.SchemaKeeps", spec := "schemaKeeps", inPlace := ["internal/bytealg.IndexByteString"], unfollowed := true, recurses := true, named := ["stonecrop/crc.halves"], plainKeys := false, apart := false, laid := [("stonecrop/crc.halves", laid_stonecrop_crc_halves)] }
def SchemaKeepsSaid : Prop := schemaKeepsRow.holds Tryz.pinned (OpenSpec.ofChange schemaKeepsSpec)

/-- ITS FALSE NEIGHBOUR: 'it returns false'. Refute it at one input. -/
def schemaKeepsWrong : ChangeSpec := { name := "schemaKeeps", fn := fun _ => fun
  | [d1, d2, d3, d4] => { results := [.lit (.bool false)], args := [d1, d2, d3, d4] }
  | _ => none }
def SchemaKeepsWrongFalsely : Prop := schemaKeepsRow.holds Tryz.pinned (OpenSpec.ofChange schemaKeepsWrong)

/-- 'stonecroplaw14.SchemaFresh': WHATEVER THE INPUT: true; the input reads as it did. -/
def schemaFreshSpec : ChangeSpec := { name := "schemaFresh", fn := fun _ => fun
  | [d1, d2] => { results := [.lit (.bool true)], args := [d1, d2] }
  | _ => none }
def schemaFreshRow : OpenClaim := { program := "ytkejjdoaljoooaagreatdoor", sum := "8f9a2496b4fc896b255bc19b5e4150412d48b8d54d9ca036f9f1b57215e5232e", func := "stonecrop/stonecroplaw14.SchemaFresh", spec := "schemaFresh", inPlace := ["internal/bytealg.IndexByteString"], unfollowed := true, recurses := true, named := ["stonecrop/crc.halves"], plainKeys := false, apart := false, laid := [("stonecrop/crc.halves", laid_stonecrop_crc_halves)] }
def SchemaFreshSaid : Prop := schemaFreshRow.holds Tryz.pinned (OpenSpec.ofChange schemaFreshSpec)

/-- ITS FALSE NEIGHBOUR: 'it returns false'. Refute it at one input. -/
def schemaFreshWrong : ChangeSpec := { name := "schemaFresh", fn := fun _ => fun
  | [d1, d2] => { results := [.lit (.bool false)], args := [d1, d2] }
  | _ => none }
def SchemaFreshWrongFalsely : Prop := schemaFreshRow.holds Tryz.pinned (OpenSpec.ofChange schemaFreshWrong)

/- THE SECOND FORM. 'bulk': how many values and letters a reading holds, each counted each time it is reached (what is shared counts as often as it is met; a slice's spare places count too). A statement '..UptoSaid' is the law's where the arguments, and the package variables that the reading takes, are together of bulk at most 1048576: NARROWER than '..Said'. Prove '..Said' where nothing that the law and all that it calls make is longer than what came in: it says more and counts as full. Else prove '..UptoSaid'. A law counts once. -/
mutual
def uptoBulk {H : Type} : DataW H → Nat
  | .lit (.string bytes) => bytes.length + 1
  | .lit _ => 1
  | .nil => 1
  | .ptr d => uptoBulk d + 1
  | .slice elems spare => uptoBulkAll elems + uptoBulkAll spare + 1
  | .agg parts => uptoBulkAll parts + 1
  | .iface _ d => uptoBulk d + 1
  | .map entries => uptoBulkEntries entries + 1
  | .held _ => 1
def uptoBulkAll {H : Type} : List (DataW H) → Nat
  | [] => 0
  | d :: r => uptoBulk d + uptoBulkAll r
def uptoBulkEntries {H : Type} : List (Lit × DataW H) → Nat
  | [] => 0
  | x :: r => uptoBulkEntry x + uptoBulkEntries r
def uptoBulkEntry {H : Type} : Lit × DataW H → Nat
  | (.string bytes, d) => bytes.length + uptoBulk d + 1
  | (_, d) => uptoBulk d + 1
 end
def uptoSmall : (H : Type) → List (DataW H) → Bool := fun _ ds => decide (uptoBulkAll ds ≤ 1048576)
def OpenSpec.upto (s : _root_.Go.ChangeSpec) : _root_.Go.OpenSpec := { _root_.Go.OpenSpec.ofChange s with cond := some uptoSmall }

/-- 'stonecroplaw14.SchemaKeeps', WHERE WHAT IT READS IS OF BULK AT MOST 1048576: true; the input reads as it did. -/
def schemaKeepsUptoRow : OpenClaim := { program := "ytkejjdoaljoooaagreatdoor", sum := "8f9a2496b4fc896b255bc19b5e4150412d48b8d54d9ca036f9f1b57215e5232e", func := "stonecrop/stonecroplaw14.SchemaKeeps", spec := "schemaKeeps", inPlace := ["internal/bytealg.IndexByteString"], unfollowed := true, recurses := true, named := ["stonecrop/crc.halves"], plainKeys := false, apart := false, laid := [("stonecrop/crc.halves", laid_stonecrop_crc_halves)], narrowed := true }
def SchemaKeepsUptoSaid : Prop := schemaKeepsUptoRow.holds Tryz.pinned (OpenSpec.upto schemaKeepsSpec)

/-- 'stonecroplaw14.SchemaFresh', WHERE WHAT IT READS IS OF BULK AT MOST 1048576: true; the input reads as it did. -/
def schemaFreshUptoRow : OpenClaim := { program := "ytkejjdoaljoooaagreatdoor", sum := "8f9a2496b4fc896b255bc19b5e4150412d48b8d54d9ca036f9f1b57215e5232e", func := "stonecrop/stonecroplaw14.SchemaFresh", spec := "schemaFresh", inPlace := ["internal/bytealg.IndexByteString"], unfollowed := true, recurses := true, named := ["stonecrop/crc.halves"], plainKeys := false, apart := false, laid := [("stonecrop/crc.halves", laid_stonecrop_crc_halves)], narrowed := true }
def SchemaFreshUptoSaid : Prop := schemaFreshUptoRow.holds Tryz.pinned (OpenSpec.upto schemaFreshSpec)

end Rows
end Go.Proofs.YtkejjdoaljoooaaGreatDoor
