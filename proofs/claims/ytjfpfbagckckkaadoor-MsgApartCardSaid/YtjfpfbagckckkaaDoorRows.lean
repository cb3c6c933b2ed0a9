/-
  NARROWER THAN 'FOR EVERY INPUT', by the rows' own cells (each row's printed sentence says how): MsgFrames: loops, laid · MsgTurned: laid · MsgApart: laid.
  DERIVED. THE GIVEN ROWS OF THIS SEAT. 3 by the template 'for every input the law returns true; each argument reads behind the call as it read before'; 0 by the template 'total and deterministic' (their statements: YtjfpfbagckckkaaDoorTotals.lean).
  GIVEN WITH THE SEED: the statements are not yours to turn. If you find one false, say at which input.
  Laid BY PROGRAM, IN A SANDBOX (cutbox-rows.mjs): the forced cells as the released guide's own fill.sh prints them over the translation 3964a1079350ac8b… (all of the seat's roots in one cut). By AI agents, Wed Nov 11 2026. No macro, syntax, notation, axiom, sorry.
-/
import Derived.Test.YtjfpfbagckckkaaDoorChecked
import GoSem.Claim
import GoSem.ClaimJoined
import GoSem.ClaimMapViews
import Derived.JoinedTies
import Derived.KernelRfl
namespace Go.Proofs.YtjfpfbagckckkaaDoor
/- THE CELL 'sum', in the pinned program and in every row, IS THE sha256 OF THE DUMP (.gsa) THAT YtjfpfbagckckkaaDoorProg.lean LOADS. Nothing in Lean hashes anything: it is a label: what it is worth is what the hold of that sum in a sandbox is worth. -/
noncomputable def Tryd.pinned : Pinned := { name := "ytjfpfbagckckkaadoor", sum := "3964a1079350ac8bde67fb07cccfefc45f0f570d2077763b8141b268a0816421", checked := Tryd.checked }
namespace Rows
def none {H : Type} : Left H := { results := [], args := [] }

/- WHAT THE LISTED PACKAGE-LEVEL VARIABLES READ AS WHEN THE CALL BEGINS. Each datum BY PROGRAM (the guide's laid-datum.mjs) off the statement by which the dump's own 'gosem.cut.vars' lays the variable. In a bare row this is a premise. The card (YtjfpfbagckckkaaDoorCards.lean) ties it to the program's text. -/
def laid_stonecrop_crc_halves {H : Type} : DataW H := .agg [.lit (.int .u32 0), .lit (.int .u32 274646895), .lit (.int .u32 549293790), .lit (.int .u32 820201905), .lit (.int .u32 1098587580), .lit (.int .u32 1361435347), .lit (.int .u32 1640403810), .lit (.int .u32 1905808397), .lit (.int .u32 2197175160), .lit (.int .u32 2460548119), .lit (.int .u32 2722870694), .lit (.int .u32 2987750089), .lit (.int .u32 3280807620), .lit (.int .u32 3553878443), .lit (.int .u32 3811616794), .lit (.int .u32 4084100981)]
def laid_stonecrop_msg_named {H : Type} : DataW H := .agg [.lit (.int .i64 0), .lit (.int .i64 27), .lit (.int .i64 19), .lit (.int .i64 27), .lit (.int .i64 3), .lit (.int .i64 25), .lit (.int .i64 3), .lit (.int .i64 31), .lit (.int .i64 3), .lit (.int .i64 32)]

/-- 'stonecroplaw10.MsgFrames': WHATEVER THE INPUT: true; the input reads as it did. -/
def msgFramesSpec : ChangeSpec := { name := "msgFrames", fn := fun _ => fun
  | [d1, d2] => { results := [.lit (.bool true)], args := [d1, d2] }
  | _ => none }
def msgFramesRow : OpenClaim := { program := "ytjfpfbagckckkaadoor", sum := "3964a1079350ac8bde67fb07cccfefc45f0f570d2077763b8141b268a0816421", func := "stonecrop/stonecroplaw10.MsgFrames", spec := "msgFrames", unfollowed := true, recurses := true, named := ["stonecrop/msg.named", "stonecrop/crc.halves"], loops := true, apart := false, laid := [("stonecrop/crc.halves", laid_stonecrop_crc_halves), ("stonecrop/msg.named", laid_stonecrop_msg_named)] }
def MsgFramesSaid : Prop := msgFramesRow.holds Tryd.pinned (OpenSpec.ofChange msgFramesSpec)

/-- ITS FALSE NEIGHBOUR: 'it returns false'. Refute it at one input. -/
def msgFramesWrong : ChangeSpec := { name := "msgFrames", fn := fun _ => fun
  | [d1, d2] => { results := [.lit (.bool false)], args := [d1, d2] }
  | _ => none }
def MsgFramesWrongFalsely : Prop := msgFramesRow.holds Tryd.pinned (OpenSpec.ofChange msgFramesWrong)

/-- 'stonecroplaw10.MsgTurned': WHATEVER THE INPUT: true; the input reads as it did. -/
def msgTurnedSpec : ChangeSpec := { name := "msgTurned", fn := fun _ => fun
  | [d1, d2, d3, d4] => { results := [.lit (.bool true)], args := [d1, d2, d3, d4] }
  | _ => none }
def msgTurnedRow : OpenClaim := { program := "ytjfpfbagckckkaadoor", sum := "3964a1079350ac8bde67fb07cccfefc45f0f570d2077763b8141b268a0816421", func := "stonecrop/stonecroplaw10.MsgTurned", spec := "msgTurned", unfollowed := true, recurses := true, named := ["stonecrop/msg.named", "stonecrop/crc.halves"], apart := false, laid := [("stonecrop/crc.halves", laid_stonecrop_crc_halves), ("stonecrop/msg.named", laid_stonecrop_msg_named)] }
def MsgTurnedSaid : Prop := msgTurnedRow.holds Tryd.pinned (OpenSpec.ofChange msgTurnedSpec)

/-- ITS FALSE NEIGHBOUR: 'it returns false'. Refute it at one input. -/
def msgTurnedWrong : ChangeSpec := { name := "msgTurned", fn := fun _ => fun
  | [d1, d2, d3, d4] => { results := [.lit (.bool false)], args := [d1, d2, d3, d4] }
  | _ => none }
def MsgTurnedWrongFalsely : Prop := msgTurnedRow.holds Tryd.pinned (OpenSpec.ofChange msgTurnedWrong)

/-- 'stonecroplaw10.MsgApart': WHATEVER THE INPUT: true; the input reads as it did. -/
def msgApartSpec : ChangeSpec := { name := "msgApart", fn := fun _ => fun
  | [d1, d2] => { results := [.lit (.bool true)], args := [d1, d2] }
  | _ => none }
def msgApartRow : OpenClaim := { program := "ytjfpfbagckckkaadoor", sum := "3964a1079350ac8bde67fb07cccfefc45f0f570d2077763b8141b268a0816421", func := "stonecrop/stonecroplaw10.MsgApart", spec := "msgApart", unfollowed := true, recurses := true, named := ["stonecrop/msg.named", "stonecrop/crc.halves"], apart := false, laid := [("stonecrop/crc.halves", laid_stonecrop_crc_halves), ("stonecrop/msg.named", laid_stonecrop_msg_named)] }
def MsgApartSaid : Prop := msgApartRow.holds Tryd.pinned (OpenSpec.ofChange msgApartSpec)

/-- ITS FALSE NEIGHBOUR: 'it returns false'. Refute it at one input. -/
def msgApartWrong : ChangeSpec := { name := "msgApart", fn := fun _ => fun
  | [d1, d2] => { results := [.lit (.bool false)], args := [d1, d2] }
  | _ => none }
def MsgApartWrongFalsely : Prop := msgApartRow.holds Tryd.pinned (OpenSpec.ofChange msgApartWrong)

/- THE SECOND FORM. 'bulk': how many values and letters a reading holds, each counted each time it is reached (what is shared counts as often as it is met; a slice's spare places count too). A statement '..UptoSaid' is the law's where the arguments, and the package variables that the reading takes, are together of bulk at most 1048576: NARROWER than '..Said'. Prove '..Said' where nothing that the law and all that it calls make is longer than what came in: it says more and counts as full. Else prove '..UptoSaid'. A law counts once. -/
mutual
def uptoBulk {H : Type} : DataW H → Nat
  | .lit (.string bytes) => bytes.length + 1
  | .lit _ => 1
  | .nil => 1
  | .ptr d => uptoBulk d + 1
  | .slice elems spare => uptoBulkAll elems + uptoBulkAll spare + 1
  | .agg parts => uptoBulkAll parts + 1
  | .iface _ d => uptoBulk d + 1
  | .map entries => uptoBulkEntries entries + 1
  | .held _ => 1
def uptoBulkAll {H : Type} : List (DataW H) → Nat
  | [] => 0
  | d :: r => uptoBulk d + uptoBulkAll r
def uptoBulkEntries {H : Type} : List (Lit × DataW H) → Nat
  | [] => 0
  | x :: r => uptoBulkEntry x + uptoBulkEntries r
def uptoBulkEntry {H : Type} : Lit × DataW H → Nat
  | (.string bytes, d) => bytes.length + uptoBulk d + 1
  | (_, d) => uptoBulk d + 1
 end
def uptoSmall : (H : Type) → List (DataW H) → Bool := fun _ ds => decide (uptoBulkAll ds ≤ 1048576)
def OpenSpec.upto (s : _root_.Go.ChangeSpec) : _root_.Go.OpenSpec := { _root_.Go.OpenSpec.ofChange s with cond := some uptoSmall }

/-- 'stonecroplaw10.MsgFrames', WHERE WHAT IT READS IS OF BULK AT MOST 1048576: true; the input reads as it did. -/
def msgFramesUptoRow : OpenClaim := { program := "ytjfpfbagckckkaadoor", sum := "3964a1079350ac8bde67fb07cccfefc45f0f570d2077763b8141b268a0816421", func := "stonecrop/stonecroplaw10.MsgFrames", spec := "msgFrames", unfollowed := true, recurses := true, named := ["stonecrop/msg.named", "stonecrop/crc.halves"], loops := true, apart := false, laid := [("stonecrop/crc.halves", laid_stonecrop_crc_halves), ("stonecrop/msg.named", laid_stonecrop_msg_named)], narrowed := true }
def MsgFramesUptoSaid : Prop := msgFramesUptoRow.holds Tryd.pinned (OpenSpec.upto msgFramesSpec)

/-- 'stonecroplaw10.MsgTurned', WHERE WHAT IT READS IS OF BULK AT MOST 1048576: true; the input reads as it did. -/
def msgTurnedUptoRow : OpenClaim := { program := "ytjfpfbagckckkaadoor", sum := "3964a1079350ac8bde67fb07cccfefc45f0f570d2077763b8141b268a0816421", func := "stonecrop/stonecroplaw10.MsgTurned", spec := "msgTurned", unfollowed := true, recurses := true, named := ["stonecrop/msg.named", "stonecrop/crc.halves"], apart := false, laid := [("stonecrop/crc.halves", laid_stonecrop_crc_halves), ("stonecrop/msg.named", laid_stonecrop_msg_named)], narrowed := true }
def MsgTurnedUptoSaid : Prop := msgTurnedUptoRow.holds Tryd.pinned (OpenSpec.upto msgTurnedSpec)

/-- 'stonecroplaw10.MsgApart', WHERE WHAT IT READS IS OF BULK AT MOST 1048576: true; the input reads as it did. -/
def msgApartUptoRow : OpenClaim := { program := "ytjfpfbagckckkaadoor", sum := "3964a1079350ac8bde67fb07cccfefc45f0f570d2077763b8141b268a0816421", func := "stonecrop/stonecroplaw10.MsgApart", spec := "msgApart", unfollowed := true, recurses := true, named := ["stonecrop/msg.named", "stonecrop/crc.halves"], apart := false, laid := [("stonecrop/crc.halves", laid_stonecrop_crc_halves), ("stonecrop/msg.named", laid_stonecrop_msg_named)], narrowed := true }
def MsgApartUptoSaid : Prop := msgApartUptoRow.holds Tryd.pinned (OpenSpec.upto msgApartSpec)

end Rows
end Go.Proofs.YtjfpfbagckckkaaDoor
