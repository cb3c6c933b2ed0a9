/-
  The law CmdReads holds of every two commands (of more than it looks at, and of barriers, it answers true by itself): of two clients, commands that don't write don't meet; what is taken of a right command's item is that command, and right. No condition.
-/
import Derived.Test.YtiiaealbkimlfaaRows
import Derived.Test.YtiiaealbkimlfaaCmdReadsWalk
import Derived.Test.YtiiaealbkimlfaaCmdOpen
import Derived.WalkKit
import Derived.ProofKit
import Derived.OpenShut
import Derived.ShutString
import Derived.ChangeOld
import Derived.Below
namespace Go.Proofs.Ytiiaealbkimlfaa.cmdReads
open Go.ChangeShapes Go.WideShapes Go.ChangeAt Go.RowKit Mem Cmd

theorem own : ownKnob Try.prog.godebug = none := by kernel_rfl
theorem laidOut : laidOutB Try.prog = true := by kernel_rfl

set_option maxRecDepth 100000 in
theorem lifted (os : Os) (started : os.Started) (H : Type) (enc : TypeId × Value → H) :
    ReturnsInHanded {} Try.checked os 6 .any (Rows.cmdReadsSpec.pre6 enc Try.prog Try.f6 Rows.cmdReadsRow.domain false) (Rows.cmdReadsSpec.post enc Try.prog Try.f6 false true false false) := by
  refine returnsInHanded_of_change_sized (C := Try.checked) own started (by kernel_rfl) Try.func6
    (ChangeSpec.witness6 (enc := enc) (C := Try.checked) false ⟨#[], #[.agg #[.int .i64 0, .int .i64 0, .int .i64 0, .string ⟨#[]⟩, .string ⟨#[]⟩, .int .i64 0], .agg #[.int .i64 0, .int .i64 0, .int .i64 0, .string ⟨#[]⟩, .string ⟨#[]⟩, .int .i64 0]], []⟩ 8 (by kernel_rfl) (by kernel_rfl) (by kernel_rfl) (by kernel_rfl)) ?_
  intro W base args ds gs before hval0 hW hcnd _ _
  have hval : ∀ (j : Nat) t v, Try.f6.params[j]? = some t → args[j]? = some v → Value.okWide Try.prog W .any base t v := hval0
  have hW' := hW
  obtain ⟨p, q, hA0, hV, rfl, hfz, hnd⟩ := hW
  have hA : DataW.TrodAll enc Try.prog W 0 (fun _ => true) true Try.f6.params.toList args.toList ds p := hA0
  rw [Try.params6] at hA hval
  obtain ⟨v0, vs0, d0, ds0, p0, q0, hargs, rfl, rfl, h0, r0⟩ := trodAll_cons hA
  obtain ⟨v1, vs1, d1, ds1, p1, q1, rfl, rfl, rfl, h1, r1⟩ := trodAll_cons r0
  obtain ⟨rfl, rfl, rfl⟩ := trodAll_nil r1
  obtain rfl : args = #[v0, v1] := by cases args; simp_all
  obtain ⟨rfl, rfl⟩ := trodVars_none hV
  have k0 := h0
  have lt0 : ∀ x ∈ p0, x.block < W.heap.size := by obtain ⟨m, hm⟩ := k0; exact DataW.trod_lt m _ _ _ hm
  obtain ⟨cs0, rfl, _⟩ := okWide_struct Try.underlying23 (hval 0 23 v0 rfl rfl)
  obtain ⟨y0, rfl, h0b⟩ : ∃ y : Cm, cs0 = #[.int .i64 y.kd, .int .i64 y.cl, .int .i64 y.sq, .string y.ky, .string y.vl, .int .i64 y.rv] ∧ In64 y.kd ∧ In64 y.cl ∧ In64 y.sq ∧ In64 y.rv := by
    obtain ⟨fuel, hf⟩ := h0
    obtain ⟨y, e, hb⟩ := cmd_of hf
    exact ⟨y, by cases cs0; simpa [Value.cells] using e, hb⟩
  have k1 := h1
  have lt1 : ∀ x ∈ p1, x.block < W.heap.size := by obtain ⟨m, hm⟩ := k1; exact DataW.trod_lt m _ _ _ hm
  obtain ⟨cs1, rfl, _⟩ := okWide_struct Try.underlying23 (hval 1 23 v1 rfl rfl)
  obtain ⟨y1, rfl, h1b⟩ : ∃ y : Cm, cs1 = #[.int .i64 y.kd, .int .i64 y.cl, .int .i64 y.sq, .string y.ky, .string y.vl, .int .i64 y.rv] ∧ In64 y.kd ∧ In64 y.cl ∧ In64 y.sq ∧ In64 y.rv := by
    obtain ⟨fuel, hf⟩ := h1
    obtain ⟨y, e, hb⟩ := cmd_of hf
    exact ⟨y, by cases cs1; simpa [Value.cells] using e, hb⟩
  clear hA0 hval0
  refine (cmdreads_true y0.kd y0.cl y0.sq y0.ky y0.vl y0.rv y1.kd y1.cl y1.sq y1.ky y1.vl y1.rv W).mono fun e W' ⟨he, bel⟩ => ?_
  subst he
  exact ⟨_, rfl, _, _, _, [], _, [], hW', trodAll_mk1 (shut_bool Try.underlying4 _), (trodAll_cons_mk (Below.trod laidOut (by kernel_rfl) (of_decide_eq_true (by kernel_rfl)) k0 bel lt0) (trodAll_cons_mk (Below.trod laidOut (by kernel_rfl) (of_decide_eq_true (by kernel_rfl)) k1 bel lt1) trodAll_mk0)), rfl, bel.frame _, fun h => by cases h⟩

theorem proved : Rows.CmdReadsSaid :=
  OpenClaim.holds_of_wide 6 Try.f6 rfl rfl rfl rfl rfl rfl rfl ⟨rfl, rfl, rfl, rfl, rfl⟩ rfl rfl rfl rfl rfl (by kernel_rfl) Try.func6 (by kernel_rfl)
    (of_decide_eq_true (by kernel_rfl)) (by unfold Func.isWrapper; first | (rw [if_pos (by decide +kernel)]; kernel_rfl) | (rw [if_neg (by decide +kernel)]; exact ⟨rfl, rfl⟩))
    (fun os started H enc _ => lifted os started H enc)
end Go.Proofs.Ytiiaealbkimlfaa.cmdReads
