/-
  For any three that come in, AttrThree answers true, and all read as they did: three that are joined are the same, whichever two are joined first. No condition.
-/
import Derived.Test.YtccbkpdkmdnmfaaRows
import Derived.Test.YtccbkpdkmdnmfaaAttrThreeWalk
import Derived.Test.YtccbkpdkmdnmfaaAttOpen
import Derived.WalkKit
import Derived.ProofKit
import Derived.OpenShut
import Derived.ShutString
import Derived.ChangeOld
import Derived.Below
namespace Go.Proofs.Ytccbkpdkmdnmfaa.attrThree
open Go.ChangeShapes Go.WideShapes Go.ChangeAt Go.RowKit Mem Ids Att

theorem own : ownKnob Try.prog.godebug = none := by kernel_rfl
theorem laidOut : laidOutB Try.prog = true := by kernel_rfl

set_option maxRecDepth 100000 in
theorem lifted (os : Os) (started : os.Started) (H : Type) (enc : TypeId × Value → H) :
    ReturnsInHanded {} Try.checked os 6 .any (Rows.attrThreeSpec.pre6 enc Try.prog Try.f6 Rows.attrThreeRow.domain false) (Rows.attrThreeSpec.post enc Try.prog Try.f6 false true false false) := by
  refine returnsInHanded_of_change_sized (C := Try.checked) own started (by kernel_rfl) Try.func6
    (ChangeSpec.witness6 (enc := enc) (C := Try.checked) false ⟨#[], #[.agg #[.slice none 0 0, .int .i64 0, .int .i64 0], .agg #[.slice none 0 0, .int .i64 0, .int .i64 0], .agg #[.slice none 0 0, .int .i64 0, .int .i64 0]], []⟩ 8 (by kernel_rfl) (by kernel_rfl) (by kernel_rfl) (by kernel_rfl)) ?_
  intro W base args ds gs before hval0 hW hcnd _ _
  have hval : ∀ (j : Nat) t v, Try.f6.params[j]? = some t → args[j]? = some v → Value.okWide Try.prog W .any base t v := hval0
  have hW' := hW
  obtain ⟨p, q, hA0, hV, rfl, hfz, hnd⟩ := hW
  have hA : DataW.TrodAll enc Try.prog W 0 (fun _ => true) true Try.f6.params.toList args.toList ds p := hA0
  rw [Try.params6] at hA hval
  obtain ⟨v0, vs0, d0, ds0, p0, q0, hargs, rfl, rfl, h0, r0⟩ := trodAll_cons hA
  obtain ⟨v1, vs1, d1, ds1, p1, q1, rfl, rfl, rfl, h1, r1⟩ := trodAll_cons r0
  obtain ⟨v2, vs2, d2, ds2, p2, q2, rfl, rfl, rfl, h2, r2⟩ := trodAll_cons r1
  obtain ⟨rfl, rfl, rfl⟩ := trodAll_nil r2
  obtain rfl : args = #[v0, v1, v2] := by cases args; simp_all
  obtain ⟨rfl, rfl⟩ := trodVars_none hV
  have k0 := h0
  have lt0 : ∀ x ∈ p0, x.block < W.heap.size := by obtain ⟨m, hm⟩ := k0; exact DataW.trod_lt m _ _ _ hm
  obtain ⟨cs0, rfl, _⟩ := okWide_struct Try.underlying24 (hval 0 24 v0 rfl rfl)
  obtain ⟨y0, A0, n0, c0, rfl, h0r⟩ : ∃ (y : At) (A : Option Addr) (n c : Nat), cs0 = #[.slice A n c, .int .i64 y.sq, .int .i64 y.tg] ∧ Rs W A n c y.dp := by
    obtain ⟨fuel, hf⟩ := h0
    obtain ⟨y, A, n, c, e, hr⟩ := att_of hf
    exact ⟨y, A, n, c, by cases cs0; simpa [Value.cells] using e, hr⟩
  have k1 := h1
  have lt1 : ∀ x ∈ p1, x.block < W.heap.size := by obtain ⟨m, hm⟩ := k1; exact DataW.trod_lt m _ _ _ hm
  obtain ⟨cs1, rfl, _⟩ := okWide_struct Try.underlying24 (hval 1 24 v1 rfl rfl)
  obtain ⟨y1, A1, n1, c1, rfl, h1r⟩ : ∃ (y : At) (A : Option Addr) (n c : Nat), cs1 = #[.slice A n c, .int .i64 y.sq, .int .i64 y.tg] ∧ Rs W A n c y.dp := by
    obtain ⟨fuel, hf⟩ := h1
    obtain ⟨y, A, n, c, e, hr⟩ := att_of hf
    exact ⟨y, A, n, c, by cases cs1; simpa [Value.cells] using e, hr⟩
  have k2 := h2
  have lt2 : ∀ x ∈ p2, x.block < W.heap.size := by obtain ⟨m, hm⟩ := k2; exact DataW.trod_lt m _ _ _ hm
  obtain ⟨cs2, rfl, _⟩ := okWide_struct Try.underlying24 (hval 2 24 v2 rfl rfl)
  obtain ⟨y2, A2, n2, c2, rfl, h2r⟩ : ∃ (y : At) (A : Option Addr) (n c : Nat), cs2 = #[.slice A n c, .int .i64 y.sq, .int .i64 y.tg] ∧ Rs W A n c y.dp := by
    obtain ⟨fuel, hf⟩ := h2
    obtain ⟨y, A, n, c, e, hr⟩ := att_of hf
    exact ⟨y, A, n, c, by cases cs2; simpa [Value.cells] using e, hr⟩
  clear hA0 hval0
  refine (attrthree_true y0.dp y0.sq y0.tg A0 n0 c0 y1.dp y1.sq y1.tg A1 n1 c1 y2.dp y2.sq y2.tg A2 n2 c2 W h0r h1r h2r).mono fun e W' ⟨he, bel⟩ => ?_
  subst he
  exact ⟨_, rfl, _, _, _, [], _, [], hW', trodAll_mk1 (shut_bool Try.underlying4 _), (trodAll_cons_mk (Below.trod laidOut (by kernel_rfl) (of_decide_eq_true (by kernel_rfl)) k0 bel lt0) (trodAll_cons_mk (Below.trod laidOut (by kernel_rfl) (of_decide_eq_true (by kernel_rfl)) k1 bel lt1) (trodAll_cons_mk (Below.trod laidOut (by kernel_rfl) (of_decide_eq_true (by kernel_rfl)) k2 bel lt2) trodAll_mk0))), rfl, bel.frame _, fun h => by cases h⟩

theorem proved : Rows.AttrThreeSaid :=
  OpenClaim.holds_of_wide 6 Try.f6 rfl rfl rfl rfl rfl rfl rfl ⟨rfl, rfl, rfl, rfl, rfl⟩ rfl rfl rfl rfl rfl (by kernel_rfl) Try.func6 (by kernel_rfl)
    (of_decide_eq_true (by kernel_rfl)) (by unfold Func.isWrapper; first | (rw [if_pos (by decide +kernel)]; kernel_rfl) | (rw [if_neg (by decide +kernel)]; exact ⟨rfl, rfl⟩))
    (fun os started H enc _ => lifted os started H enc)
end Go.Proofs.Ytccbkpdkmdnmfaa.attrThree
