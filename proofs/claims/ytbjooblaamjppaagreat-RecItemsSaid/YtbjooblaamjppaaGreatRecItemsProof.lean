/-
  Texts of earlier layers, as one.
-/
import Derived.Test.YtbjooblaamjppaaGreatRows
import Derived.Test.YtbjooblaamjppaaGreatRecItemsWalk
import Derived.Test.YtbjooblaamjppaaGreatRecOpen
import Derived.WalkKit
import Derived.ProofKit
import Derived.OpenShut
import Derived.ShutString
import Derived.ChangeOld
import Derived.Below
/- For every record and every item RecItems answers true, and both read behind the call as they did: a right record's item, and old form, are the document's, and are taken as it was; any item is what it says, or none. No condition but the row's own (its mark 'loops': an item that holds itself is none of its inputs). -/
namespace Go.Proofs.YtbjooblaamjppaaGreat.recItems
open Go.ChangeShapes Go.WideShapes Go.ChangeAt Go.RowKit Mem Ids Att Cod

theorem own : ownKnob Tryz.prog.godebug = none := by kernel_rfl
theorem laidOut : laidOutB Tryz.prog = true := by kernel_rfl

set_option maxRecDepth 100000 in
theorem lifted (os : Os) (started : os.Started) (H : Type) (enc : TypeId × Value → H) :
    ReturnsInHanded {} Tryz.checked os 3 .any (Rows.recItemsSpec.pre6 enc Tryz.prog Tryz.f3 Rows.recItemsRow.domain false) (Rows.recItemsSpec.post enc Tryz.prog Tryz.f3 false true false false) := by
  refine returnsInHanded_of_change_sized (C := Tryz.checked) own started (by kernel_rfl) Tryz.func3
    (ChangeSpec.witness6 (enc := enc) (C := Tryz.checked) false ⟨#[], #[.agg #[.int .i64 0, .int .i64 0, .int .i64 0, .int .i64 0, .int .i64 0, .int .i64 0, .int .i64 0, .int .i64 0, .int .i64 0, .int .i64 0, .string ⟨#[]⟩, .string ⟨#[]⟩, .int .i64 0, .slice none 0 0, .int .i64 0, .int .i64 0], .agg #[.int .i64 0, .int .u64 0, .string ⟨#[]⟩, .slice none 0 0]], []⟩ 8 (by kernel_rfl) (by kernel_rfl) (by kernel_rfl) (by kernel_rfl)) ?_
  intro W base args ds gs before hval0 hW hcnd hsz _
  have hval : ∀ (j : Nat) t v, Tryz.f3.params[j]? = some t → args[j]? = some v → Value.okWide Tryz.prog W .any base t v := hval0
  have hW' := hW
  obtain ⟨p, q, hA0, hV, rfl, hfz, hnd⟩ := hW
  have hA : DataW.TrodAll enc Tryz.prog W 0 (fun _ => true) true Tryz.f3.params.toList args.toList ds p := hA0
  have hsz' : (DataW.weightsEach Tryz.prog (Tryz.f3.params.toList ++ Rows.recItemsSpec.plain.varTypes Tryz.prog) (ds ++ gs)).all (· ≤ reachBytes) = true := hsz
  rw [Tryz.params3] at hA hval hsz'
  obtain ⟨v0, vs0, d0, ds0, p0, q0, hargs, rfl, rfl, h0, r0⟩ := trodAll_cons hA
  obtain ⟨v1, vs1, d1, ds1, p1, q1, rfl, rfl, rfl, h1, r1⟩ := trodAll_cons r0
  obtain ⟨rfl, rfl, rfl⟩ := trodAll_nil r1
  obtain rfl : args = #[v0, v1] := by cases args; simp_all
  obtain ⟨rfl, rfl⟩ := trodVars_none hV
  have k0 := h0
  have lt0 : ∀ x ∈ p0, x.block < W.heap.size := by obtain ⟨m, hm⟩ := k0; exact DataW.trod_lt m _ _ _ hm
  obtain ⟨cs0, rfl, _⟩ := okWide_struct Tryz.underlying32 (hval 0 32 v0 rfl rfl)
  obtain ⟨y0, A0, n0, c0, rfl, h0r⟩ : ∃ (y : Rk.Rc) (A : Option Addr) (n c : Nat), cs0 = #[.int .i64 y.id.1, .int .i64 y.id.2, .int .i64 y.st, .int .i64 y.bl.1, .int .i64 y.bl.2, .int .i64 y.tk.1, .int .i64 y.tk.2, .int .i64 y.cm.kd, .int .i64 y.cm.cl, .int .i64 y.cm.sq, .string y.cm.ky, .string y.cm.vl, .int .i64 y.cm.rv, .slice A n c, .int .i64 y.at_.sq, .int .i64 y.at_.tg] ∧ Rs W A n c y.at_.dp := by
    obtain ⟨fuel, hf⟩ := h0
    obtain ⟨y, A, n, c, e, hr⟩ := Rk.rec_of hf
    exact ⟨y, A, n, c, by cases cs0; simpa [Value.cells] using e, hr⟩
  have k1 := h1
  have lt1 : ∀ x ∈ p1, x.block < W.heap.size := by obtain ⟨m, hm⟩ := k1; exact DataW.trod_lt m _ _ _ hm
  have hd1 : ∀ n ∈ d1.weights Tryz.prog 36, n ≤ reachBytes := fun n hn => by
    have := List.all_eq_true.1 hsz' n (DataW.weights_mem_each (j := 1) (t := 36) (d := d1) rfl rfl n hn)
    simpa using this
  obtain ⟨cs1, rfl, _⟩ := okWide_struct Tryz.underlying36 (hval 1 36 v1 rfl rfl)
  obtain ⟨y1, A1, c1, rfl, h1l⟩ : ∃ (y : It) (A : Option Addr) (c : Nat), cs1 = #[.int .i64 y.kind, .int .u64 (y.num : Int), .string y.str, .slice A y.kids.length c] ∧ Lies W (fun b => b < W.heap.size) y A c := by
    obtain ⟨fuel, hf⟩ := h1
    obtain ⟨y, A, c, e, hL⟩ := item_of fuel _ _ hf hd1
    exact ⟨y, A, c, by cases cs1; simpa [Value.cells] using e, hL⟩
  clear hA0 hval0
  refine (Rk.recitems_true y0.id.1 y0.id.2 y0.st y0.bl.1 y0.bl.2 y0.tk.1 y0.tk.2 y0.cm.kd y0.cm.cl y0.cm.sq y0.cm.ky y0.cm.vl y0.cm.rv A0 n0 c0 y0.at_.sq y0.at_.tg y0.at_.dp y1 A1 c1 W h0r h1l).mono fun e W' ⟨he, bel⟩ => ?_
  subst he
  exact ⟨_, rfl, _, _, _, [], _, [], hW', trodAll_mk1 (shut_bool Tryz.underlying4 _), (trodAll_cons_mk (Below.trod laidOut (by kernel_rfl) (of_decide_eq_true (by kernel_rfl)) k0 bel lt0) (trodAll_cons_mk (Below.trod laidOut (by kernel_rfl) (of_decide_eq_true (by kernel_rfl)) k1 bel lt1) trodAll_mk0)), rfl, bel.frame _, fun h => by cases h⟩

theorem proved : Rows.RecItemsSaid :=
  OpenClaim.holds_of_wide 3 Tryz.f3 rfl rfl rfl rfl rfl rfl rfl ⟨rfl, rfl, rfl, rfl, rfl⟩ rfl rfl rfl rfl rfl (by kernel_rfl) Tryz.func3 (by kernel_rfl)
    (of_decide_eq_true (by kernel_rfl)) (by unfold Func.isWrapper; first | (rw [if_pos (by decide +kernel)]; kernel_rfl) | (rw [if_neg (by decide +kernel)]; exact ⟨rfl, rfl⟩))
    (fun os started H enc _ => lifted os started H enc)
end Go.Proofs.YtbjooblaamjppaaGreat.recItems
