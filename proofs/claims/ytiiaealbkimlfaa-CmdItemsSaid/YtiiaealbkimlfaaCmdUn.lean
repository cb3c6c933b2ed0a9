/-
  cmd.unnamed; whether two commands are the same.
-/
import Derived.Test.YtiiaealbkimlfaaCmdSmall
namespace Go.Proofs.Ytiiaealbkimlfaa
open Go.RowKit Mem Run Cmd

theorem toList_iff (a b : ByteArray) : a.toList = b.toList ↔ bts a = bts b := by
  have h := eq_tell a b
  constructor
  · intro e
    rw [e] at h
    simpa using h
  · intro e
    rw [decide_eq_true e] at h
    simpa using h

theorem eql_cmd (akd acl asq : Int) (aky avl : ByteArray) (arv : Int) (bkd bcl bsq : Int) (bky bvl : ByteArray) (brv : Int) (w : World) : Sem.run Try.prog (binOp .eql 23 (.agg #[.int .i64 akd, .int .i64 acl, .int .i64 asq, .string aky, .string avl, .int .i64 arv]) (.agg #[.int .i64 bkd, .int .i64 bcl, .int .i64 bsq, .string bky, .string bvl, .int .i64 brv])) w = .ok (.bool (eqv ⟨akd, acl, asq, aky, avl, arv⟩ ⟨bkd, bcl, bsq, bky, bvl, brv⟩)) w := by
  have u3 := Try.underlying3
  have a3 := Try.isAgg3
  have z3 := Try.sizeOf3
  have u9 := Try.underlying9
  have a9 := Try.isAgg9
  have z9 := Try.sizeOf9
  have hS : Try.prog.underlying 23 = some (.struct (Try.prog.fieldsOf 23)) := by kernel_rfl
  have hp : Try.prog.stoodInHeld 23 = false := by kernel_rfl
  rw [run_eql_struct, show (10000 : Nat) = 9999 + 1 from rfl, run_equalIn_agg w 9999 23 _ _ hS hp]
  simp only [Program.fieldsOf, Try.underlying23]
  go_simp
  simp only [eqv, toList_iff]
  by_cases h1 : akd = bkd <;> by_cases h2 : acl = bcl <;> by_cases h3 : asq = bsq <;> by_cases h4 : bts aky = bts bky <;> by_cases h5 : bts avl = bts bvl <;> by_cases h6 : arv = brv <;> simp [h1, h2, h3, h4, h5, h6]
theorem neq_cmd (akd acl asq : Int) (aky avl : ByteArray) (arv : Int) (bkd bcl bsq : Int) (bky bvl : ByteArray) (brv : Int) (w : World) : Sem.run Try.prog (binOp .neq 23 (.agg #[.int .i64 akd, .int .i64 acl, .int .i64 asq, .string aky, .string avl, .int .i64 arv]) (.agg #[.int .i64 bkd, .int .i64 bcl, .int .i64 bsq, .string bky, .string bvl, .int .i64 brv])) w = .ok (.bool (!eqv ⟨akd, acl, asq, aky, avl, arv⟩ ⟨bkd, bcl, bsq, bky, bvl, brv⟩)) w := by
  have u3 := Try.underlying3
  have a3 := Try.isAgg3
  have z3 := Try.sizeOf3
  have u9 := Try.underlying9
  have a9 := Try.isAgg9
  have z9 := Try.sizeOf9
  have hS : Try.prog.underlying 23 = some (.struct (Try.prog.fieldsOf 23)) := by kernel_rfl
  have hp : Try.prog.stoodInHeld 23 = false := by kernel_rfl
  rw [run_neq_struct, show (10000 : Nat) = 9999 + 1 from rfl, run_equalIn_agg w 9999 23 _ _ hS hp]
  simp only [Program.fieldsOf, Try.underlying23]
  go_simp
  simp only [eqv, toList_iff]
  by_cases h1 : akd = bkd <;> by_cases h2 : acl = bcl <;> by_cases h3 : asq = bsq <;> by_cases h4 : bts aky = bts bky <;> by_cases h5 : bts avl = bts bvl <;> by_cases h6 : arv = brv <;> simp [h1, h2, h3, h4, h5, h6]
theorem unnamed_any (kd cl sq : Int) (ky vl : ByteArray) (rv : Int) (w : World) :
    Calls Try.prog 21 #[.agg #[.int .i64 kd, .int .i64 cl, .int .i64 sq, .string ky, .string vl, .int .i64 rv]] w fun e w' => ∃ c : Cm, e = .returned (.agg #[.int .i64 c.kd, .int .i64 c.cl, .int .i64 c.sq, .string c.ky, .string c.vl, .int .i64 c.rv]) ∧ c = un ⟨kd, cl, sq, ky, vl, rv⟩ ∧ Below w.heap.size w w' := by
  go_enter Try.func21, Try.ntmps21
  go_wp2_with fail
  all_goals
    refine bodyPost_ret (v := .agg #[.int .i64 (un ⟨kd, cl, sq, ky, vl, rv⟩).kd, .int .i64 (un ⟨kd, cl, sq, ky, vl, rv⟩).cl, .int .i64 (un ⟨kd, cl, sq, ky, vl, rv⟩).sq, .string (un ⟨kd, cl, sq, ky, vl, rv⟩).ky, .string (un ⟨kd, cl, sq, ky, vl, rv⟩).vl, .int .i64 (un ⟨kd, cl, sq, ky, vl, rv⟩).rv]) (by simp_all [results, Try.results21, go_sem, un, zeroCm]) rfl ⟨un ⟨kd, cl, sq, ky, vl, rv⟩, rfl, rfl, bel_alloc (bel_alloc (Below.refl _ _) _) _⟩
end Go.Proofs.Ytiiaealbkimlfaa
