/-
  ballot.Right, Less, First and Next; the model's '==' of two ballots.
-/
import Derived.Test.YtjofkonnpfglhaaBalPlain
import Derived.Test.YtjofkonnpfglhaaMem
import Derived.Test.YtjofkonnpfglhaaChecked
import Derived.Laws.StructEq
import Derived.WideLaws
namespace Go.Proofs.Ytjofkonnpfglhaa.Bal
open Go.RowKit Mem

theorem eql_bal (a b : Int × Int) (w : World) : Sem.run Try.prog (binOp .eql 23 (.agg #[.int .i64 a.1, .int .i64 a.2]) (.agg #[.int .i64 b.1, .int .i64 b.2])) w = .ok (.bool (decide (a = b))) w := by
  have u3 := Try.underlying3
  have a3 := Try.isAgg3
  have z3 := Try.sizeOf3
  have hS : Try.prog.underlying 23 = some (.struct (Try.prog.fieldsOf 23)) := by kernel_rfl
  have hp : Try.prog.stoodInHeld 23 = false := by kernel_rfl
  rw [run_eql_struct, show (10000 : Nat) = 9999 + 1 from rfl, run_equalIn_agg w 9999 23 _ _ hS hp]
  simp only [Program.fieldsOf, Try.underlying23]
  go_simp
  obtain ⟨a1, a2⟩ := a
  obtain ⟨b1, b2⟩ := b
  by_cases h1 : a1 = b1 <;> by_cases h2 : a2 = b2 <;> simp [h1, h2]
theorem neq_bal (a b : Int × Int) (w : World) : Sem.run Try.prog (binOp .neq 23 (.agg #[.int .i64 a.1, .int .i64 a.2]) (.agg #[.int .i64 b.1, .int .i64 b.2])) w = .ok (.bool (!decide (a = b))) w := by
  have u3 := Try.underlying3
  have a3 := Try.isAgg3
  have z3 := Try.sizeOf3
  have hS : Try.prog.underlying 23 = some (.struct (Try.prog.fieldsOf 23)) := by kernel_rfl
  have hp : Try.prog.stoodInHeld 23 = false := by kernel_rfl
  rw [run_neq_struct, show (10000 : Nat) = 9999 + 1 from rfl, run_equalIn_agg w 9999 23 _ _ hS hp]
  simp only [Program.fieldsOf, Try.underlying23]
  go_simp
  obtain ⟨a1, a2⟩ := a
  obtain ⟨b1, b2⟩ := b
  by_cases h1 : a1 = b1 <;> by_cases h2 : a2 = b2 <;> simp [h1, h2]

set_option maxHeartbeats 1000000 in
theorem less_any (a b : Int × Int) (w : World) :
    Calls Try.prog 5 #[.agg #[.int .i64 a.1, .int .i64 a.2], .agg #[.int .i64 b.1, .int .i64 b.2]] w (Tells (less a b) w) := by
  obtain ⟨t, ht⟩ : ∃ t, less a b = t := ⟨_, rfl⟩
  rw [ht]
  have HT := Lib.hid ht
  clear ht
  have heq := eql_bal a b
  have HG := Lib.hid (fun o1 o2 : Obj => (bel_alloc (bel_alloc (Below.refl _ w) o1) o2))
  obtain ⟨a1, a2⟩ := a
  obtain ⟨b1, b2⟩ := b
  simp only at heq
  by_cases h0 : a1 = b1
  · subst h0
    by_cases h2 : a2 = b2
    · subst h2
      rw [decide_eq_true rfl] at heq
      go_enter Try.func5, Try.ntmps5
      go_wp2
      go_ret
      refine ⟨?_, HG.out _ _⟩
      rw [← HT.out]
      simp [less]
    · rw [decide_eq_false (by simp [h2])] at heq
      go_enter Try.func5, Try.ntmps5
      go_wp2
      go_ret
      refine ⟨?_, HG.out _ _⟩
      rw [← HT.out]
      simp [less]
  · rw [decide_eq_false (by simp [h0])] at heq
    go_enter Try.func5, Try.ntmps5
    go_wp2
    go_ret
    refine ⟨?_, HG.out _ _⟩
    rw [← HT.out]
    simp [less, h0]
set_option maxHeartbeats 1000000 in
theorem right_any (a : Int × Int) (w : World) :
    Calls Try.prog 7 #[.agg #[.int .i64 a.1, .int .i64 a.2]] w (Tells (right a) w) := by
  obtain ⟨t, ht⟩ : ∃ t, right a = t := ⟨_, rfl⟩
  rw [ht]
  have HT := Lib.hid ht
  clear ht
  obtain ⟨a1, a2⟩ := a
  have HG := Lib.hid (fun o1 : Obj => (bel_alloc (Below.refl _ w) o1))
  go_enter Try.func7, Try.ntmps7
  by_cases h1 : 0 ≤ a1
  · by_cases h2 : a1 ≤ 1099511627776
    · by_cases h3 : 0 ≤ a2
      · by_cases h4 : a2 < 7
        · go_wp2
          go_ret
          refine ⟨?_, HG.out _⟩
          rw [← HT.out]
          simp [right]
          omega
        · go_wp2
          go_ret
          refine ⟨?_, HG.out _⟩
          rw [← HT.out]
          simp [right]
          omega
      · go_wp2
        go_ret
        refine ⟨?_, HG.out _⟩
        rw [← HT.out]
        simp [right]
        omega
    · go_wp2
      go_ret
      refine ⟨?_, HG.out _⟩
      rw [← HT.out]
      simp [right]
      omega
  · go_wp2
    go_ret
    refine ⟨?_, HG.out _⟩
    rw [← HT.out]
    simp [right]
    omega
set_option maxHeartbeats 1000000 in
theorem first_any (y : Int) (w : World) :
    Calls Try.prog 9 #[.int .i64 y] w fun e w' => e = .returned (.agg #[.int .i64 0, .int .i64 y]) ∧ Below w.heap.size w w' := by
  have HG := Lib.hid (fun o1 : Obj => (bel_alloc (Below.refl _ w) o1))
  go_enter Try.func9, Try.ntmps9
  go_wp2_with fail
  refine bodyPost_ret (v := .agg #[.int .i64 0, .int .i64 y]) (by simp [results, Try.results9, go_sem]) rfl ?_
  exact ⟨rfl, HG.out _⟩
/-- Three boxes just made. -/
theorem three_boxes (w : World) (t : TypeId) (a b c : Array Value) : Blk (((w.alloc (.cells a t)).alloc (.cells b t)).alloc (.cells c t)) w.heap.size t a ∧ Blk (((w.alloc (.cells a t)).alloc (.cells b t)).alloc (.cells c t)) (w.heap.size + 1) t b ∧ Blk (((w.alloc (.cells a t)).alloc (.cells b t)).alloc (.cells c t)) (w.heap.size + 1 + 1) t c ∧ Below w.heap.size w (((w.alloc (.cells a t)).alloc (.cells b t)).alloc (.cells c t)) := by
  have hs1 := size_alloc w (.cells a t)
  have hs2 := size_alloc (w.alloc (.cells a t)) (.cells b t)
  have h2 := Blk.new (w.alloc (.cells a t)) t b
  rw [hs1] at h2
  have h3 := Blk.new ((w.alloc (.cells a t)).alloc (.cells b t)) t c
  rw [hs2, hs1] at h3
  exact ⟨((Blk.new w t a).alloc _).alloc _, h2.alloc _, h3, bel_alloc (bel_alloc (bel_alloc (Below.refl _ w) _) _) _⟩
/-- What stands in a box of two that is written over; what was there ahead of it stays. -/
theorem box_set {w0 w : World} {B g : Nat} {t : TypeId} {a b : Value} (h : Blk w g t #[a, b]) (hb : Below B w0 w) (hg : B ≤ g) (u v : Value) :
    Blk ((w.setCell ⟨g, 0, none⟩ u).setCell ⟨g, 1, none⟩ v) g t #[u, v] ∧ Below B w0 ((w.setCell ⟨g, 0, none⟩ u).setCell ⟨g, 1, none⟩ v) :=
  ⟨(h.put 0 u).put 1 v, (hb.setCell hg u).setCell hg v⟩
/-- The ending of Next. -/
def Nexts (r : (Int × Int) × Bool) (w : World) (e : Ending) (w' : World) : Prop :=
  e = .returned (.tuple #[.agg #[.int .i64 r.1.1, .int .i64 r.1.2], .bool r.2]) ∧ Below w.heap.size w w'
set_option maxHeartbeats 1000000 in
theorem next_any (a : Int × Int) (y : Int) (w : World) (h1 : -9223372036854775808 ≤ a.1) (h2 : a.1 ≤ 9223372036854775807) :
    Calls Try.prog 6 #[.agg #[.int .i64 a.1, .int .i64 a.2], .int .i64 y] w (Nexts (next a y) w) := by
  obtain ⟨a1, a2⟩ := a
  obtain ⟨u, hu⟩ : ∃ u, IntKind.i64.wrap (a1 + 1) = u := ⟨_, rfl⟩
  have hw : right (u, y) = right (a1 + 1, y) ∧ (right (a1 + 1, y) = true → u = a1 + 1) := by
    rcases Int.lt_or_eq_of_le h2 with h3 | h3
    · have e : u = a1 + 1 := by
        rw [← hu]
        simp [IntKind.wrap, IntKind.bits, IntKind.signed]
        simp at h1 h3
        omega
      rw [e]
      exact ⟨rfl, fun _ => rfl⟩
    · simp only at h3
      subst h3
      have e : u = -9223372036854775808 := by
        rw [← hu]
        rfl
      rw [e]
      simp [right]
  obtain ⟨kn, kr, kx, kb⟩ := three_boxes w 23 #[.int .i64 a1, .int .i64 a2] #[.int .i64 0, .int .i64 0] #[.int .i64 u, .int .i64 y]
  have H1 := Lib.hid (fun W => right_any (u, y) W)
  have HK := Lib.hid (And.intro kr (And.intro kx kb))
  have HW := Lib.hid hw
  clear hw kn kr kx kb h1 h2
  go_enter Try.func6, Try.ntmps6
  go_wp2_with fail
  obtain ⟨W, hW⟩ : ∃ W, ((w.alloc (.cells #[.int .i64 a1, .int .i64 a2] 23)).alloc (.cells #[.int .i64 0, .int .i64 0] 23)).alloc (.cells #[.int .i64 u, .int .i64 y] 23) = W := ⟨_, rfl⟩
  rw [hW] at HK ⊢
  clear hW
  refine (H1.out _).mono ?_
  rintro e w1 ⟨rfl, hb1⟩
  obtain ⟨kr, kx, kb⟩ := HK.out
  replace kr := kr.bel hb1
  replace kx := kx.bel hb1
  replace kb := bel_trans kb hb1
  have r0 := kr.soft 0
  have r1 := kr.soft 1
  have x0 := kx.cell 0
  have x1 := kx.cell 1
  have c0 := kr.cell 0
  have c1 := kr.cell 1
  simp at x0 x1 c0 c1
  cases hr : right (a1 + 1, y) with
  | true =>
    have hn : next (a1, a2) y = ((u, y), true) := by rw [next, if_pos hr, HW.out.2 hr]
    have hr' : right (u, y) = true := by rw [HW.out.1, hr]
    have HE := Lib.hid (box_set kr kb (by omega) (.int .i64 u) (.int .i64 y))
    have HN := Lib.hid hn
    rw [hr']
    clear hn hr' hr kr kx kb hb1 HK H1 HW
    go_wp2_with fail
    obtain ⟨kz, hbz⟩ := HE.out
    have z0 := kz.cell 0
    have z1 := kz.cell 1
    simp at z0 z1
    refine bodyPost_ret (v := .tuple #[.agg #[.int .i64 u, .int .i64 y], .bool true]) (by simp [results, Try.results6, go_sem, z0, z1]) rfl ?_
    rw [HN.out]
    exact ⟨rfl, hbz⟩
  | false =>
    have hn : next (a1, a2) y = ((0, 0), false) := by rw [next, if_neg (by rw [hr]; decide)]
    have hr' : right (u, y) = false := by rw [HW.out.1, hr]
    have HE := Lib.hid (box_set kr kb (by omega) (.int .i64 0) (.int .i64 0))
    have HN := Lib.hid hn
    rw [hr']
    clear hn hr' hr kr kx kb hb1 HK H1 HW
    go_wp2_with fail
    obtain ⟨kz, hbz⟩ := HE.out
    have z0 := kz.cell 0
    have z1 := kz.cell 1
    simp at z0 z1
    refine bodyPost_ret (v := .tuple #[.agg #[.int .i64 0, .int .i64 0], .bool false]) (by simp [results, Try.results6, go_sem, z0, z1]) rfl ?_
    rw [HN.out]
    exact ⟨rfl, hbz⟩
end Go.Proofs.Ytjofkonnpfglhaa.Bal
