/-
  Texts of earlier layers, as one.
-/
import Derived.Test.YthkbmmebfkaphaaDoorLogPlain
import Derived.Test.YthkbmmebfkaphaaDoorDskLow
import Derived.Test.YthkbmmebfkaphaaDoorLogForm
/- What the deeds of a log come to on a plain disk; plain mathematics, of no program. -/
namespace Go.Proofs.YthkbmmebfkaphaaDoor.Lg
open Dsk

def nlog : ByteArray := ⟨#[108, 111, 103]⟩
def nfix : ByteArray := ⟨#[108, 111, 103, 46, 102, 105, 120]⟩
theorem name_log : isName nlog = true := by decide
theorem name_fix : isName nfix = true := by decide
theorem ne_lf : eqn nlog nfix = false := by rw [eqn_eq]; decide
theorem ne_fl : eqn nfix nlog = false := by rw [eqn_eq]; decide
theorem gt_lf : gtn nlog nfix = false := by rw [gtn_eq]; decide
/-- A disk with a log alone, or with nothing. -/
def st (ex : Bool) (S T : List Nat) (k : Int) (dn : Bool) : Dk := ⟨if ex = true then [⟨nlog, S, T⟩] else [], 10000, k, dn⟩
theorem st_new : newDk 10000 = st false [] [] (-1) false := rfl
theorem used_st (ex : Bool) (S T : List Nat) (k : Int) (dn : Bool) : used (st ex S T k dn).fs = if ex = true then S.length + T.length else 0 := by
  cases ex
  · rfl
  · simp [st, used, Fl.len]
theorem fine_st {ex : Bool} {S T : List Nat} {k : Int} {dn : Bool} (h : S.length + T.length ≤ 10000) (hk : -1 ≤ k ∧ k ≤ 100) : Fine (st ex S T k dn) := by
  have hu := used_st ex S T k dn
  refine ⟨⟨by show (0 : Int) ≤ 10000; decide, ?_, ?_⟩, by show (10000 : Int) ≤ _; decide, by show _ ≤ k; omega, by show k ≤ _; omega⟩
  · rw [hu]
    show _ ≤ (10000 : Int)
    split <;> omega
  · cases ex <;> simp [st]
theorem add_up {ex : Bool} {S T b : List Nat} {k : Int} (hx : ex = false → S = [] ∧ T = []) (hk : k ≠ 0) (hb : S.length + T.length + b.length ≤ 10000) :
    whole (doAppend nlog b) (st ex S T k false) = (0, st true S (T ++ b) (if 0 < k then k - 1 else k) false) := by
  rw [whole_up rfl hk]
  have hd : deed (st ex S T k false) = st ex S T (if 0 < k then k - 1 else k) false := by
    unfold deed
    rw [if_neg (by simp [fails, st, hk])]
    split
    · rename_i h; rw [if_pos (by exact h)]; rfl
    · rename_i h; rw [if_neg (by exact h)]
  rw [hd]
  cases ex
  · obtain ⟨rfl, rfl⟩ := hx rfl
    rw [append_new name_log (by rw [used_st]; simp; show (b.length : Int) ≤ 10000; simp at hb; omega) rfl (by simp [st])]
    rfl
  · rw [append_old name_log (i := 0) (by rw [used_st]; simp; show _ ≤ (10000 : Int); omega) (by simp [st, place_cons, eqn_self])]
    rfl
theorem sync_up {ex : Bool} {S T : List Nat} (hx : ex = false → S = [] ∧ T = []) : whole (doSync nlog) (st ex S T (-1) false) = (if ex = true then 0 else 8, st ex (S ++ T) [] (-1) false) := by
  rw [whole_up rfl (show (-1 : Int) ≠ 0 by decide), deed_none rfl rfl]
  cases ex
  · obtain ⟨rfl, rfl⟩ := hx rfl
    rfl
  · simp [st, doSync, place_cons, eqn_self, Fl.all]
theorem cut_up {S : List Nat} {n : Nat} (h : n ≤ S.length) : whole (doCut nlog (n : Int)) (st true S [] (-1) false) = (0, st true (S.take n) [] (-1) false) := by
  rw [whole_up rfl (show (-1 : Int) ≠ 0 by decide), deed_none rfl rfl]
  unfold doCut
  simp only [st, if_true, place_cons, eqn_self]
  rw [if_neg]
  · simp [Fl.all]
  · simp [Fl.all]
    omega
theorem boot_st (ex : Bool) (S T : List Nat) (k keep : Int) (dn : Bool) (hx : ex = false → S = [] ∧ T = []) : ∃ kk, boot [keep] (st ex S T k dn) = st ex (S ++ T.take kk) [] (-1) false := by
  cases ex
  · obtain ⟨rfl, rfl⟩ := hx rfl
    exact ⟨0, rfl⟩
  · by_cases hT : T = []
    · subst hT
      refine ⟨0, ?_⟩
      simp [boot, st, bootFs]
    · refine ⟨(max 0 (min keep (T.length : Int))).toNat, ?_⟩
      simp [boot, st, bootFs, hT]
theorem read_st {ex : Bool} {S : List Nat} {k : Int} (hx : ex = false → S = []) : Dsk.read nlog (st ex S [] k false) = (S, if ex = true then 0 else 8) := by
  cases ex
  · rw [hx rfl]; rfl
  · simp [Dsk.read, st, place_cons, eqn_self, Fl.all]
/-- What the adds under a fuse come to. -/
def under (ex : Bool) (A : List Nat) (b : List (List Nat)) (n k : Nat) : Dk := st (ex || decide (0 < min k n)) A (forms (b.take (min k n))) ((n : Int) - ((min k n : Nat) : Int)) (decide (n < k))
theorem under_zero (ex : Bool) (A : List Nat) (b : List (List Nat)) (n : Nat) : under ex A b n 0 = st ex A [] (n : Int) false := by
  unfold under
  simp [forms]
theorem under_next {ex : Bool} {A : List Nat} {b : List (List Nat)} {n k : Nat} {p : List Nat} (hx : ex = false → A = []) (hp : b[k]? = some p) (hb : A.length + (forms b).length ≤ 10000) : (whole (doAppend nlog (form p)) (under ex A b n k)).2 = under ex A b n (k + 1) := by
  have hsub : ∀ j, forms (b.take (j)) ++ forms (b.drop j) = forms b := fun j => by rw [← forms_append, List.take_append_drop]
  by_cases hk : k < n
  · have e1 : min k n = k := by omega
    have e2 : min (k + 1) n = k + 1 := by omega
    have e3 : forms (b.take (k + 1)) = forms (b.take k) ++ form p := by rw [List.take_add_one, hp, forms_append]; simp [forms]
    have hl := congrArg List.length (hsub (k + 1))
    rw [e3, List.length_append, List.length_append] at hl
    unfold under
    rw [e1, e2, show decide (n < k) = false from decide_eq_false (by omega), show decide (n < k + 1) = false from decide_eq_false (by omega)]
    rw [add_up (fun h => ?_) (by omega) (by omega), ← e3]
    · simp only [Nat.zero_lt_succ, decide_true, Bool.or_true]
      rw [if_pos (by omega)]
      have e4 : (n : Int) - (k : Int) - 1 = (n : Int) - ((k + 1 : Nat) : Int) := by omega
      rw [e4]
    · rw [Bool.or_eq_false_iff] at h
      have hk0 : k = 0 := by have := of_decide_eq_false h.2; omega
      subst hk0
      exact ⟨hx h.1, rfl⟩
  · have e1 : min k n = n := by omega
    have e2 : min (k + 1) n = n := by omega
    unfold under
    rw [e1, e2, whole_fails (.inr (by show (n : Int) - (n : Int) = 0; omega)), show decide (n < k + 1) = true from decide_eq_true (by omega)]
    rfl
/-- What a file that is written anew comes to. -/
def writes (b : List Nat) (d : Dk) : Nat × Dk :=
  if fg (whole (doRemove nfix) d).1 ≠ 0 then (fg (whole (doRemove nfix) d).1, (whole (doRemove nfix) d).2) else
  if (whole (doAppend nfix b) (whole (doRemove nfix) d).2).1 ≠ 0 then whole (doAppend nfix b) (whole (doRemove nfix) d).2 else
  if (whole (doSync nfix) (whole (doAppend nfix b) (whole (doRemove nfix) d).2).2).1 ≠ 0 then whole (doSync nfix) (whole (doAppend nfix b) (whole (doRemove nfix) d).2).2 else
  whole (doMove nfix nlog) (whole (doSync nfix) (whole (doAppend nfix b) (whole (doRemove nfix) d).2).2).2
theorem fine_whole {f : Dk → Nat × Dk} {d : Dk} (h : Fine d) (hf : ∀ d, Fine d → Fine (f d).2) : Fine (whole f d).2 := by
  unfold whole
  split
  · exact h.deed
  · exact hf _ h.deed
theorem fine_remove (s : ByteArray) {d : Dk} (h : Fine d) : Fine (doRemove s d).2 := by
  have hf := fits_remove h.1 s
  unfold doRemove at hf ⊢
  split
  · exact h
  · rename_i hp; rw [hp] at hf; exact ⟨hf, h.2⟩
theorem fine_append (s : ByteArray) (b : List Nat) {d : Dk} (h : Fine d) : Fine (doAppend s b d).2 := by
  have hf := fits_append h.1 s b
  have hr : (doAppend s b d).2.room = d.room ∧ (doAppend s b d).2.fuse = d.fuse := by
    unfold doAppend
    split
    · exact ⟨rfl, rfl⟩
    split
    · exact ⟨rfl, rfl⟩
    split
    · split <;> exact ⟨rfl, rfl⟩
    · exact ⟨rfl, rfl⟩
  exact ⟨hf, by rw [hr.1]; exact h.2.1, by rw [hr.2]; exact h.2.2.1, by rw [hr.2]; exact h.2.2.2⟩
theorem fine_sync (s : ByteArray) {d : Dk} (h : Fine d) : Fine (doSync s d).2 := by
  have hf := fits_sync h.1 s
  have hr : (doSync s d).2.room = d.room ∧ (doSync s d).2.fuse = d.fuse := by
    unfold doSync
    split <;> exact ⟨rfl, rfl⟩
  exact ⟨hf, by rw [hr.1]; exact h.2.1, by rw [hr.2]; exact h.2.2.1, by rw [hr.2]; exact h.2.2.2⟩
/-- The first file that is written. -/
theorem writes_first {b : List Nat} (hb : b.length ≤ 10000) : writes b (newDk 10000) = (0, st true b [] (-1) false) := by
  have e1 : whole (doRemove nfix) (newDk 10000) = (8, newDk 10000) := rfl
  have e2 : whole (doAppend nfix b) (newDk 10000) = (0, ⟨[⟨nfix, [], b⟩], 10000, -1, false⟩) := by
    rw [whole_up rfl (show (-1 : Int) ≠ 0 by decide), deed_none rfl rfl, append_new name_fix (by show ((0 : Nat) : Int) + (b.length : Int) ≤ 10000; omega) rfl (by decide)]
    rfl
  have e3 : whole (doSync nfix) ⟨[⟨nfix, [], b⟩], 10000, -1, false⟩ = (0, ⟨[⟨nfix, b, []⟩], 10000, -1, false⟩) := first_sync
  have e4 : whole (doMove nfix nlog) ⟨[⟨nfix, b, []⟩], 10000, -1, false⟩ = (0, st true b [] (-1) false) := by
    rw [whole_up rfl (show (-1 : Int) ≠ 0 by decide), deed_none rfl rfl]
    unfold doMove
    simp only [place_cons, eqn_self, if_true]
    rw [if_neg (by simp [name_log])]
    simp [drop, eqn_self, put, Fl.all, st]
  unfold writes
  rw [e1]
  simp only [show fg 8 = 0 from rfl, ne_eq, not_true_eq_false, if_false, e2, e3, e4]
theorem deed_burn {d : Dk} (h1 : d.dn = false) (h2 : 0 < d.fuse) : deed d = { d with fuse := d.fuse - 1 } := by
  unfold deed fails
  rw [h1, decide_eq_false (by omega : ¬ d.fuse = 0)]
  simp [h2]
theorem whole_burn {f : Dk → Nat × Dk} {d : Dk} (h1 : d.dn = false) (h2 : 0 < d.fuse) : whole f d = f { d with fuse := d.fuse - 1 } := by
  rw [whole_up h1 (by omega), deed_burn h1 h2]
theorem rem_none {A : List Nat} {k : Int} : doRemove nfix (st true A [] k false) = (8, st true A [] k false) := by simp [doRemove, st, place_cons, ne_lf, place_nil]
theorem app_new {A b : List Nat} {k : Int} (h : A.length + b.length ≤ 10000) : doAppend nfix b (st true A [] k false) = (0, ⟨[⟨nlog, A, []⟩, ⟨nfix, [], b⟩], 10000, k, false⟩) := by
  rw [append_new name_fix (by rw [used_st]; simp; show _ ≤ (10000 : Int); omega) (by simp [st, place_cons, ne_lf, place_nil]) (by simp [st])]
  simp [st, put, gt_lf]
theorem sync_two {A b c : List Nat} {k : Int} : doSync nfix ⟨[⟨nlog, A, []⟩, ⟨nfix, b, c⟩], 10000, k, false⟩ = (0, ⟨[⟨nlog, A, []⟩, ⟨nfix, b ++ c, []⟩], 10000, k, false⟩) := by
  simp [doSync, place_cons, ne_lf, eqn_self, Fl.all]
theorem move_two {A b : List Nat} {k : Int} : doMove nfix nlog ⟨[⟨nlog, A, []⟩, ⟨nfix, b, []⟩], 10000, k, false⟩ = (0, st true b [] k false) := by
  unfold doMove
  simp only [place_cons, ne_lf, eqn_self, place_nil, Bool.false_eq_true, if_false, if_true, Option.map_some]
  rw [if_neg (by simp [name_log])]
  simp [drop, eqn_self, ne_lf, put, Fl.all, st]
/-- What a file that is written anew leaves, wherever the power fails, and comes back. -/
theorem writes_end {A b : List Nat} (h : A.length + b.length ≤ 10000) {n : Nat} (hn : n < 6) (keep : Int) :
    ∃ r d2, writes b (st true A [] (n : Int) false) = r ∧ boot [keep] r.2 = d2 ∧ Fine r.2 ∧ Fine d2 ∧ ((r.1 = 0 ∧ Dsk.read nlog d2 = (b, 0)) ∨ (r.1 = 15 ∧ Dsk.read nlog d2 = (A, 0))) := by
  have hrd : ∀ (f : Fl) (r : List Fl), f.nm = nlog → Dsk.read nlog ⟨f :: r, 10000, -1, false⟩ = (f.all, 0) := fun f r hf => by
    unfold Dsk.read
    simp only [place_cons, hf, eqn_self, if_true, Bool.false_eq_true, if_false]
    rfl
  have hf2 : ∀ (T U : List Nat) (k : Int) (dn : Bool), A.length + (T.length + U.length) ≤ 10000 → -1 ≤ k ∧ k ≤ 100 → Fine ⟨[⟨nlog, A, []⟩, ⟨nfix, T, U⟩], 10000, k, dn⟩ := fun T U k dn hl hk => by
    refine ⟨⟨by show (0 : Int) ≤ 10000; decide, ?_, by simp⟩, by show (10000 : Int) ≤ _; decide, by show _ ≤ k; omega, by show k ≤ _; omega⟩
    show ((used [⟨nlog, A, []⟩, ⟨nfix, T, U⟩] : Nat) : Int) ≤ 10000
    simp only [used, Fl.len, List.length_nil]
    omega
  have hn6 : n = 0 ∨ n = 1 ∨ n = 2 ∨ n = 3 ∨ n = 4 ∨ n = 5 := by omega
  have good : ∀ k : Int, 0 ≤ k → k ≤ 100 → writes b (st true A [] (k + 4) false) = (0, st true b [] k false) := fun k h0 h1 => by
    have e1 : whole (doRemove nfix) (st true A [] (k + 4) false) = (8, st true A [] (k + 3) false) := by
      rw [whole_burn rfl (by show 0 < k + 4; omega)]
      show doRemove nfix (st true A [] (k + 4 - 1) false) = _
      rw [rem_none, show k + 4 - 1 = k + 3 by omega]
    have e2 : whole (doAppend nfix b) (st true A [] (k + 3) false) = (0, ⟨[⟨nlog, A, []⟩, ⟨nfix, [], b⟩], 10000, k + 2, false⟩) := by
      rw [whole_burn rfl (by show 0 < k + 3; omega)]
      show doAppend nfix b (st true A [] (k + 3 - 1) false) = _
      rw [app_new h, show k + 3 - 1 = k + 2 by omega]
    have e3 : whole (doSync nfix) ⟨[⟨nlog, A, []⟩, ⟨nfix, [], b⟩], 10000, k + 2, false⟩ = (0, ⟨[⟨nlog, A, []⟩, ⟨nfix, b, []⟩], 10000, k + 1, false⟩) := by
      rw [whole_burn rfl (by show 0 < k + 2; omega)]
      show doSync nfix ⟨[⟨nlog, A, []⟩, ⟨nfix, [], b⟩], 10000, k + 2 - 1, false⟩ = _
      rw [sync_two, show k + 2 - 1 = k + 1 by omega, List.nil_append]
    have e4 : whole (doMove nfix nlog) ⟨[⟨nlog, A, []⟩, ⟨nfix, b, []⟩], 10000, k + 1, false⟩ = (0, st true b [] k false) := by
      rw [whole_burn rfl (by show 0 < k + 1; omega)]
      show doMove nfix nlog ⟨[⟨nlog, A, []⟩, ⟨nfix, b, []⟩], 10000, k + 1 - 1, false⟩ = _
      rw [move_two, show k + 1 - 1 = k by omega]
    unfold writes
    rw [e1]
    simp only [show fg 8 = 0 from rfl, ne_eq, not_true_eq_false, if_false, e2, e3, e4]
  have fin : ∀ k : Int, 0 ≤ k → k ≤ 100 → ∃ r d2, writes b (st true A [] (k + 4) false) = r ∧ boot [keep] r.2 = d2 ∧ Fine r.2 ∧ Fine d2 ∧ ((r.1 = 0 ∧ Dsk.read nlog d2 = (b, 0)) ∨ (r.1 = 15 ∧ Dsk.read nlog d2 = (A, 0))) := fun k h0 h1 => by
    refine ⟨_, _, good k h0 h1, rfl, fine_st (by simp only [List.length_nil]; omega) (by omega), ?_, .inl ⟨rfl, ?_⟩⟩
    · show Fine (st true b [] (-1) false)
      exact fine_st (by simp only [List.length_nil]; omega) (by omega)
    · exact (hrd ⟨nlog, b, []⟩ [] rfl).trans (by simp [Fl.all])
  rcases hn6 with rfl | rfl | rfl | rfl | rfl | rfl
  · have e1 : whole (doRemove nfix) (st true A [] ((0 : Nat) : Int) false) = (15, st true A [] 0 true) := whole_fails (.inr rfl)
    refine ⟨(15, st true A [] 0 true), _, ?_, rfl, fine_st (by simp only [List.length_nil]; omega) (by omega), ?_, .inr ⟨rfl, ?_⟩⟩
    · unfold writes
      rw [e1]
      rfl
    · show Fine (st true A [] (-1) false)
      exact fine_st (by simp only [List.length_nil]; omega) (by omega)
    · exact (hrd ⟨nlog, A, []⟩ [] rfl).trans (by simp [Fl.all])
  · have e1 : whole (doRemove nfix) (st true A [] ((1 : Nat) : Int) false) = (8, st true A [] 0 false) := by
      rw [whole_burn rfl (show (0 : Int) < ((1 : Nat) : Int) by decide)]
      exact rem_none
    have e2 : whole (doAppend nfix b) (st true A [] 0 false) = (15, st true A [] 0 true) := whole_fails (.inr rfl)
    refine ⟨(15, st true A [] 0 true), _, ?_, rfl, fine_st (by simp only [List.length_nil]; omega) (by omega), ?_, .inr ⟨rfl, ?_⟩⟩
    · unfold writes
      rw [e1]
      simp only [show fg 8 = 0 from rfl, ne_eq, not_true_eq_false, if_false, e2]
      rfl
    · show Fine (st true A [] (-1) false)
      exact fine_st (by simp only [List.length_nil]; omega) (by omega)
    · exact (hrd ⟨nlog, A, []⟩ [] rfl).trans (by simp [Fl.all])
  · have e1 : whole (doRemove nfix) (st true A [] ((2 : Nat) : Int) false) = (8, st true A [] 1 false) := by
      rw [whole_burn rfl (show (0 : Int) < ((2 : Nat) : Int) by decide)]
      exact rem_none
    have e2 : whole (doAppend nfix b) (st true A [] 1 false) = (0, ⟨[⟨nlog, A, []⟩, ⟨nfix, [], b⟩], 10000, 0, false⟩) := by
      rw [whole_burn rfl (show (0 : Int) < 1 by decide)]
      exact app_new h
    have e3 : whole (doSync nfix) ⟨[⟨nlog, A, []⟩, ⟨nfix, [], b⟩], 10000, 0, false⟩ = (15, ⟨[⟨nlog, A, []⟩, ⟨nfix, [], b⟩], 10000, 0, true⟩) := whole_fails (.inr rfl)
    have hbt : ∃ kk, boot [keep] ⟨[⟨nlog, A, []⟩, ⟨nfix, [], b⟩], 10000, 0, true⟩ = ⟨[⟨nlog, A, []⟩, ⟨nfix, b.take kk, []⟩], 10000, -1, false⟩ := by
      by_cases hb : b = []
      · subst hb
        exact ⟨0, rfl⟩
      · exact ⟨(max 0 (min keep (b.length : Int))).toNat, by simp [boot, bootFs, hb]⟩
    obtain ⟨kk, hbt⟩ := hbt
    refine ⟨(15, ⟨[⟨nlog, A, []⟩, ⟨nfix, [], b⟩], 10000, 0, true⟩), _, ?_, hbt, hf2 _ _ _ _ (by simp only [List.length_nil]; omega) (by omega), hf2 _ _ _ _ (by simp only [List.length_nil, List.length_take]; omega) (by omega), .inr ⟨rfl, ?_⟩⟩
    · unfold writes
      rw [e1]
      simp only [show fg 8 = 0 from rfl, ne_eq, not_true_eq_false, if_false, e2, e3]
      rfl
    · exact (hrd ⟨nlog, A, []⟩ _ rfl).trans (by simp [Fl.all])
  · have e1 : whole (doRemove nfix) (st true A [] ((3 : Nat) : Int) false) = (8, st true A [] 2 false) := by
      rw [whole_burn rfl (show (0 : Int) < ((3 : Nat) : Int) by decide)]
      exact rem_none
    have e2 : whole (doAppend nfix b) (st true A [] 2 false) = (0, ⟨[⟨nlog, A, []⟩, ⟨nfix, [], b⟩], 10000, 1, false⟩) := by
      rw [whole_burn rfl (show (0 : Int) < 2 by decide)]
      exact app_new h
    have e3 : whole (doSync nfix) ⟨[⟨nlog, A, []⟩, ⟨nfix, [], b⟩], 10000, 1, false⟩ = (0, ⟨[⟨nlog, A, []⟩, ⟨nfix, b, []⟩], 10000, 0, false⟩) := by
      rw [whole_burn rfl (show (0 : Int) < 1 by decide)]
      exact sync_two
    have e4 : whole (doMove nfix nlog) ⟨[⟨nlog, A, []⟩, ⟨nfix, b, []⟩], 10000, 0, false⟩ = (15, ⟨[⟨nlog, A, []⟩, ⟨nfix, b, []⟩], 10000, 0, true⟩) := whole_fails (.inr rfl)
    refine ⟨(15, ⟨[⟨nlog, A, []⟩, ⟨nfix, b, []⟩], 10000, 0, true⟩), ⟨[⟨nlog, A, []⟩, ⟨nfix, b, []⟩], 10000, -1, false⟩, ?_, rfl, hf2 _ _ _ _ (by simp only [List.length_nil]; omega) (by omega), hf2 _ _ _ _ (by simp only [List.length_nil]; omega) (by omega), .inr ⟨rfl, ?_⟩⟩
    · unfold writes
      rw [e1]
      simp only [show fg 8 = 0 from rfl, ne_eq, not_true_eq_false, if_false, e2, e3, e4]
    · exact (hrd ⟨nlog, A, []⟩ _ rfl).trans (by simp [Fl.all])
  · exact fin 0 (by decide) (by decide)
  · exact fin 1 (by decide) (by decide)
end Go.Proofs.YthkbmmebfkaphaaDoor.Lg
