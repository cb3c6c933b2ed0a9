/-
  Texts of earlier layers, as one.
-/
import Derived.Test.YtgnpnjfoenmfbaaBagKeepsWalk
/- Acts in a row, in memory; what the law of all acts carries; the document's Out. -/
namespace Go.Proofs.Ytgnpnjfoenmfbaa.Bg
open Go.RowKit Mem Dsk

/-- An act, and where its envelope's bytes lie. -/
structure Ac where
  z : Int
  i : Int
  e : En
  A : Option Addr
  c : Nat
def encA (x : Ac) : List Value := [.int .i64 x.z, .int .i64 x.i, .int .i64 x.e.f, .int .i64 x.e.t, .slice x.A x.e.bs.length x.c]
def LA : Lay Ac := ⟨encA, 5, fun _ => rfl, fun x u hu => by
  simp only [encA, List.mem_cons, List.not_mem_nil, or_false] at hu
  rcases hu with rfl | rfl | rfl | rfl | rfl <;> rfl, by decide⟩
structure Acts (w : World) (A : Option Addr) (n c : Nat) (l : List Ac) : Prop where
  row : Rw LA w A n c l
  byt : ∀ x ∈ l, Rd w x.A x.e.bs.length x.c (cs x.e.bs)
theorem five {w : World} {g o : Nat} {x : Ac} (h : w.rangeAt g o (encA x)) : w.cell? ⟨g, o, none⟩ = some (.int .i64 x.z) ∧ w.cell? ⟨g, o + 1, none⟩ = some (.int .i64 x.i) ∧ w.cell? ⟨g, o + 2, none⟩ = some (.int .i64 x.e.f) ∧ w.cell? ⟨g, o + 3, none⟩ = some (.int .i64 x.e.t) ∧ w.cell? ⟨g, o + 4, none⟩ = some (.slice x.A x.e.bs.length x.c) :=
  ⟨h 0 _ rfl, h 1 _ rfl, h 2 _ rfl, h 3 _ rfl, h 4 _ rfl⟩
theorem blk5 {w : World} {g : Nat} {t : TypeId} {a b c d e : Value} (h : Blk w g t #[a, b, c, d, e]) : w.cell? ⟨g, 0, none⟩ = some a ∧ w.cell? ⟨g, 1, none⟩ = some b ∧ w.cell? ⟨g, 2, none⟩ = some c ∧ w.cell? ⟨g, 3, none⟩ = some d ∧ w.cell? ⟨g, 4, none⟩ = some e := ⟨h.cell 0, h.cell 1, h.cell 2, h.cell 3, h.cell 4⟩
/-- A row of envelopes outside of a set's blocks. -/
def FEnv (B : Nat) (V : Option Addr) (n c : Nat) (X : List Pn) (w : World) (S : Nat → Prop) : Prop := w.ownsRow B 29 LN.s (.slice V n c) n (LN.flat X) ∧ ∀ k, (Value.slice V n c).ownBlock = some k → ¬ S k
theorem frame_env (B : Nat) (V : Option Addr) (n c : Nat) (X : List Pn) : Dsk.Frame (FEnv B V n c X) := by
  refine ⟨fun {w w' S S'} h hk hg => ⟨row_keep h.1 fun k e => hk.block k (h.1.lt k e).2 (h.2 k e), fun k e hs => ?_⟩⟩
  rcases hg k hs with h' | h'
  · exact h.2 k e h'
  · have := (h.1.lt k e).2
    omega
def PlF (w : World) (V : Option Addr) (n c : Nat) (X : List Pn) (v : World) (S : Nat → Prop) : Prop := FNew w v S ∧ FEnv w.heap.size V n c X v S
theorem frame_pl (w : World) (V : Option Addr) (n c : Nat) (X : List Pn) : Dsk.Frame (PlF w V n c X) := (frame_new w).and (frame_env _ _ _ _ _)
/-- What is known of an envelope of the law's own. -/
def Known (w : World) (q : Pn) : Prop := Rd w q.A q.e.bs.length q.c (cs q.e.bs) ∧ q.e.bs.length ≤ 100
def PlRel (w : World) (p n : Nat) (R : Int) (v6 v7 : Value) (wr : World) : Prop :=
  ∃ (k : Nat) (X : List Pn) (XA : Option Addr) (xc : Nat) (nx : Int), v7 = .int .i64 (k : Int) ∧ k ≤ n ∧ v6 = .slice XA X.length xc ∧ (∀ q ∈ X, Known w q) ∧ Few k ⟨X.map (·.e), R, nx⟩ ∧ Mine (PlF w XA X.length xc X) wr p ⟨X.map (·.e), R, nx⟩
/-- What the law's append leaves. -/
theorem env_append {w U u : World} {V V' : Option Addr} {n c c' p : Nat} {X : List Pn} {y : Pn} {S : Nat → Prop} {b : Bag} (hI : BI U S p b) (hN : FNew w U S) (hE : FEnv w.heap.size V n c X U S)
    (ho : u.ownsRow w.heap.size 29 LN.s (.slice V' (n + 1) c') (n + 1) (LN.flat (X ++ [y]))) (hg : U.grownBy u (Value.slice V n c).ownBlock) (hl : (Value.slice V' (n + 1) c').ownBlock = (Value.slice V n c).ownBlock ∨ (Value.slice V' (n + 1) c').ownBlock = some U.heap.size) :
    BI u S p b ∧ FNew w u S ∧ FEnv w.heap.size V' (n + 1) c' (X ++ [y]) u S := by
  have hk : Keeps (Row V) U u := ⟨hg.os, hg.tape, hg.output, hg.size, fun k hk hn => hg.block k hk fun e => hn (row_of.1 e.symm)⟩
  refine ⟨bi_keep hI hk fun k hs hr => hE.2 k (row_of.2 hr) hs, ⟨hN.1, hN.2.trans (hk.below hN.2.size fun k hr => (hE.1.lt k (row_of.2 hr)).1)⟩, ho, fun k e hs => ?_⟩
  rcases hl with h' | h'
  · exact hE.2 k (h' ▸ e) hs
  · rw [h'] at e
    injection e with e
    have := bi_low hI k hs
    omega
theorem info_env : (Try.prog.info? 29).map (fun i => (i.zero, i.size, i.bytes)) = some (some (.agg #[.int .i64 0, .int .i64 0, .slice none 0 0]), 3, 40) := by kernel_rfl
theorem run_env_low (A : Option Addr) (n c k : Nat) (hk : k ≤ n) (w : World) : (Instr.slice 26 (.slice A n c) (some (.int .i64 (k : Int))) none none).run Try.prog w = .ok (.slice (cutS 3 A c k) (n - k) (c - k)) w := by
  have hsz : ∀ w, (sizeOf (Try.prog.elem 26)).run Try.prog w = .ok 3 w := fun w => by kernel_rfl
  rw [run_slice_l w 26 A n c Try.underlying26 .i64 (k : Int) (by omega) (by omega), hsz]
  simp [Result.andThen, sliced, cutS]
theorem run_env_high (A : Option Addr) (n c k : Nat) (hk : k ≤ c) (w : World) : (Instr.slice 26 (.slice A n c) none (some (.int .i64 (k : Int))) none).run Try.prog w = .ok (.slice A k c) w := by
  have hsz : ∀ w, (sizeOf (Try.prog.elem 26)).run Try.prog w = .ok 3 w := fun w => by kernel_rfl
  have hm : (A.map fun a => a.add (0 * 3)) = A := by cases A <;> simp [Addr.add]
  rw [run_slice_h w 26 A _ c Try.underlying26 .i64 (k : Int) (by omega) (by omega), hsz]
  simp only [Result.andThen, sliced, hm, ite_self, Int.toNat_natCast, Nat.sub_zero]
def PlCut (w : World) (p k : Nat) (R : Int) (v6 : Value) (wx : World) : Prop :=
  ∃ (X : List Pn) (XA : Option Addr) (xc : Nat) (nx : Int), v6 = .slice XA X.length xc ∧ (∀ q ∈ X, Known w q) ∧ Few (k + 1) ⟨X.map (·.e), R, nx⟩ ∧ Mine (PlF w XA X.length xc X) wx p ⟨X.map (·.e), R, nx⟩
theorem fits_fl {X : List Pn} {q : Nat} {R nx : Int} {fl : Bool} (hq : X.length = q) (h : decide (R ≤ (q : Int)) = fl) : fits ⟨X.map (·.e), R, nx⟩ = !fl := by
  unfold fits
  show decide (((X.map (·.e)).length : Int) < R) = !fl
  rw [List.length_map, hq, ← h]
  by_cases h' : R ≤ (q : Int)
  · rw [decide_eq_true h', decide_eq_false (by omega)]
    rfl
  · rw [decide_eq_false h', decide_eq_true (by omega)]
    rfl
theorem ins_yes {i : Int} {q : Nat} (h : (decide (0 ≤ i) && decide (i < (q : Int))) = true) : ∃ j : Nat, i = (j : Int) ∧ j < q := by
  simp only [Bool.and_eq_true, decide_eq_true_eq] at h
  exact ⟨i.toNat, by omega, by omega⟩
theorem ins_no {X : List Pn} {i : Int} {q : Nat} {R nx : Int} (hq : X.length = q) (h : (decide (0 ≤ i) && decide (i < (q : Int))) = false) : atB i ⟨X.map (·.e), R, nx⟩ = none := by
  refine at_none ?_
  show i < 0 ∨ ((X.map (·.e)).length : Int) ≤ i
  rw [List.length_map, hq]
  by_cases h0 : 0 ≤ i
  · rw [decide_eq_true h0, Bool.true_and, decide_eq_false_iff_not] at h
    exact .inr (by omega)
  · exact .inl (by omega)
theorem at_yes {X : List Pn} {j : Nat} {R nx : Int} {x : Pn} (h : X[j]? = some x) : atB (j : Int) ⟨X.map (·.e), R, nx⟩ = some x.e := by
  unfold atB
  rw [if_pos (by omega), Int.toNat_natCast]
  show (X.map (·.e))[j]? = _
  rw [List.getElem?_map, h]
  rfl
theorem map_eraseN (l : List Pn) (j : Nat) : (l.eraseIdx j).map (·.e) = (l.map (·.e)).eraseIdx j := by
  induction l generalizing j with
  | nil => rfl
  | cons y l ih => cases j <;> simp [ih]
theorem take_at {X : List Pn} {j : Nat} {R nx : Int} : takeB (j : Int) ⟨X.map (·.e), R, nx⟩ = ⟨(X.eraseIdx j).map (·.e), R, nx⟩ := by
  unfold takeB
  rw [if_pos (by omega), Int.toNat_natCast, map_eraseN]
theorem keep_at {X : List Pn} {t R nx : Int} : keepB t ⟨X.map (·.e), R, nx⟩ = ⟨(X.filter fun q => !decide (q.e.t = t)).map (·.e), R, nx⟩ := by
  unfold keepB
  show (⟨(X.map (·.e)).filter _, R, nx⟩ : Bag) = _
  rw [List.filter_map]
  rfl
/-- The law's row, where it lies. -/
theorem FEnv.at_ {B : Nat} {V : Option Addr} {n c j : Nat} {X : List Pn} {x : Pn} {w : World} {S : Nat → Prop} (h : FEnv B V n c X w S) (hx : X[j]? = some x) (hn : j < n) : ∃ g, V = some ⟨g, 0, none⟩ ∧ g < w.heap.size ∧ w.rangeAt g (j * 3) (encN x) := by
  obtain ⟨g, c', e, _, _, _, hh⟩ := Hdr.of_own h.1 (by omega)
  injection e with e1 e2 e3
  exact ⟨g, e1, hh.lt, hh.at_ hx⟩
theorem filter_yesN {d : List Pn} {f : Pn → Bool} {p : Nat} {y : Pn} (hy : d[p]? = some y) (h : f y = true) : (d.take (p + 1)).filter f = (d.take p).filter f ++ [y] := by rw [List.take_add_one, hy]; simp [h]
theorem filter_noN {d : List Pn} {f : Pn → Bool} {p : Nat} {y : Pn} (hy : d[p]? = some y) (h : f y = false) : (d.take (p + 1)).filter f = (d.take p).filter f := by rw [List.take_add_one, hy]; simp [h]
def YRel (w : World) (p b8 q xc : Nat) (XA : Option Addr) (X : List Pn) (vs : Array Value) (t : Int) (b : Bag) (v14 v15 : Value) (wr : World) : Prop :=
  ∃ (k : Nat) (YA : Option Addr) (yl yc : Nat) (S : Nat → Prop), v15 = .int .i64 (k : Int) ∧ k ≤ q ∧ v14 = .slice YA yl yc ∧ ((X.take k).filter fun x => !decide (x.e.t = t)).length = yl ∧ BI wr S p b ∧ PlF w XA q xc X wr S ∧ FBlk b8 31 vs wr S ∧
    FEnv w.heap.size YA yl yc ((X.take k).filter fun x => !decide (x.e.t = t)) wr S ∧ ∀ j, Row YA j → ¬ Row XA j ∧ j ≠ b8
/-- The append's row is where it was, or in new memory: apart from what its row was apart from. -/
theorem loc_apart {U W : World} {V V' : Option Addr} {n c m c' : Nat} (hl : (Value.slice V' m c').ownBlock = (Value.slice V n c).ownBlock ∨ (Value.slice V' m c').ownBlock = some W.heap.size) (hb : Below U.heap.size U W) :
    U.heap.size ≤ W.heap.size ∧ ∀ {A : Option Addr} {B q xc g : Nat} {t e : TypeId} {s : Nat} {vs : Array Value} {xs : List Value}, U.ownsRow B e s (.slice A q xc) q xs → Blk U g t vs → (∀ j, Row V j → ¬ Row A j ∧ j ≠ g) → ∀ k, Row V' k → ¬ Row A k ∧ k ≠ g := by
  refine ⟨hb.size, fun {A B q xc g t e s vs xs} hr hg hd k hk => ?_⟩
  have hk' := (row_of (n := m) (c := c')).2 hk
  rcases hl with h' | h'
  · exact hd k (row_of.1 (h' ▸ hk'))
  · rw [h'] at hk'
    injection hk' with hk'
    have h1 := hb.size
    have h2 := hg.lt
    refine ⟨fun hr' => ?_, by omega⟩
    have := (hr.lt k (row_of.2 hr')).2
    omega
def AtRel (w : World) (p : Nat) (XA : Option Addr) (xc : Nat) (X : List Pn) (b : Bag) (v16 : Value) (wr : World) : Prop :=
  ∃ t : Int, v16 = .int .i64 t ∧ -1 ≤ t ∧ t ≤ (X.length : Int) + 1 ∧ Mine (PlF w XA X.length xc X) wr p b
set_option maxRecDepth 20000 in
set_option maxHeartbeats 4000000 in
/-- The document's Out. -/
theorem out_any (A : Option Addr) (n c j : Nat) (X : List Pn) (w : World) (hr : Rw LN w A n c X) (hj : j < n) (hn : n ≤ 1000000) :
    Calls Try.prog 12 #[.slice A n c, .int .i64 (j : Int)] w (fun e w' => ∃ V d, e = .returned (.slice V (n - 1) d) ∧ w'.ownsRow w.heap.size 29 LN.s (.slice V (n - 1) d) (n - 1) (LN.flat (X.eraseIdx j)) ∧ Below w.heap.size w w') := by
  have hlc := hr.le
  have hcc := hr.cap
  unfold maxLen at hcc
  have HR := Lib.hid hr
  have HE := Lib.hid (show X.take j ++ X.drop (j + 1) = X.eraseIdx j from (List.eraseIdx_eq_take_drop_succ X j).symm)
  obtain ⟨j1, hj1⟩ : ∃ j1, j + 1 = j1 := ⟨_, rfl⟩
  rw [hj1] at HE
  have hjj : (j : Int) + 1 = (j1 : Int) := by omega
  have hw : IntKind.i64.wrap ((j : Int) + 1) = (j1 : Int) := by rw [hjj]; exact wr64 (by omega) (by omega)
  have hj1n : j1 ≤ n := by omega
  have hlow := run_env_low A n c j1 hj1n
  have hhigh := run_env_high A n c j (by omega)
  clear hr hjj
  go_enter Try.func12, Try.ntmps12
  go_upto_region 1 with fail
  refine wp_region_held_drew (S := (fun _ => True)) (by kernel_rfl) trivial (fun hHeld => ?_)
  refine held_take (i := 1) (d := 6) (v := (.slice A n c)) rfl rfl (by kernel_rfl) (by kernel_rfl) (by kernel_rfl) (fun _ _ _ h => h) (by kernel_rfl) (fun w hSw => by (obtain _ := hSw); go_simp) hHeld ?_
  try simp only [List.setIfInBounds_toArray, List.set_cons_zero, List.set_cons_succ]
  refine held_take (i := 2) (d := 7) (v := (.int .i64 (j : Int))) rfl rfl (by kernel_rfl) (by kernel_rfl) (by kernel_rfl) (fun _ _ _ h => h) (by kernel_rfl) (fun w hSw => by (obtain _ := hSw); go_simp) hHeld ?_
  try simp only [List.setIfInBounds_toArray, List.set_cons_zero, List.set_cons_succ]
  refine held_take (i := 3) (d := 8) (v := (.slice A j c)) rfl rfl (by kernel_rfl) (by kernel_rfl) (by kernel_rfl) (fun _ _ _ h => h) (by kernel_rfl) (fun w' _ => by go_simp) hHeld ?_
  try simp only [List.setIfInBounds_toArray, List.set_cons_zero, List.set_cons_succ]
  refine held_take (i := 5) (d := 10) (v := (.slice A n c)) rfl rfl (by kernel_rfl) (by kernel_rfl) (by kernel_rfl) (fun _ _ _ h => h) (by kernel_rfl) (fun w hSw => by (obtain _ := hSw); go_simp) hHeld ?_
  try simp only [List.setIfInBounds_toArray, List.set_cons_zero, List.set_cons_succ]
  refine held_take (i := 6) (d := 11) (v := (.int .i64 (j : Int))) rfl rfl (by kernel_rfl) (by kernel_rfl) (by kernel_rfl) (fun _ _ _ h => h) (by kernel_rfl) (fun w hSw => by (obtain _ := hSw); go_simp) hHeld ?_
  try simp only [List.setIfInBounds_toArray, List.set_cons_zero, List.set_cons_succ]
  refine held_take (i := 7) (d := 12) (v := (.int .i64 (j1 : Int))) rfl rfl (by kernel_rfl) (by kernel_rfl) (by kernel_rfl) (fun _ _ _ h => h) (by kernel_rfl) (fun w hSw => by (obtain _ := hSw); go_simp) hHeld ?_
  try simp only [List.setIfInBounds_toArray, List.set_cons_zero, List.set_cons_succ]
  refine held_take (i := 8) (d := 13) (v := (.slice (cutS 3 A c j1) (n - j1) (c - j1))) rfl rfl (by kernel_rfl) (by kernel_rfl) (by kernel_rfl) (fun _ _ _ h => h) (by kernel_rfl) (fun w' _ => by go_simp) hHeld ?_
  try simp only [List.setIfInBounds_toArray, List.set_cons_zero, List.set_cons_succ]
  refine wpAnyH_ready (rs := [0]) (by kernel_rfl) (by simp) ?_
  refine AllReadyH.cons rfl (fun K hK => ?_) AllReadyH.nil
  go_simp
  have hrA : (w.drew.alloc (.cells #[] 29)).ownsRow w.heap.size 29 LN.s (.slice (some ⟨w.drew.heap.size, 0, none⟩) 0 0) 0 (LN.flat []) := World.ownsRow_made (e := 29) (size := LN.s) w.drew #[] 0 (show w.heap.size ≤ w.drew.heap.size from Nat.le_refl _) (by unfold maxLen; omega) (by decide)
  have hbA4 : Below w.heap.size w (w.drew.alloc (.cells #[] 29)) := (Below.drew (Below.refl w.heap.size w)).alloc (Nat.le_refl _) _
  refine hK.out _ _ trivial (fun hHeld => ?_)
  clear hK K
  refine wpAnyH_ready (rs := [4]) (by kernel_rfl) (by simp) ?_
  refine AllReadyH.cons rfl (fun K hK => ?_) AllReadyH.nil
  obtain ⟨i0, hi, hz0, hz1, hz2⟩ := info_parts info_env
  obtain ⟨V1, d1, u4, hrun, ho4, hgr, hloc⟩ := run_append_rw (L := LN) (n := 0) (m := j) (ty := 26) (bytes := 40) Try.underlying26 hi hz0 hz1 hz2 rfl hrA ((HR.out.below hbA4).take (k := j) (by omega)) (by unfold maxLen; omega) (by omega) (hbA4).size
  refine step_append_row rfl (.tmp 5) (.tmp 8) rfl hrun ?_
  show K (Act.put _ (some 9) _) _
  try simp only [Act.put]
  have hbA9 : Below w.heap.size w u4 := hbA4.grown hgr hbA4.size fun k e => (hrA.lt k e).1
  clear hrun hgr hloc
  refine hK.out _ _ trivial (fun hHeld => ?_)
  clear hK K
  refine wpAnyH_ready (rs := [9]) (by kernel_rfl) (by simp) ?_
  refine AllReadyH.cons rfl (fun K hK => ?_) AllReadyH.nil
  obtain ⟨i0, hi, hz0, hz1, hz2⟩ := info_parts info_env
  obtain ⟨V2, d2, u9, hrun, ho9, hgr, hloc⟩ := run_append_rw (L := LN) (n := 0 + j) (m := n - j1) (ty := 26) (bytes := 40) Try.underlying26 hi hz0 hz1 hz2 rfl ho4 ((HR.out.below hbA9).cut (k := j1) (by omega)) (by unfold maxLen; omega) (by omega) (hbA9).size
  refine step_append_row rfl (.tmp 9) (.tmp 13) rfl hrun ?_
  show K (Act.put _ (some 14) _) _
  try simp only [Act.put]
  have HB9 := Lib.hid (hbA9.grown hgr hbA9.size fun k e => (ho4.lt k e).1)
  have HO9 := Lib.hid ho9
  clear hrun hgr hloc
  refine hK.out _ _ trivial (fun hHeld => ?_)
  clear hK K
  refine held_take (i := 10) (d := 4) (v := (.slice V2 (0 + j + (n - j1)) d2)) rfl rfl (by kernel_rfl) (by kernel_rfl) (by kernel_rfl) (fun _ _ _ h => h) (by kernel_rfl) (fun w hSw => by (obtain _ := hSw); go_simp) hHeld ?_
  try simp only [List.setIfInBounds_toArray]
  refine wpAnyH_done (by kernel_rfl) ?_ _
  go_wp2_with fail
  go_ret
  refine ⟨V2, d2, ?_, ?_, HB9.out⟩
  · rw [show 0 + j + (n - j1) = n - 1 by omega]; rfl
  · have h := HO9.out
    rw [List.nil_append, show 0 + j + (n - j1) = n - 1 by omega, HE.out] at h
    exact h
end Go.Proofs.Ytgnpnjfoenmfbaa.Bg
