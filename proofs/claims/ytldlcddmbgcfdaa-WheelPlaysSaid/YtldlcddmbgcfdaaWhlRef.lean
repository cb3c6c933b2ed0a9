/-
  Texts of earlier layers, as one.
-/
import Derived.Test.YtldlcddmbgcfdaaWhlDue
import Derived.Test.YtldlcddmbgcfdaaChecked
import Derived.Laws.StructEq
import Derived.WideLaws
import Derived.Deep.QuietTactic
/- The document's Find, Out, ahead and Due. -/
namespace Go.Proofs.Ytldlcddmbgcfdaa.Wh
open Go.RowKit Mem Dsk Go.Maps

theorem eql_id (a b : Int × Int) (w : World) : Sem.run Try.prog (binOp .eql 28 (.agg #[.int .i64 a.1, .int .i64 a.2]) (.agg #[.int .i64 b.1, .int .i64 b.2])) w = .ok (.bool (decide (a = b))) w := by
  have u3 := Try.underlying3
  have a3 := Try.isAgg3
  have z3 := Try.sizeOf3
  have hS : Try.prog.underlying 28 = some (.struct (Try.prog.fieldsOf 28)) := by kernel_rfl
  have hp : Try.prog.stoodInHeld 28 = false := by kernel_rfl
  rw [run_eql_struct, show (10000 : Nat) = 9999 + 1 from rfl, run_equalIn_agg w 9999 28 _ _ hS hp]
  simp only [Program.fieldsOf, Try.underlying28]
  go_simp
  obtain ⟨a1, a2⟩ := a
  obtain ⟨b1, b2⟩ := b
  by_cases h1 : a1 = b1 <;> by_cases h2 : a2 = b2 <;> simp [h1, h2]
theorem neq_id (a b : Int × Int) (w : World) : Sem.run Try.prog (binOp .neq 28 (.agg #[.int .i64 a.1, .int .i64 a.2]) (.agg #[.int .i64 b.1, .int .i64 b.2])) w = .ok (.bool (!decide (a = b))) w := by
  have u3 := Try.underlying3
  have a3 := Try.isAgg3
  have z3 := Try.sizeOf3
  have hS : Try.prog.underlying 28 = some (.struct (Try.prog.fieldsOf 28)) := by kernel_rfl
  have hp : Try.prog.stoodInHeld 28 = false := by kernel_rfl
  rw [run_neq_struct, show (10000 : Nat) = 9999 + 1 from rfl, run_equalIn_agg w 9999 28 _ _ hS hp]
  simp only [Program.fieldsOf, Try.underlying28]
  go_simp
  obtain ⟨a1, a2⟩ := a
  obtain ⟨b1, b2⟩ := b
  by_cases h1 : a1 = b1 <;> by_cases h2 : a2 = b2 <;> simp [h1, h2]
theorem posR_at {l : List Tm} {i : Int × Int} {k : Nat} {x : Tm} (hx : l[k]? = some x) (e : x.i = i) (h : ∀ y ∈ l.take k, y.i ≠ i) : posR l i = some k := by
  obtain ⟨hk, hx'⟩ := List.getElem?_eq_some_iff.1 hx
  refine List.findIdx?_eq_some_iff_getElem.2 ⟨hk, by rw [hx']; simpa using e, fun j hj => ?_⟩
  have := h l[j] (List.mem_take_iff_getElem.2 ⟨j, by omega, rfl⟩)
  simpa using this
theorem posR_no {l : List Tm} {i : Int × Int} (h : ∀ y ∈ l, y.i ≠ i) : posR l i = none := List.findIdx?_eq_none_iff.2 fun y hy => by simpa using h y hy
/-- An id's place, as the document says it. -/
def placeR (l : List Tm) (i : Int × Int) : Int := match posR l i with
  | some k => (k : Int)
  | none => -1
theorem snoc_take {l : List Tm} {k : Nat} {x : Tm} (h : l[k]? = some x) : l.take (k + 1) = l.take k ++ [x] := by rw [List.take_add_one, h]; rfl
def FdRel (w : World) (l : List Tm) (i : Int × Int) (v : Value) (wr : World) : Prop := ∃ k : Nat, v = .int .i64 (k : Int) ∧ k ≤ l.length ∧ (∀ y ∈ l.take k, y.i ≠ i) ∧ Below w.heap.size w wr
set_option maxRecDepth 20000 in
set_option maxHeartbeats 4000000 in
theorem find_any {A : Option Addr} {n c : Nat} {l : List Tm} (i : Int × Int) (w : World) (hr : Rw LT w A n c l) (hl : n ≤ 800000) :
    Calls Try.prog 8 #[.slice A n c, .agg #[.int .i64 i.1, .int .i64 i.2]] w (fun e w' => e = .returned (.int .i64 (placeR l i)) ∧ Below w.heap.size w w') := by
  have hln := hr.len
  obtain ⟨i1, i2⟩ := i
  have hb1 := bel_alloc (Below.refl w.heap.size w) (.cells #[.int .i64 i1, .int .i64 i2] 28)
  have hbx := Blk.new w 28 #[.int .i64 i1, .int .i64 i2]
  obtain ⟨W, hW⟩ : ∃ v, w.alloc (.cells #[.int .i64 i1, .int .i64 i2] 28) = v := ⟨_, rfl⟩
  rw [hW] at hb1 hbx
  have hrW := hr.below hb1
  have hle := hr.le
  have HR := Lib.hid (And.intro hrW (And.intro hbx hb1))
  have HW := Lib.hid hW
  clear hr hW hbx hb1 hrW
  go_enter Try.func8, Try.ntmps8
  go_upto_region 1 with fail
  rw [HW.out]
  go_wp2_with fail
  go_loopw [5] (FdRel W l (i1, i2)) (fun v _ => n - (intOf v).toNat)
  case atStart => exact ⟨0, rfl, Nat.zero_le _, by simp, Below.refl _ _⟩
  case round =>
    obtain ⟨k, rfl, hk, hno, hbw⟩ := hrel
    by_cases hlt : k < n
    · obtain ⟨g, o, ⟨⟨x1, x2⟩, xa⟩, rfl, hg, hx, hcx⟩ := (HR.out.1.below hbw).at_ hlt
      obtain ⟨c3, c4, _⟩ := three hcx
      rw [show o + k * LT.s = o + k * 3 from rfl] at c3 c4
      obtain ⟨e0, e1⟩ := blk2 (HR.out.2.1.bel hbw)
      obtain ⟨t, ht⟩ : ∃ t, decide ((x1, x2) = (i1, i2)) = t := ⟨_, rfl⟩
      have heq := eql_id (x1, x2) (i1, i2)
      rw [ht] at heq
      simp only at c3 c4 heq
      have HX := Lib.hid (And.intro hx (And.intro hno (And.intro hbw ht)))
      clear hx hcx hno hbw ht hg
      cases t with
      | true =>
        go_wp2_with fail
        go_quiet (fail)
        go_wp2_with fail
        go_ret
        refine ⟨?_, (HR.out.2.2.trans (HX.out.2.2.1.mono HR.out.2.2.size)).trans (below_drewN (Below.refl _ _) _)⟩
        unfold placeR
        rw [posR_at HX.out.1 (of_decide_eq_true HX.out.2.2.2) HX.out.2.1]
        rfl
      | false =>
        go_wp2_with fail
        go_quiet (fail)
        go_wp2_with fail
        go_roundw
        case rel =>
          refine ⟨k + 1, by simp, by omega, fun y hy => ?_, HX.out.2.2.1.trans (below_drewN (Below.refl _ _) _)⟩
          rw [snoc_take HX.out.1] at hy
          rcases List.mem_append.1 hy with hy | hy
          · exact HX.out.2.1 y hy
          · rw [List.mem_singleton.1 hy]
            exact of_decide_eq_false HX.out.2.2.2
        case measure =>
          simp [intOf]
          omega
    · have HX := Lib.hid (And.intro hno hbw)
      clear hno hbw
      go_wp2_with fail
      go_ret
      refine ⟨?_, HR.out.2.2.trans (HX.out.2.mono HR.out.2.2.size)⟩
      unfold placeR
      rw [posR_no (by have := HX.out.1; rwa [List.take_of_length_le (by omega)] at this)]
      rfl
def OtRel (w : World) (B : Nat) (l : List Tm) (i : Int × Int) (v5 v6 : Value) (wr : World) : Prop := ∃ (k : Nat) (V : Option Addr) (c' m : Nat), v5 = .slice V m c' ∧ v6 = .int .i64 (k : Int) ∧ k ≤ l.length ∧ (outR (l.take k) i).length = m ∧
  wr.ownsRow B 35 LT.s (.slice V m c') m (LT.flat (outR (l.take k) i)) ∧ Below w.heap.size w wr
theorem outR_app (a b : List Tm) (i : Int × Int) : outR (a ++ b) i = outR a i ++ outR b i := by simp [outR]
theorem info_rt : (Try.prog.info? 35).map (fun i => (i.zero, i.size, i.bytes)) = some (some (.agg #[.int .i64 0, .int .i64 0, .int .i64 0]), 3, 24) := by kernel_rfl
/-- A new row of timers. -/
def NewRow (w : World) (l : List Tm) (e : Ending) (w' : World) : Prop := ∃ V c', e = .returned (.slice V l.length c') ∧ w'.ownsRow w.heap.size 35 LT.s (.slice V l.length c') l.length (LT.flat l) ∧ Below w.heap.size w w'
set_option maxRecDepth 20000 in
set_option maxHeartbeats 8000000 in
theorem refout_any {A : Option Addr} {n c : Nat} {l : List Tm} (i : Int × Int) (w : World) (hr : Rw LT w A n c l) (hl : n ≤ 800000) :
    Calls Try.prog 13 #[.slice A n c, .agg #[.int .i64 i.1, .int .i64 i.2]] w (NewRow w (outR l i)) := by
  have hln := hr.len
  obtain ⟨i1, i2⟩ := i
  have hb1 := bel_alloc (Below.refl w.heap.size w) (.cells #[.int .i64 i1, .int .i64 i2] 28)
  have hbx := Blk.new w 28 #[.int .i64 i1, .int .i64 i2]
  obtain ⟨W, hW⟩ : ∃ v, w.alloc (.cells #[.int .i64 i1, .int .i64 i2] 28) = v := ⟨_, rfl⟩
  rw [hW] at hb1 hbx
  have hrW := hr.below hb1
  have hle := hr.le
  have HR := Lib.hid (And.intro hrW (And.intro hbx hb1))
  have HW := Lib.hid hW
  clear hr hW hbx hb1 hrW
  go_enter Try.func13, Try.ntmps13
  go_upto_region 1 with fail
  rw [HW.out]
  go_wp2_with fail
  go_loopw [5, 6] (OtRel W W.heap.size l (i1, i2)) (fun _ v _ => n - (intOf v).toNat)
  case atStart => exact ⟨0, none, 0, 0, rfl, rfl, Nat.zero_le _, rfl, ⟨rfl, .inl ⟨rfl, rfl⟩⟩, Below.refl _ _⟩
  case round =>
    obtain ⟨k, V, c', m, rfl, rfl, hk, hm, hrow, hbw⟩ := hrel
    by_cases hlt : k < n
    · obtain ⟨g, o, ⟨⟨x1, x2⟩, xa⟩, rfl, hg, hx, hcx⟩ := (HR.out.1.below hbw).at_ hlt
      have hcx' := hcx
      obtain ⟨c3, c4, c5⟩ := three hcx
      rw [show o + k * LT.s = o + k * 3 from rfl] at c3 c4 c5
      obtain ⟨e0, e1⟩ := blk2 (HR.out.2.1.bel hbw)
      obtain ⟨t, ht⟩ : ∃ t, decide ((x1, x2) = (i1, i2)) = t := ⟨_, rfl⟩
      have heq := neq_id (x1, x2) (i1, i2)
      rw [ht] at heq
      simp only at c3 c4 c5 heq
      have hmk : m ≤ k := by
        rw [← hm]
        refine Nat.le_trans (List.length_filter_le _ _) ?_
        rw [List.length_take]
        omega
      have hst := snoc_take hx
      cases t with
      | true =>
        have hne : outR (l.take (k + 1)) (i1, i2) = outR (l.take k) (i1, i2) := by
          rw [hst, outR_app]
          have e : outR [(⟨(x1, x2), xa⟩ : Tm)] (i1, i2) = [] := by
            have := of_decide_eq_true ht
            simp [outR, this]
          rw [e, List.append_nil]
        have HX := Lib.hid (And.intro hne (And.intro hm (And.intro hrow hbw)))
        clear hx hcx hcx' hm hrow hbw ht hg hst hne hmk
        go_wp2_with fail
        go_quiet (fail)
        go_wp2_with fail
        go_roundw
        case rel =>
          have hb := below_drewN (Below.refl wr.heap.size wr) nq
          exact ⟨k + 1, V, c', m, rfl, by simp, by omega, by rw [HX.out.1]; exact HX.out.2.1, by rw [HX.out.1]; exact ownsRow_below HX.out.2.2.1 hb, bel_trans HX.out.2.2.2 hb⟩
        case measure =>
          simp [intOf]
          omega
      | false =>
        have hne : outR (l.take (k + 1)) (i1, i2) = outR (l.take k) (i1, i2) ++ [⟨(x1, x2), xa⟩] := by
          rw [hst, outR_app]
          have e : outR [(⟨(x1, x2), xa⟩ : Tm)] (i1, i2) = [⟨(x1, x2), xa⟩] := by
            have := of_decide_eq_false ht
            unfold outR
            rw [List.filter_cons, if_pos (decide_eq_true this)]
            rfl
          rw [e]
        have HX := Lib.hid (And.intro hne (And.intro hm (And.intro hrow hbw)))
        clear hx hcx hcx' hm hrow hbw ht hg hst hne
        go_wp2_with fail
        go_quiet (fail)
        obtain ⟨U, hU⟩ : ∃ v, wr.drewN nq = v := ⟨_, rfl⟩
        have hbU : Below wr.heap.size wr U := by rw [← hU]; exact below_drewN (Below.refl _ _) nq
        have hbl : Below wr.heap.size wr (U.alloc (.cells #[.int .i64 x1, .int .i64 x2, .int .i64 xa] 35)) := bel_alloc hbU _
        have hlit : Rw LT (U.alloc (.cells #[.int .i64 x1, .int .i64 x2, .int .i64 xa] 35)) (some ⟨U.heap.size, 0, none⟩) 1 1 [⟨(x1, x2), xa⟩] := Rw.lit (L := LT) U ⟨(x1, x2), xa⟩ 35
        obtain ⟨i0, hi, hz0, hz1, hz2⟩ := info_parts info_rt
        obtain ⟨V1, c1, u3, hrun, hown, hgrw, hloc⟩ := run_append_rw (L := LT) (ty := 26) (bytes := 24) Try.underlying26 hi hz0 hz1 hz2 rfl (ownsRow_below HX.out.2.2.1 hbl) hlit (by unfold maxLen; omega) (by omega) (by have := HX.out.2.2.2.size; have := hbl.size; omega)
        have hrel : OtRel W W.heap.size l (i1, i2) (.slice V1 (m + 1) c1) (.int .i64 ((k + 1 : Nat) : Int)) u3 := by
          refine ⟨k + 1, V1, c1, m + 1, rfl, rfl, by omega, ?_, by rw [HX.out.1]; exact hown, ?_⟩
          · rw [HX.out.1, List.length_append, HX.out.2.1]
            rfl
          · exact (bel_trans HX.out.2.2.2 hbl).grown hgrw (by have := HX.out.2.2.2.size; have := hbl.size; omega) fun j e => (HX.out.2.2.1.lt j e).1
        have HREL := Lib.hid hrel
        have HRUN := Lib.hid hrun
        have d3 : U.cell? ⟨g, o + k * 3, none⟩ = some (.int .i64 x1) := by rw [← hU]; exact c3
        have d4 : U.cell? ⟨g, o + k * 3 + 1, none⟩ = some (.int .i64 x2) := by rw [← hU]; exact c4
        have d5 : U.cell? ⟨g, o + k * 3 + 2, none⟩ = some (.int .i64 xa) := by rw [← hU]; exact c5
        rw [hU]
        clear hbU hbl hlit hi hz0 hz1 hz2 i0 hown hgrw hloc hrel hrun hU c3 c4 c5 e0 e1 hmk
        go_wp2_with (at_builtin; refine wpList_append_row rfl (.tmp 20) (.tmp 25) rfl HRUN.out ?_)
        go_roundw
        case rel => simpa using HREL.out
        case measure =>
          simp [intOf]
          omega
    · have HX := Lib.hid (And.intro hm (And.intro hrow hbw))
      clear hm hrow hbw
      go_wp2_with fail
      go_ret
      have hkl : l.take k = l := List.take_of_length_le (by omega)
      have h1 := HX.out.1
      have h2 := HX.out.2.1
      rw [hkl] at h1 h2
      subst h1
      exact ⟨V, c', rfl, own_low h2 HR.out.2.2.size, HR.out.2.2.trans (HX.out.2.2.mono HR.out.2.2.size)⟩
set_option maxRecDepth 20000 in
set_option maxHeartbeats 4000000 in
theorem refahead_any (x y : Tm) (w : World) : Calls Try.prog 20 #[.agg #[.int .i64 x.i.1, .int .i64 x.i.2, .int .i64 x.a], .agg #[.int .i64 y.i.1, .int .i64 y.i.2, .int .i64 y.a]] w (Tells (tlt x y) w) := by
  obtain ⟨⟨x1, x2⟩, xa⟩ := x
  obtain ⟨⟨y1, y2⟩, ya⟩ := y
  have HL := Lib.hid (fun W => refless_any (x1, x2) (y1, y2) W)
  obtain ⟨t, ht⟩ : ∃ t, ilt (x1, x2) (y1, y2) = t := ⟨_, rfl⟩
  have hm : tlt ⟨(x1, x2), xa⟩ ⟨(y1, y2), ya⟩ = (decide (xa < ya) || (decide (xa = ya) && t)) := by rw [← ht]; rfl
  rw [hm]
  simp only [ht] at HL
  have HB := Lib.hid (bel_2 w)
  clear hm ht
  go_enter Try.func20, Try.ntmps20
  by_cases h1 : xa < ya
  · go_wp2_with fail
    go_ret
    exact ⟨by simp [h1], HB.out _ _⟩
  · by_cases h2 : xa = ya
    · subst h2
      go_wp2_with (go_at_call 26; (with_reducible refine (HL.out _).mono ?_); rintro e w3 ⟨rfl, hb3⟩)
      go_ret
      exact ⟨by simp, bel_trans (HB.out _ _) hb3⟩
    · go_wp2_with fail
      go_ret
      exact ⟨by simp [h1], HB.out _ _⟩
def DuRel (w : World) (l : List Tm) (now : Int) (v : Value) (wr : World) : Prop := ∃ k : Nat, v = .int .i64 (k : Int) ∧ k ≤ l.length ∧ (∀ y ∈ l.take k, y.a ≤ now) ∧ wr = w
set_option maxRecDepth 20000 in
set_option maxHeartbeats 4000000 in
theorem refdue_any {A : Option Addr} {n c : Nat} {l : List Tm} (now : Int) (w : World) (hr : Rw LT w A n c l) (hl : n ≤ 800000) :
    Calls Try.prog 15 #[.slice A n c, .int .i64 now] w (fun e w' => e = .returned (.int .i64 (dueR l now : Int)) ∧ w' = w) := by
  have hln := hr.len
  have hle := hr.le
  have HR := Lib.hid hr
  clear hr
  go_enter Try.func15, Try.ntmps15
  go_wp2_with fail
  go_loopw [5] (DuRel w l now) (fun v _ => n - (intOf v).toNat)
  case atStart => exact ⟨0, rfl, Nat.zero_le _, by simp, rfl⟩
  case round =>
    obtain ⟨k, rfl, hk, hal, rfl⟩ := hrel
    by_cases hlt : k < n
    · obtain ⟨g, o, ⟨⟨x1, x2⟩, xa⟩, rfl, hg, hx, hcx⟩ := HR.out.at_ hlt
      have c5 := (three hcx).2.2
      rw [show o + k * LT.s = o + k * 3 from rfl] at c5
      simp only at c5
      have hst := snoc_take hx
      by_cases hle2 : xa ≤ now
      · have HX := Lib.hid (And.intro hst hal)
        have hlt' : (k : Int) < (n : Int) := by omega
        clear hx hcx hal hg hst
        go_wp2_with fail
        go_roundw
        case rel =>
          refine ⟨k + 1, by simp, by omega, fun y hy => ?_, rfl⟩
          rw [HX.out.1] at hy
          rcases List.mem_append.1 hy with hy | hy
          · exact HX.out.2 y hy
          · rw [List.mem_singleton.1 hy]
            exact hle2
        case measure =>
          simp [intOf]
          omega
      · have hd := dueR_at (x := l) (k := k) (now := now) (by omega) hal (.inr ⟨⟨(x1, x2), xa⟩, l.drop (k + 1), by rw [List.drop_eq_getElem_cons (by omega)]; congr 1; exact (List.getElem?_eq_some_iff.1 hx).2, hle2⟩)
        have HD := Lib.hid hd
        clear hx hcx hal hg hst hd
        go_wp2_with fail
        go_ret
        exact ⟨by rw [HD.out]; rfl, rfl⟩
    · have hd := dueR_at (x := l) (k := k) (now := now) (by omega) hal (.inl (List.drop_eq_nil_of_le (by omega)))
      have HD := Lib.hid hd
      clear hal hd
      go_wp2_with fail
      go_ret
      exact ⟨by rw [HD.out]; rfl, rfl⟩
end Go.Proofs.Ytldlcddmbgcfdaa.Wh
