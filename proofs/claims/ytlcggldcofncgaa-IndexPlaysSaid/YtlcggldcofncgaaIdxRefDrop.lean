/-
  Texts of earlier layers, as one.
-/
import Derived.Test.YtlcggldcofncgaaIdxDeps
/- The document's Drop. -/
namespace Go.Proofs.Ytlcggldcofncgaa.Ix
open Go.RowKit Mem Dsk Ids Cmd

/-- How an entry lies. -/
def encE (e : En) : List Value := [.int .i64 e.i.1, .int .i64 e.i.2, .int .i64 e.c.kd, .int .i64 e.c.cl, .int .i64 e.c.sq, .string e.c.ky, .string e.c.vl, .int .i64 e.c.rv, .int .i64 e.s]
def LE : Lay En := ⟨encE, 9, fun _ => rfl, fun x u hu => by
  simp only [encE, List.mem_cons, List.not_mem_nil, or_false] at hu
  rcases hu with rfl | rfl | rfl | rfl | rfl | rfl | rfl | rfl | rfl <;> rfl, by omega⟩
theorem nine {w : World} {g o : Nat} {x : En} (h : w.rangeAt g o (LE.enc x)) : w.cell? ⟨g, o, none⟩ = some (.int .i64 x.i.1) ∧ w.cell? ⟨g, o + 1, none⟩ = some (.int .i64 x.i.2) ∧ w.cell? ⟨g, o + 2, none⟩ = some (.int .i64 x.c.kd) ∧ w.cell? ⟨g, o + 3, none⟩ = some (.int .i64 x.c.cl) ∧ w.cell? ⟨g, o + 4, none⟩ = some (.int .i64 x.c.sq) ∧ w.cell? ⟨g, o + 5, none⟩ = some (.string x.c.ky) ∧ w.cell? ⟨g, o + 6, none⟩ = some (.string x.c.vl) ∧ w.cell? ⟨g, o + 7, none⟩ = some (.int .i64 x.c.rv) ∧ w.cell? ⟨g, o + 8, none⟩ = some (.int .i64 x.s) :=
  ⟨h 0 _ rfl, h 1 _ rfl, h 2 _ rfl, h 3 _ rfl, h 4 _ rfl, h 5 _ rfl, h 6 _ rfl, h 7 _ rfl, h 8 _ rfl⟩
theorem blk2 {w : World} {g : Nat} {t : TypeId} {a b : Value} (h : Blk w g t #[a, b]) : w.cell? ⟨g, 0, none⟩ = some a ∧ w.cell? ⟨g, 1, none⟩ = some b := ⟨h.cell 0, h.cell 1⟩
theorem snoc_take {α : Type} {l : List α} {k : Nat} {x : α} (h : l[k]? = some x) : l.take (k + 1) = l.take k ++ [x] := by rw [List.take_add_one, h]; rfl
theorem dropE_app (a b : List En) (i : Int × Int) : dropE (a ++ b) i = dropE a i ++ dropE b i := by simp [dropE]
theorem info_en : (Try.prog.info? 38).map (fun i => (i.zero, i.size, i.bytes)) = some (some (.agg #[.int .i64 0, .int .i64 0, .int .i64 0, .int .i64 0, .int .i64 0, .string ⟨#[]⟩, .string ⟨#[]⟩, .int .i64 0, .int .i64 0]), 9, 88) := by kernel_rfl
/-- A new row of entries. -/
def NewEn (w : World) (l : List En) (e : Ending) (w' : World) : Prop := ∃ V c', e = .returned (.slice V l.length c') ∧ w'.ownsRow w.heap.size 38 LE.s (.slice V l.length c') l.length (LE.flat l) ∧ Below w.heap.size w w'
def DrRel (w : World) (B : Nat) (l : List En) (i : Int × Int) (v5 v6 : Value) (wr : World) : Prop := ∃ (k : Nat) (V : Option Addr) (c' m : Nat), v5 = .slice V m c' ∧ v6 = .int .i64 (k : Int) ∧ k ≤ l.length ∧ (dropE (l.take k) i).length = m ∧
  wr.ownsRow B 38 LE.s (.slice V m c') m (LE.flat (dropE (l.take k) i)) ∧ Below w.heap.size w wr
set_option maxRecDepth 20000 in
set_option maxHeartbeats 8000000 in
theorem refdrop_any {A : Option Addr} {n c : Nat} {l : List En} (i : Int × Int) (w : World) (hr : Rw LE w A n c l) (hl : n ≤ 800000) :
    Calls Try.prog 10 #[.slice A n c, .agg #[.int .i64 i.1, .int .i64 i.2]] w (NewEn w (dropE l i)) := by
  have hln := hr.len
  obtain ⟨i1, i2⟩ := i
  have hb1 := bel_alloc (Below.refl w.heap.size w) (.cells #[.int .i64 i1, .int .i64 i2] 26)
  have hbx := Blk.new w 26 #[.int .i64 i1, .int .i64 i2]
  obtain ⟨W, hW⟩ : ∃ v, w.alloc (.cells #[.int .i64 i1, .int .i64 i2] 26) = v := ⟨_, rfl⟩
  rw [hW] at hb1 hbx
  have hrW := hr.below hb1
  have hle := hr.le
  have HR := Lib.hid (And.intro hrW (And.intro hbx hb1))
  have HW := Lib.hid hW
  clear hr hW hbx hb1 hrW
  go_enter Try.func10, Try.ntmps10
  go_upto_region 1 with fail
  rw [HW.out]
  go_wp2_with fail
  go_loopw [5, 6] (DrRel W W.heap.size l (i1, i2)) (fun _ v _ => n - (intOf v).toNat)
  case atStart => exact ⟨0, none, 0, 0, rfl, rfl, Nat.zero_le _, rfl, ⟨rfl, .inl ⟨rfl, rfl⟩⟩, Below.refl _ _⟩
  case round =>
    obtain ⟨k, V, c', m, rfl, rfl, hk, hm, hrow, hbw⟩ := hrel
    by_cases hlt : k < n
    · obtain ⟨g, o, ⟨⟨x1, x2⟩, ⟨kd, cl, sq, ky, vl, rv⟩, s⟩, rfl, hg, hx, hcx⟩ := (HR.out.1.below hbw).at_ hlt
      have hcx' := hcx
      obtain ⟨c3, c4, c5, c6, c7, c8, c9, c10, c11⟩ := nine hcx
      rw [show o + k * LE.s = o + k * 9 from rfl] at c3 c4 c5 c6 c7 c8 c9 c10 c11
      obtain ⟨e0, e1⟩ := blk2 (HR.out.2.1.bel hbw)
      obtain ⟨t, ht⟩ : ∃ t, decide ((x1, x2) = (i1, i2)) = t := ⟨_, rfl⟩
      have heq := neq_id (x1, x2) (i1, i2)
      rw [ht] at heq
      simp only at c3 c4 c5 c6 c7 c8 c9 c10 c11 heq
      have hmk : m ≤ k := by
        rw [← hm]
        refine Nat.le_trans (List.length_filter_le _ _) ?_
        rw [List.length_take]
        omega
      have hst := snoc_take hx
      cases t with
      | true =>
        have hne : dropE (l.take (k + 1)) (i1, i2) = dropE (l.take k) (i1, i2) := by
          rw [hst, dropE_app]
          have e : dropE [(⟨(x1, x2), ⟨kd, cl, sq, ky, vl, rv⟩, s⟩ : En)] (i1, i2) = [] := by
            have := of_decide_eq_true ht
            simp [dropE, this]
          rw [e, List.append_nil]
        have HX := Lib.hid (And.intro hne (And.intro hm (And.intro hrow hbw)))
        clear hx hcx hcx' hm hrow hbw ht hg hst hne hmk c5 c6 c7 c8 c9 c10 c11
        go_wp2_with fail
        go_quiet (fail)
        go_wp2_with fail
        go_roundw
        case rel =>
          have hb := below_drewN (Below.refl wr.heap.size wr) nq
          exact ⟨k + 1, V, c', m, rfl, by simp, by omega, by rw [HX.out.1]; exact HX.out.2.1, by rw [HX.out.1]; exact ownsRow_below HX.out.2.2.1 hb, bel_trans HX.out.2.2.2 hb⟩
        case measure =>
          simp [intOf]
          omega
      | false =>
        have hne : dropE (l.take (k + 1)) (i1, i2) = dropE (l.take k) (i1, i2) ++ [⟨(x1, x2), ⟨kd, cl, sq, ky, vl, rv⟩, s⟩] := by
          rw [hst, dropE_app]
          have e : dropE [(⟨(x1, x2), ⟨kd, cl, sq, ky, vl, rv⟩, s⟩ : En)] (i1, i2) = [⟨(x1, x2), ⟨kd, cl, sq, ky, vl, rv⟩, s⟩] := by
            have := of_decide_eq_false ht
            unfold dropE
            rw [List.filter_cons, if_pos (decide_eq_true this)]
            rfl
          rw [e]
        have HX := Lib.hid (And.intro hne (And.intro hm (And.intro hrow hbw)))
        clear hx hcx hcx' hm hrow hbw ht hg hst hne
        go_wp2_with fail
        go_quiet (fail)
        obtain ⟨U, hU⟩ : ∃ v, wr.drewN nq = v := ⟨_, rfl⟩
        have hbU : Below wr.heap.size wr U := by rw [← hU]; exact below_drewN (Below.refl _ _) nq
        have hbl : Below wr.heap.size wr (U.alloc (.cells #[.int .i64 x1, .int .i64 x2, .int .i64 kd, .int .i64 cl, .int .i64 sq, .string ky, .string vl, .int .i64 rv, .int .i64 s] 38)) := bel_alloc hbU _
        have hlit : Rw LE (U.alloc (.cells #[.int .i64 x1, .int .i64 x2, .int .i64 kd, .int .i64 cl, .int .i64 sq, .string ky, .string vl, .int .i64 rv, .int .i64 s] 38)) (some ⟨U.heap.size, 0, none⟩) 1 1 [⟨(x1, x2), ⟨kd, cl, sq, ky, vl, rv⟩, s⟩] := Rw.lit (L := LE) U ⟨(x1, x2), ⟨kd, cl, sq, ky, vl, rv⟩, s⟩ 38
        obtain ⟨i0, hi, hz0, hz1, hz2⟩ := info_parts info_en
        obtain ⟨V1, c1, u3, hrun, hown, hgrw, hloc⟩ := run_append_rw (L := LE) (ty := 32) (bytes := 88) Try.underlying32 hi hz0 hz1 hz2 rfl (ownsRow_below HX.out.2.2.1 hbl) hlit (by unfold maxLen; omega) (by omega) (by have := HX.out.2.2.2.size; have := hbl.size; omega)
        have hrel : DrRel W W.heap.size l (i1, i2) (.slice V1 (m + 1) c1) (.int .i64 ((k + 1 : Nat) : Int)) u3 := by
          refine ⟨k + 1, V1, c1, m + 1, rfl, rfl, by omega, ?_, by rw [HX.out.1]; exact hown, ?_⟩
          · rw [HX.out.1, List.length_append, HX.out.2.1]
            rfl
          · exact (bel_trans HX.out.2.2.2 hbl).grown hgrw (by have := HX.out.2.2.2.size; have := hbl.size; omega) fun j e => (HX.out.2.2.1.lt j e).1
        have HREL := Lib.hid hrel
        have HRUN := Lib.hid hrun
        have d3 : U.cell? ⟨g, o + k * 9, none⟩ = some (.int .i64 x1) := by rw [← hU]; exact c3
        have d4 : U.cell? ⟨g, o + k * 9 + 1, none⟩ = some (.int .i64 x2) := by rw [← hU]; exact c4
        have d5 : U.cell? ⟨g, o + k * 9 + 2, none⟩ = some (.int .i64 kd) := by rw [← hU]; exact c5
        have d6 : U.cell? ⟨g, o + k * 9 + 3, none⟩ = some (.int .i64 cl) := by rw [← hU]; exact c6
        have d7 : U.cell? ⟨g, o + k * 9 + 4, none⟩ = some (.int .i64 sq) := by rw [← hU]; exact c7
        have d8 : U.cell? ⟨g, o + k * 9 + 5, none⟩ = some (.string ky) := by rw [← hU]; exact c8
        have d9 : U.cell? ⟨g, o + k * 9 + 6, none⟩ = some (.string vl) := by rw [← hU]; exact c9
        have d10 : U.cell? ⟨g, o + k * 9 + 7, none⟩ = some (.int .i64 rv) := by rw [← hU]; exact c10
        have d11 : U.cell? ⟨g, o + k * 9 + 8, none⟩ = some (.int .i64 s) := by rw [← hU]; exact c11
        rw [hU]
        clear hbU hbl hlit hi hz0 hz1 hz2 i0 hown hgrw hloc hrel hrun hU c3 c4 c5 c6 c7 c8 c9 c10 c11 e0 e1 hmk
        go_wp2_with (at_builtin; refine wpList_append_row rfl (.tmp 20) (.tmp 25) rfl HRUN.out ?_)
        go_roundw
        case rel => simpa using HREL.out
        case measure =>
          simp [intOf]
          omega
    · have hkn : k = l.length := by omega
      have HX := Lib.hid (And.intro hm (And.intro hrow hbw))
      clear hm hrow hbw
      go_wp2_with fail
      go_ret
      obtain ⟨hm, hrow, hbw⟩ := HX.out
      rw [hkn, List.take_length] at hm hrow
      subst hm
      exact ⟨V, c', rfl, own_low hrow HR.out.2.2.size, bel_trans HR.out.2.2 hbw⟩
end Go.Proofs.Ytlcggldcofncgaa.Ix
