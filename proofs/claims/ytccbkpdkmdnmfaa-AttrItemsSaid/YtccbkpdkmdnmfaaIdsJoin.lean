/-
  ids.past, ids.Join: two sets joined.
-/
import Derived.Test.YtccbkpdkmdnmfaaIdsRefEq
import Derived.Shelf.SlSortCmp.QuietGrown
import Derived.Laws.MakeOwn
namespace Go.Proofs.Ytccbkpdkmdnmfaa
open Go.RowKit Mem Ids Go.Sort

theorem run_tail (A : Option Addr) (n c : Nat) (hn : 1 ≤ n) (w : World) :
    (Instr.slice 22 (.slice A n c) (some (.int .i64 1)) none none).run Try.prog w = .ok (.slice (tailA A c) (n - 1) (c - 1)) w := by
  have hsz : ∀ w, (sizeOf (Try.prog.elem 22)).run Try.prog w = .ok 2 w := Try.sizeOf48
  rw [run_slice_l w 22 A n c Try.underlying22 .i64 1 (by omega) (by omega), hsz]
  simp [Result.andThen, sliced, tailA]

def pastA (l : List (Int × Int)) (x : Int × Int) (A : Option Addr) (c : Nat) : Option Addr := if l.head? = some x then tailA A c else A
def pastC (l : List (Int × Int)) (x : Int × Int) (c : Nat) : Nat := if l.head? = some x then c - 1 else c
theorem past_rs {w : World} {A : Option Addr} {n c : Nat} {l : List (Int × Int)} (x : Int × Int) (h : Rs w A n c l) : Rs w (pastA l x A c) (past l x).length (pastC l x c) (past l x) := by
  have hl := h.len
  unfold pastA pastC past
  split
  · rename_i e
    have h1 : 1 ≤ n := by
      cases l with
      | nil => simp at e
      | cons a l => simp at hl; omega
    have := h.tail h1
    rwa [← hl, ← List.length_tail] at this
  · rw [hl]; exact h

set_option maxHeartbeats 2000000 in
theorem past_grew (l : List (Int × Int)) (x : Int × Int) (A : Option Addr) (n c : Nat) (w : World) (ha : Rs w A n c l) :
    Calls Try.prog 48 #[.slice A n c, .agg #[.int .i64 x.1, .int .i64 x.2]] w fun e w' => e = .returned (.slice (pastA l x A c) (past l x).length (pastC l x c)) ∧ Grew w w' := by
  have hla := ha.len
  have hca := And.intro ha.le ha.cap
  unfold maxLen at hca
  have HA := Lib.hid ha
  have hgr : ∀ (o : Obj) (n : Nat), Grew w ((w.alloc o).drewN n) := fun o n => ⟨n, #[o], by rw [alloc_eq_grow]; rfl⟩
  have HG := Lib.hid hgr
  clear hgr ha
  rcases Nat.eq_zero_or_pos n with h0 | h0
  · subst h0
    have hl0 : l = [] := List.eq_nil_of_length_eq_zero hla
    subst hl0
    go_enter Try.func48, Try.ntmps48
    go_wp2_with fail
    go_quiet (fail)
    go_wp2_with fail
    go_ret
    exact ⟨rfl, HG.out _ _⟩
  · obtain ⟨y, l', rfl⟩ : ∃ y l', l = y :: l' := by
      cases l with
      | nil => simp at hla; omega
      | cons y l' => exact ⟨y, l', rfl⟩
    obtain ⟨g, o, y', rfl, hg, hy, c1, c2⟩ := HA.out.at_ h0
    have hyy : y' = y := by simpa using hy.symm
    subst hyy
    have heq := eql_id y' x
    have htl := run_tail (some ⟨g, o, none⟩) n c (by omega)
    have d1 := (World.cell?_alloc_lt w (.cells #[.int .i64 x.1, .int .i64 x.2] 48) ⟨g, o + 0 * 2, none⟩ hg).trans c1
    have d2 := (World.cell?_alloc_lt w (.cells #[.int .i64 x.1, .int .i64 x.2] 48) ⟨g, o + 0 * 2 + 1, none⟩ hg).trans c2
    rw [Nat.zero_mul, Nat.add_zero] at d1 d2
    clear hy c1 c2
    by_cases hyx : y' = x
    · rw [decide_eq_true hyx] at heq
      have e1 : pastA (y' :: l') x (some ⟨g, o, none⟩) c = tailA (some ⟨g, o, none⟩) c := by simp [pastA, hyx]
      have e2 : pastC (y' :: l') x c = c - 1 := by simp [pastC, hyx]
      have e3 : (past (y' :: l') x).length = n - 1 := by
        have : past (y' :: l') x = l' := by simp [past, hyx]
        rw [this]
        simp at hla
        omega
      rw [e1, e2, e3]
      generalize tailA (some ⟨g, o, none⟩) c = T at htl ⊢
      clear e1 e2 e3 hyx
      obtain ⟨x1, x2⟩ := x
      obtain ⟨y1, y2⟩ := y'
      simp only at heq d1 d2
      go_enter Try.func48, Try.ntmps48
      go_wp2_with fail
      go_quiet (fail)
      go_wp2_with fail
      go_ret
      exact ⟨rfl, HG.out _ _⟩
    · rw [decide_eq_false hyx] at heq
      have e1 : pastA (y' :: l') x (some ⟨g, o, none⟩) c = some ⟨g, o, none⟩ := by simp [pastA, hyx]
      have e2 : pastC (y' :: l') x c = c := by simp [pastC, hyx]
      have e3 : (past (y' :: l') x).length = n := by
        have : past (y' :: l') x = y' :: l' := by simp [past, hyx]
        rw [this]
        exact hla
      rw [e1, e2, e3]
      clear e1 e2 e3 hyx
      obtain ⟨x1, x2⟩ := x
      obtain ⟨y1, y2⟩ := y'
      simp only at heq d1 d2
      go_enter Try.func48, Try.ntmps48
      go_wp2_with fail
      go_quiet (fail)
      go_wp2_with fail
      go_ret
      exact ⟨rfl, HG.out _ _⟩

def lenOf : Value → Nat
  | .slice _ n _ => n
  | _ => 0
def JnRel (a b : List (Int × Int)) (w : World) (v0 v1 v5 : Value) (wr : World) : Prop :=
  ∃ (a' b' out : List (Int × Int)) (A' : Option Addr) (ca : Nat) (B' : Option Addr) (cb : Nat) (V : Option Addr) (m cv : Nat), v0 = .slice A' a'.length ca ∧ v1 = .slice B' b'.length cb ∧ v5 = .slice V m cv ∧ Joins a b out a' b' ∧ out.length = m ∧
    Rs w A' a'.length ca a' ∧ Rs w B' b'.length cb b' ∧ wr.ownsRow w.heap.size 48 2 (.slice V m cv) m (cells out) ∧ Below w.heap.size w wr
theorem past_less {p q x : Int × Int} {a b : List (Int × Int)} (hx : x = if lt q p = true then q else p) : (past (p :: a) x).length + (past (q :: b) x).length < (a.length + 1) + (b.length + 1) := by
  have h2 := past_len (l := p :: a) (x := x)
  have h3 := past_len (l := q :: b) (x := x)
  subst hx
  split
  · have := past_lt (a := q) (l := b)
    rw [if_pos (by assumption)] at h2
    simp only [List.length_cons] at *
    omega
  · have := past_lt (a := p) (l := a)
    rw [if_neg (by assumption)] at h3
    simp only [List.length_cons] at *
    omega

set_option maxHeartbeats 4000000 in
theorem join_makes (a b : List (Int × Int)) (A B : Option Addr) (n c m d : Nat) (w : World) (ha : Rs w A n c a) (hb : Rs w B m d b) (ua : Up a) (ub : Up b) (hn : n ≤ 536870912) (hm : m ≤ 536870912) :
    Calls Try.prog 26 #[.slice A n c, .slice B m d] w (Makes w (joinl a b)) := by
  obtain ⟨i0, hi, hz0, hz1, hz2⟩ := info_parts infoId
  have hla := ha.len
  have hlb := hb.len
  have HA := Lib.hid ha
  have HB := Lib.hid hb
  have HUA := Lib.hid ua
  have HUB := Lib.hid ub
  obtain ⟨S, hS⟩ : ∃ S : Nat, n + m = S := ⟨_, rfl⟩
  have hw1 : IntKind.i64.wrap ((n : Int) + m) = (S : Int) := by rw [wrap64 (by omega) (by omega)]; omega
  obtain ⟨w1, hmk, hown1, hgr1⟩ := run_make_own (P := Try.prog) w w.heap.size 22 48 i0 _ 2 Try.underlying22 hi hz0 hz1 .i64 .i64 S (by rw [hz2]; omega) (by unfold maxLen; omega) (Nat.le_refl _)
  have HO1 := Lib.hid hown1
  have HB1 := Lib.hid ((Below.refl w.heap.size w).grown hgr1 (Nat.le_refl _) (fun k hk => by cases hk))
  clear ha hb ua ub hown1 hgr1
  go_enter Try.func26, Try.ntmps26
  go_wp2_with fail
  clear hmk hw1
  go_loopw [0, 1, 5] (JnRel a b w) (fun v0 v1 _ _ => lenOf v0 + lenOf v1)
  case atStart =>
    refine ⟨a, b, [], A, c, B, d, _, 0, S, by rw [hla], by rw [hlb], rfl, Joins.start HUA.out HUB.out, rfl, by rw [hla]; exact HA.out, by rw [hlb]; exact HB.out, HO1.out, HB1.out⟩
  case round =>
    obtain ⟨a', b', out, A', ca, B', cb, V, m, cv, rfl, rfl, rfl, hj, hml, hra, hrb, hown, hbw⟩ := hrel
    have hsz := hbw.size
    have hjl := hj.len
    have hca := And.intro hra.le hra.cap
    have hcb := And.intro hrb.le hrb.cap
    unfold maxLen at hca hcb
    have HJ := Lib.hid hj
    have HM := Lib.hid hml
    have HRA := Lib.hid hra
    have HRB := Lib.hid hrb
    have HO := Lib.hid hown
    have HBW := Lib.hid hbw
    have hmb : m ≤ 1073741824 := by omega
    clear hj hml hra hrb hown hbw
    rcases a' with _ | ⟨⟨p1, p2⟩, a'⟩
    · simp only [List.length_nil] at hca hjl HRA ⊢
      have HSTOP := Lib.hid (HJ.out.stop (.inl rfl))
      go_wp2_with (first
        | (at_builtin
           refine wpList_append_rs rfl _ _ 22 rfl w.heap.size 48 i0 _ Try.underlying22 hi hz0 hz1 hz2 rfl V m cv _ rfl HO.out A' 0 ca [] rfl (HRA.out.below HBW.out) (by omega) (by omega) ?_
           intro V3 c3 w3 hown3 _ hb3
           have hbw3 : Below w.heap.size w w3 := HBW.out.trans hb3
           have HB3 := Lib.hid hbw3
           have hs3 := hbw3.size
           have HO3 := Lib.hid hown3
           clear hbw3 hown3 hb3 HO)
        | (at_builtin
           refine wpList_append_rs rfl _ _ 22 rfl w.heap.size 48 i0 _ Try.underlying22 hi hz0 hz1 hz2 rfl V3 (m + 0) c3 _ rfl HO3.out B' b'.length cb b' rfl (HRB.out.below HB3.out) (by omega) (by omega) ?_
           intro V4 c4 w4 hown4 _ hb4
           clear HO3
           have HO4 := Lib.hid hown4
           have HB4 := Lib.hid hb4
           clear hown4 hb4))
      go_ret
      have hres : out ++ [] ++ b' = joinl a b := setl_eq HSTOP.out.1 (fun x => (HSTOP.out.2 x).trans List.mem_append.symm)
      have hlen : (joinl a b).length = m + 0 + b'.length := by rw [← hres, List.length_append, List.length_append, HM.out]; rfl
      refine ⟨V4, c4, by rw [hlen]; rfl, ?_, HB3.out.trans HB4.out⟩
      rw [hlen, ← hres]
      exact HO4.out
    · rcases b' with _ | ⟨⟨q1, q2⟩, b'⟩
      · simp only [List.length_nil, List.length_cons] at hca hcb hjl HRA HRB ⊢
        have HSTOP := Lib.hid (HJ.out.stop (.inr rfl))
        go_wp2_with (first
          | (at_builtin
             refine wpList_append_rs rfl _ _ 22 rfl w.heap.size 48 i0 _ Try.underlying22 hi hz0 hz1 hz2 rfl V m cv _ rfl HO.out A' (a'.length + 1) ca ((p1, p2) :: a') rfl (HRA.out.below HBW.out) (by omega) (by omega) ?_
             intro V3 c3 w3 hown3 _ hb3
             have hbw3 : Below w.heap.size w w3 := HBW.out.trans hb3
             have HB3 := Lib.hid hbw3
             have hs3 := hbw3.size
             have HO3 := Lib.hid hown3
             clear hbw3 hown3 hb3 HO)
          | (at_builtin
             refine wpList_append_rs rfl _ _ 22 rfl w.heap.size 48 i0 _ Try.underlying22 hi hz0 hz1 hz2 rfl V3 (m + (a'.length + 1)) c3 _ rfl HO3.out B' 0 cb [] rfl (HRB.out.below HB3.out) (by omega) (by omega) ?_
             intro V4 c4 w4 hown4 _ hb4
             clear HO3
             have HO4 := Lib.hid hown4
             have HB4 := Lib.hid hb4
             clear hown4 hb4))
        go_ret
        have hres : out ++ ((p1, p2) :: a') ++ [] = joinl a b := setl_eq HSTOP.out.1 (fun x => (HSTOP.out.2 x).trans List.mem_append.symm)
        have hlen : (joinl a b).length = m + (a'.length + 1) + 0 := by rw [← hres, List.length_append, List.length_append, HM.out]; rfl
        refine ⟨V4, c4, by rw [hlen]; rfl, ?_, HB3.out.trans HB4.out⟩
        rw [hlen, ← hres]
        exact HO4.out
      · simp only [List.length_cons] at hca hcb hjl HRA HRB ⊢
        obtain ⟨g, o, x, rfl, hg, hx, c1, c2⟩ := (HRA.out.below HBW.out).at_ (k := 0) (by omega)
        obtain ⟨g', o', y, rfl, hg', hy, d1, d2⟩ := (HRB.out.below HBW.out).at_ (k := 0) (by omega)
        simp only [List.getElem?_cons_zero, Option.some.injEq] at hx hy
        subst hx; subst hy
        simp only [Nat.zero_mul, Nat.add_zero] at c1 c2 d1 d2
        go_wp2_with fail
        have hblk := Blk.new wr 48 #[.int .i64 p1, .int .i64 p2]
        have hb1 : Below wr.heap.size wr (wr.alloc (.cells #[.int .i64 p1, .int .i64 p2] 48)) := bel_alloc (Below.refl _ _) _
        have f1 := (hb1.cell (p := ⟨g', o', none⟩) hg').trans d1
        have f2 := (hb1.cell (p := ⟨g', o' + 1, none⟩) hg').trans d2
        generalize wr.alloc (.cells #[.int .i64 p1, .int .i64 p2] 48) = W at hblk hb1 f1 f2 ⊢
        have hsW := hb1.size
        have hx0 := fun q os => cell_grown (w := W) (a := ⟨wr.heap.size, 0, none⟩) hblk.lt (hblk.cell 0) q os
        have hx1 := fun q os => cell_grown (w := W) (a := ⟨wr.heap.size, 1, none⟩) hblk.lt (hblk.cell 1) q os
        have hy0 := fun q os => cell_grown (w := W) (a := ⟨g', o', none⟩) (show g' < W.heap.size by omega) f1 q os
        have hy1 := fun q os => cell_grown (w := W) (a := ⟨g', o' + 1, none⟩) (show g' < W.heap.size by omega) f2 q os
        have hll := fun W => less_grew (q1, q2) (p1, p2) W
        have HBLK := Lib.hid hblk
        have HBX := Lib.hid hb1
        clear hblk hb1 c1 c2 d1 d2 f1 f2
        cases hl : lt (q1, q2) (p1, p2) with
        | true =>
          rw [hl] at hll
          have HL := Lib.hid hll
          have HJS := Lib.hid (HJ.out.step (x := (q1, q2)) (by rw [if_pos hl]))
          have HLT := Lib.hid (past_less (a := a') (b := b') (p := (p1, p2)) (q := (q1, q2)) (x := (q1, q2)) (by rw [if_pos hl]))
          clear hll hl
          refine wp_region_quiet_grown (by kernel_rfl) (by kernel_rfl) ?_
          repeat (first | ((with_reducible refine wpQuiet_skip ?_ ?_); (focus rfl); simp only [Act.put, List.setIfInBounds_toArray, List.set_cons_zero, List.set_cons_succ]) | ((with_reducible refine wpQuiet_step (fun K hK => ?_)); go_simp; first | ((with_reducible refine hK _ ?_); clear hK K) | (apply Exists.intro; refine ⟨fun _ => ?_, hK _ ?_⟩; exact Calls.grown_of (HL.out _); clear hK K)))
          with_reducible refine wpQuiet_nil ?_
          intro _ hw'
          obtain ⟨⟨nq, osq⟩, hw''⟩ := hw'
          subst hw''
          have hgw : Grew W (grow (W.drewN nq) osq) := ⟨nq, osq, rfl⟩
          have hbg1 := HBX.out.trans (hgw.bel.mono hsW)
          have hk1 := HBLK.out.bel hgw.bel
          have e1 := hx0 nq osq
          have e2 := hx1 nq osq
          have e3 := hy0 nq osq
          have e4 := hy1 nq osq
          generalize grow (W.drewN nq) osq = W1 at hbg1 hk1 e1 e2 e3 e4 ⊢
          have z0 := hk1.soft 0
          have z1 := hk1.soft 1
          have HK1 := Lib.hid hk1
          have HBG1 := Lib.hid hbg1
          have hsW1 := hbg1.size
          clear hgw hbg1 hk1 hx0 hx1 hy0 hy1
          have hb2 : Below wr.heap.size wr ((W1.setCell ⟨wr.heap.size, 0, none⟩ (.int .i64 q1)).setCell ⟨wr.heap.size, 1, none⟩ (.int .i64 q2)) := (HBG1.out.setCell (Nat.le_refl _) _).setCell (Nat.le_refl _) _
          have hk2 : Blk ((W1.setCell ⟨wr.heap.size, 0, none⟩ (.int .i64 q1)).setCell ⟨wr.heap.size, 1, none⟩ (.int .i64 q2)) wr.heap.size 48 #[.int .i64 q1, .int .i64 q2] := (HK1.out.put 0 (.int .i64 q1)).put 1 (.int .i64 q2)
          have hlit := Rs.lit ((W1.setCell ⟨wr.heap.size, 0, none⟩ (.int .i64 q1)).setCell ⟨wr.heap.size, 1, none⟩ (.int .i64 q2)) [(q1, q2)] #[.int .i64 q1, .int .i64 q2] 48 1 rfl rfl (by simp [maxLen])
          rw [show ((W1.setCell ⟨wr.heap.size, 0, none⟩ (.int .i64 q1)).setCell ⟨wr.heap.size, 1, none⟩ (.int .i64 q2)).heap.size = W1.heap.size by simp] at hlit
          have HLIT := Lib.hid hlit
          clear hlit
          have hown2 := ownsRow_below HO.out hb2
          have HO2 := Lib.hid hown2
          have HB2 := Lib.hid hb2
          have HK2 := Lib.hid hk2
          have hs2 := hb2.size
          have HNE := Lib.hid (show some wr.heap.size ≠ (Value.slice V m cv).ownBlock from fun e => by have := (HO.out.lt wr.heap.size e.symm).2; omega)
          clear hown2 hb2 hk2
          go_wp2_with (at_builtin; refine wpList_append_rs rfl _ _ 22 rfl w.heap.size 48 i0 _ Try.underlying22 hi hz0 hz1 hz2 rfl V m cv _ rfl (World.ownsRow.alloc HO2.out _) _ 1 1 [(q1, q2)] rfl HLIT.out (by omega) (by simp; omega) ?_; intro V3 c3 w3 hown3 hg3 hb3)
          have hbw3 : Below w.heap.size w w3 := ((HBW.out.trans (HB2.out.mono hsz)).alloc (by omega) _).trans hb3
          have hk3 : Blk w3 wr.heap.size 48 #[.int .i64 q1, .int .i64 q2] := (HK2.out.alloc _).grown hg3 HNE.out
          have HO3 := Lib.hid hown3
          have HB3 := Lib.hid hbw3
          have hs3 := hbw3.size
          have hd0 := fun q os => cell_grown (w := w3) (a := ⟨wr.heap.size, 0, none⟩) hk3.lt (hk3.cell 0) q os
          have hd1 := fun q os => cell_grown (w := w3) (a := ⟨wr.heap.size, 1, none⟩) hk3.lt (hk3.cell 1) q os
          have HPA := Lib.hid (fun q os => past_grew ((p1, p2) :: a') (q1, q2) (some ⟨g, o, none⟩) (a'.length + 1) ca (grow (w3.drewN q) os) (HRA.out.below (hbw3.trans ((Grew.bel ⟨q, os, rfl⟩).mono hs3))))
          have HPB := Lib.hid (fun q os => past_grew ((q1, q2) :: b') (q1, q2) (some ⟨g', o', none⟩) (b'.length + 1) cb (grow (w3.drewN q) os) (HRB.out.below (hbw3.trans ((Grew.bel ⟨q, os, rfl⟩).mono hs3))))
          have hbg : ∀ q os, Below w.heap.size w (grow (w3.drewN q) os) := fun q os => hbw3.trans ((Grew.bel ⟨q, os, rfl⟩).mono hs3)
          have hog : ∀ q os, (grow (w3.drewN q) os).ownsRow w.heap.size 48 2 (.slice V3 (m + 1) c3) (m + 1) (cells (out ++ [(q1, q2)])) := fun q os => ownsRow_below hown3 (Grew.bel ⟨q, os, rfl⟩)
          have HBG := Lib.hid hbg
          have HOG := Lib.hid hog
          clear hown3 hg3 hb3 hbw3 hk3 hbg hog
          generalize hpa : pastA ((p1, p2) :: a') (q1, q2) (some ⟨g, o, none⟩) ca = PA at HPA
          generalize hna : (past ((p1, p2) :: a') (q1, q2)).length = NA at HPA
          generalize hcc : pastC ((p1, p2) :: a') (q1, q2) ca = CA at HPA
          generalize hpb : pastA ((q1, q2) :: b') (q1, q2) (some ⟨g', o', none⟩) cb = PB at HPB
          generalize hnb : (past ((q1, q2) :: b') (q1, q2)).length = NB at HPB
          generalize hcd : pastC ((q1, q2) :: b') (q1, q2) cb = CB at HPB
          have HV := Lib.hid (And.intro hpa (And.intro hna (And.intro hcc (And.intro hpb (And.intro hnb hcd)))))
          clear hpa hna hcc hpb hnb hcd
          go_wp2_with fail
          refine wp_region_quiet_grown (by kernel_rfl) (by kernel_rfl) ?_
          repeat (first | ((with_reducible refine wpQuiet_skip ?_ ?_); (focus rfl); simp only [Act.put, List.setIfInBounds_toArray, List.set_cons_zero, List.set_cons_succ]) | ((with_reducible refine wpQuiet_step (fun K hK => ?_)); go_simp; (with_reducible refine hK _ ?_); clear hK K))
          with_reducible refine wpQuiet_step (fun K hK => ?_)
          go_simp
          apply Exists.intro
          refine ⟨fun _ => ?_, hK _ ?_⟩
          exact Calls.grown_of (HPA.out _ _)
          clear hK K
          repeat (first | ((with_reducible refine wpQuiet_skip ?_ ?_); (focus rfl); simp only [Act.put, List.setIfInBounds_toArray, List.set_cons_zero, List.set_cons_succ]) | ((with_reducible refine wpQuiet_step (fun K hK => ?_)); go_simp; (with_reducible refine hK _ ?_); clear hK K))
          with_reducible refine wpQuiet_step (fun K hK => ?_)
          go_simp
          apply Exists.intro
          refine ⟨fun _ => ?_, hK _ ?_⟩
          exact Calls.grown_of (HPB.out _ _)
          clear hK K
          repeat (first | ((with_reducible refine wpQuiet_skip ?_ ?_); (focus rfl); simp only [Act.put, List.setIfInBounds_toArray, List.set_cons_zero, List.set_cons_succ]) | ((with_reducible refine wpQuiet_step (fun K hK => ?_)); go_simp; (with_reducible refine hK _ ?_); clear hK K))
          with_reducible refine wpQuiet_nil ?_
          intro _ hw'
          obtain ⟨⟨nq, osq⟩, hw''⟩ := hw'
          subst hw''
          go_wp2_with fail
          go_roundw
          case rel =>
            obtain ⟨e1, e2, e3, e4, e5, e6⟩ := HV.out
            subst e1; subst e2; subst e3; subst e4; subst e5; subst e6
            refine ⟨_, _, _, _, _, _, _, V3, m + 1, c3, rfl, rfl, rfl, HJS.out, by rw [List.length_append, HM.out]; rfl, past_rs _ HRA.out, past_rs _ HRB.out, HOG.out _ _, HBG.out _ _⟩
          case measure =>
            have hlen := HJS.out.len
            have hlt := HLT.out
            obtain ⟨e1, e2, e3, e4, e5, e6⟩ := HV.out
            simp only [lenOf]
            rw [← e2, ← e5]
            omega
        | false =>
          rw [hl] at hll
          have HL := Lib.hid hll
          have HJS := Lib.hid (HJ.out.step (x := (p1, p2)) (by rw [if_neg (by simp [hl])]))
          have HLT := Lib.hid (past_less (a := a') (b := b') (p := (p1, p2)) (q := (q1, q2)) (x := (p1, p2)) (by rw [if_neg (by simp [hl])]))
          clear hll hl
          refine wp_region_quiet_grown (by kernel_rfl) (by kernel_rfl) ?_
          repeat (first | ((with_reducible refine wpQuiet_skip ?_ ?_); (focus rfl); simp only [Act.put, List.setIfInBounds_toArray, List.set_cons_zero, List.set_cons_succ]) | ((with_reducible refine wpQuiet_step (fun K hK => ?_)); go_simp; first | ((with_reducible refine hK _ ?_); clear hK K) | (apply Exists.intro; refine ⟨fun _ => ?_, hK _ ?_⟩; exact Calls.grown_of (HL.out _); clear hK K)))
          with_reducible refine wpQuiet_nil ?_
          intro _ hw'
          obtain ⟨⟨nq, osq⟩, hw''⟩ := hw'
          subst hw''
          have hgw : Grew W (grow (W.drewN nq) osq) := ⟨nq, osq, rfl⟩
          have hb2 := HBX.out.trans (hgw.bel.mono hsW)
          have hk2 := HBLK.out.bel hgw.bel
          generalize grow (W.drewN nq) osq = W2 at hb2 hk2 ⊢
          clear hgw hx0 hx1 hy0 hy1
          have hown2 := ownsRow_below HO.out hb2
          have HO2 := Lib.hid hown2
          have HB2 := Lib.hid hb2
          have HK2 := Lib.hid hk2
          have hs2 := hb2.size
          have k0 : W2.cell? ⟨wr.heap.size, 0, none⟩ = some (.int .i64 p1) := hk2.cell 0
          have k1 : W2.cell? ⟨wr.heap.size, 1, none⟩ = some (.int .i64 p2) := hk2.cell 1
          have HNE := Lib.hid (show some wr.heap.size ≠ (Value.slice V m cv).ownBlock from fun e => by have := (HO.out.lt wr.heap.size e.symm).2; omega)
          clear hown2 hb2 hk2
          go_wp2_with (at_builtin; refine wpList_append_rs rfl _ _ 22 rfl w.heap.size 48 i0 _ Try.underlying22 hi hz0 hz1 hz2 rfl V m cv _ rfl (World.ownsRow.alloc HO2.out _) _ 1 1 [(p1, p2)] rfl (Rs.lit _ [(p1, p2)] _ _ 1 rfl rfl (by simp [maxLen])) (by omega) (by simp; omega) ?_; intro V3 c3 w3 hown3 hg3 hb3)
          have hbw3 : Below w.heap.size w w3 := ((HBW.out.trans (HB2.out.mono hsz)).alloc (by omega) _).trans hb3
          have hk3 : Blk w3 wr.heap.size 48 #[.int .i64 p1, .int .i64 p2] := (HK2.out.alloc _).grown hg3 HNE.out
          have HO3 := Lib.hid hown3
          have HB3 := Lib.hid hbw3
          have hs3 := hbw3.size
          have hd0 := fun q os => cell_grown (w := w3) (a := ⟨wr.heap.size, 0, none⟩) hk3.lt (hk3.cell 0) q os
          have hd1 := fun q os => cell_grown (w := w3) (a := ⟨wr.heap.size, 1, none⟩) hk3.lt (hk3.cell 1) q os
          have HPA := Lib.hid (fun q os => past_grew ((p1, p2) :: a') (p1, p2) (some ⟨g, o, none⟩) (a'.length + 1) ca (grow (w3.drewN q) os) (HRA.out.below (hbw3.trans ((Grew.bel ⟨q, os, rfl⟩).mono hs3))))
          have HPB := Lib.hid (fun q os => past_grew ((q1, q2) :: b') (p1, p2) (some ⟨g', o', none⟩) (b'.length + 1) cb (grow (w3.drewN q) os) (HRB.out.below (hbw3.trans ((Grew.bel ⟨q, os, rfl⟩).mono hs3))))
          have hbg : ∀ q os, Below w.heap.size w (grow (w3.drewN q) os) := fun q os => hbw3.trans ((Grew.bel ⟨q, os, rfl⟩).mono hs3)
          have hog : ∀ q os, (grow (w3.drewN q) os).ownsRow w.heap.size 48 2 (.slice V3 (m + 1) c3) (m + 1) (cells (out ++ [(p1, p2)])) := fun q os => ownsRow_below hown3 (Grew.bel ⟨q, os, rfl⟩)
          have HBG := Lib.hid hbg
          have HOG := Lib.hid hog
          clear hown3 hg3 hb3 hbw3 hk3 hbg hog k0 k1
          generalize hpa : pastA ((p1, p2) :: a') (p1, p2) (some ⟨g, o, none⟩) ca = PA at HPA
          generalize hna : (past ((p1, p2) :: a') (p1, p2)).length = NA at HPA
          generalize hcc : pastC ((p1, p2) :: a') (p1, p2) ca = CA at HPA
          generalize hpb : pastA ((q1, q2) :: b') (p1, p2) (some ⟨g', o', none⟩) cb = PB at HPB
          generalize hnb : (past ((q1, q2) :: b') (p1, p2)).length = NB at HPB
          generalize hcd : pastC ((q1, q2) :: b') (p1, p2) cb = CB at HPB
          have HV := Lib.hid (And.intro hpa (And.intro hna (And.intro hcc (And.intro hpb (And.intro hnb hcd)))))
          clear hpa hna hcc hpb hnb hcd
          go_wp2_with fail
          refine wp_region_quiet_grown (by kernel_rfl) (by kernel_rfl) ?_
          repeat (first | ((with_reducible refine wpQuiet_skip ?_ ?_); (focus rfl); simp only [Act.put, List.setIfInBounds_toArray, List.set_cons_zero, List.set_cons_succ]) | ((with_reducible refine wpQuiet_step (fun K hK => ?_)); go_simp; (with_reducible refine hK _ ?_); clear hK K))
          with_reducible refine wpQuiet_step (fun K hK => ?_)
          go_simp
          apply Exists.intro
          refine ⟨fun _ => ?_, hK _ ?_⟩
          exact Calls.grown_of (HPA.out _ _)
          clear hK K
          repeat (first | ((with_reducible refine wpQuiet_skip ?_ ?_); (focus rfl); simp only [Act.put, List.setIfInBounds_toArray, List.set_cons_zero, List.set_cons_succ]) | ((with_reducible refine wpQuiet_step (fun K hK => ?_)); go_simp; (with_reducible refine hK _ ?_); clear hK K))
          with_reducible refine wpQuiet_step (fun K hK => ?_)
          go_simp
          apply Exists.intro
          refine ⟨fun _ => ?_, hK _ ?_⟩
          exact Calls.grown_of (HPB.out _ _)
          clear hK K
          repeat (first | ((with_reducible refine wpQuiet_skip ?_ ?_); (focus rfl); simp only [Act.put, List.setIfInBounds_toArray, List.set_cons_zero, List.set_cons_succ]) | ((with_reducible refine wpQuiet_step (fun K hK => ?_)); go_simp; (with_reducible refine hK _ ?_); clear hK K))
          with_reducible refine wpQuiet_nil ?_
          intro _ hw'
          obtain ⟨⟨nq, osq⟩, hw''⟩ := hw'
          subst hw''
          go_wp2_with fail
          go_roundw
          case rel =>
            obtain ⟨e1, e2, e3, e4, e5, e6⟩ := HV.out
            subst e1; subst e2; subst e3; subst e4; subst e5; subst e6
            refine ⟨_, _, _, _, _, _, _, V3, m + 1, c3, rfl, rfl, rfl, HJS.out, by rw [List.length_append, HM.out]; rfl, past_rs _ HRA.out, past_rs _ HRB.out, HOG.out _ _, HBG.out _ _⟩
          case measure =>
            have hlen := HJS.out.len
            have hlt := HLT.out
            obtain ⟨e1, e2, e3, e4, e5, e6⟩ := HV.out
            simp only [lenOf]
            rw [← e2, ← e5]
            omega

theorem join_any (a b : List (Int × Int)) (A B : Option Addr) (n c m d : Nat) (w : World) (ha : Rs w A n c a) (hb : Rs w B m d b) (ua : Up a) (ub : Up b) (hn : n ≤ 536870912) (hm : m ≤ 536870912) :
    Calls Try.prog 26 #[.slice A n c, .slice B m d] w (Gets w (joinl a b)) :=
  (join_makes a b A B n c m d w ha hb ua ub hn hm).mono fun _ _ h => h.gets
end Go.Proofs.Ytccbkpdkmdnmfaa
