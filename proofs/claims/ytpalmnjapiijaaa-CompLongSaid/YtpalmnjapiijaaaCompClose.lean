/-
  Texts of earlier layers, as one.
-/
import Derived.Test.YtpalmnjapiijaaaCompEnter
import Derived.StillTailTactics
/- The program's close: a component is whole. -/
namespace Go.Proofs.Ytpalmnjapiijaaa.Gr
open Go.RowKit Mem Dsk

/-- A slice's length. -/
def hlen (o : Option Value) : Nat := match o with
  | some (.slice _ n _) => n
  | _ => 0
theorem toZ_take (l : List Nat) (x : Nat) : (toZ (l ++ [x])).take l.length = toZ l := by
  rw [toZ_append, ← toZ_length l, List.take_left']
  rfl
theorem Own1.last {w : World} {B : Nat} {col : Nat → Nat} {k : Nat} {A : Option Addr} {n c : Nat} {Q : List Nat} {x : Nat} (h : Own1 w B col k A n c (toZ (Q ++ [x]))) : n = Q.length + 1 ∧ n ≤ c ∧ ∃ g o, A = some ⟨g, o, none⟩ ∧ g < w.heap.size ∧ w.cell? ⟨g, o + Q.length, none⟩ = some (.int .i64 (x : Int)) := by
  have hn : n = Q.length + 1 := by have := h.len; rw [toZ_length, List.length_append] at this; exact this.symm
  obtain ⟨g, o, z, e, hg, hz, hc⟩ := int_at h.rw_ (k := Q.length) (by omega)
  refine ⟨hn, h.rw_.le, g, o, e, hg, ?_⟩
  have : (toZ (Q ++ [x]))[Q.length]? = some (x : Int) := by
    unfold toZ
    rw [List.getElem?_map, List.getElem?_append_right (Nat.le_refl _), Nat.sub_self]
    rfl
  rw [this] at hz
  cases hz
  exact hc
/-- With the open nodes' last ones gone. -/
def TS.drop (s : TS) (O D : List Nat) : TS := { s with opn := O, of := fun v => if v ∈ D then s.comps else s.of v, low := fun v => if v ∈ D then MX else s.low v }
theorem if_upd {α : Type} {D : List Nat} {x : Nat} {a : α} {f : Nat → α} : upd (fun v => if v ∈ D then a else f v) x a = fun v => if v ∈ x :: D then a else f v := by
  funext v
  unfold upd
  by_cases e : v = x
  · simp [e]
  · simp [e]
def ClRel (w0 : World) (A : Option Addr) (n c p bo bf bl bg : Nat) (s : TS) (A' : List Nat) (i : Nat) (D : List Nat) (_ : Value) (w : World) : Prop := ∃ (D1 D2 : List Nat) (col : Nat → Nat) (Ap : Option Addr) (cp : Nat) (Ao : Option Addr) (co : Nat), D = D1 ++ D2 ∧ TM w0 A n c p bo bf bl bg w col Ap cp Ao co (s.drop (A' ++ i :: D1) D2)
theorem split_last (A' : List Nat) (i : Nat) (D1 : List Nat) : ∃ Q x, A' ++ i :: D1 = Q ++ [x] ∧ ((D1 = [] ∧ Q = A' ∧ x = i) ∨ ∃ D', D1 = D' ++ [x] ∧ Q = A' ++ i :: D') := by
  rcases List.eq_nil_or_concat D1 with rfl | ⟨D', x, rfl⟩
  · exact ⟨A', i, rfl, .inl ⟨rfl, rfl, rfl⟩⟩
  · exact ⟨A' ++ i :: D', x, by simp, .inr ⟨D', by simp, rfl⟩⟩
set_option maxRecDepth 20000 in
set_option maxHeartbeats 8000000 in
theorem close_any {w0 w : World} {A : Option Addr} {n c p bo bf bl bg i : Nat} {col : Nat → Nat} {Ap Ao : Option Addr} {cp co : Nat} {s : TS} {A' D : List Nat} (h : TM w0 A n c p bo bf bl bg w col Ap cp Ao co s) (ho : s.opn = A' ++ i :: D) (hlt : ∀ v ∈ s.opn, v < n) (hD : i ∉ D) (hn : s.comps ≤ 1000000) (hl : s.opn.length ≤ 1000000) :
    Calls Try.prog 20 #[ptr p, .int .i64 (i : Int)] w (Left w0 A n c p bo bf bl bg (s.close s.path A' i D)) := by
  have HI := Lib.hid (show ClRel w0 A n c p bo bf bl bg s A' i D undef w from ⟨D, [], col, Ap, cp, Ao, co, by simp, by
    have e : s.drop (A' ++ i :: D) [] = s := by
      unfold TS.drop
      rw [← ho]
      simp
    rw [e]
    exact h⟩)
  have HO := Lib.hid (And.intro ho (And.intro hlt (And.intro hD (And.intro hn hl))))
  clear h ho hlt hD hn hl
  unfold ptr
  go_enter Try.func20, Try.ntmps20
  go_wp2_with fail
  go_loopw [4] (ClRel w0 A n c p bo bf bl bg s A' i D) (fun _ w => hlen (w.cell? ⟨p, 2, none⟩))
  case atStart => exact HI.out
  case round =>
    rename World => wr
    obtain ⟨D1, D2, col1, Ap1, cp1, Ao1, co1, hD, h1⟩ := hrel
    clear HI
    obtain ⟨Q, x, hQ, hcase⟩ := split_last A' i D1
    rw [hQ] at h1
    have hxo : x ∈ s.opn := by
      rw [HO.out.1, hD]
      have : x ∈ A' ++ i :: D1 := by rw [hQ]; simp
      rcases List.mem_append.1 this with h | h
      · exact List.mem_append_left _ h
      · refine List.mem_append_right _ ?_
        rw [← List.cons_append]
        exact List.mem_append_left _ h
    have hxn := HO.out.2.1 x hxo
    have hQl : Q.length + 1 ≤ s.opn.length := by
      have e : (A' ++ i :: D1).length = Q.length + 1 := by rw [hQ]; simp
      rw [HO.out.1, hD]
      simp only [List.length_append, List.length_cons] at e ⊢
      omega
    obtain ⟨q, hq⟩ : ∃ q, Q.length = q := ⟨_, rfl⟩
    obtain ⟨hm, hmc, g, o, rfl, hg, e0⟩ := h1.opn.last
    obtain ⟨cm, hcm⟩ : ∃ x, s.comps = x := ⟨_, rfl⟩
    obtain ⟨c0, c1, c2, c3, c4, c5, c6, c7, c8⟩ := h1.cells
    have e1 : (s.drop (Q ++ [x]) D2).opn.length = q + 1 := by rw [hm, hq]
    have e2 : (s.drop (Q ++ [x]) D2).comps = cm := hcm
    rw [e1] at c2 hmc
    rw [e2] at c4
    rw [hq] at e0 hQl
    have hw : IntKind.i64.wrap ((q : Int) + 1 - 1) = (q : Int) := by rw [show (q : Int) + 1 - 1 = (q : Int) by omega]; exact wr64 (by have := HO.out.2.2.2.2; omega) (by have := HO.out.2.2.2.2; omega)
    have hw' : wrap64 (q : Int) = (q : Int) := by unfold wrap64; have := HO.out.2.2.2.2; omega
    have HM0 := Lib.hid (show hlen (wr.cell? ⟨p, 2, none⟩) = q + 1 by rw [c2]; rfl)
    have hqc : q ≤ co1 := Nat.le_of_succ_le hmc
    have f2 := h1.soft 2
    have H1 := Lib.hid h1
    have HX := Lib.hid (And.intro hQ (And.intro hcase (And.intro hD (And.intro hQl (And.intro hq (And.intro hm (And.intro hcm (And.intro hxn (And.intro e1 (And.intro e2 hxo))))))))))
    clear h1 hQ hcase hD hQl hq hm hcm e1 e2 hxo
    go_upto_region 1 with fail
    go_quiet (fail)
    obtain ⟨W1, hW1⟩ : ∃ x, wr.drewN nq = x := ⟨_, rfl⟩
    have h1 := H1.out.turn (w' := W1) (by rw [← hW1]; exact below_drewN (Below.refl _ _) _)
    rw [hW1]
    clear hW1 e0 H1 hg
    clear c0 c1 c2 c3 c4 c5 c6 c7 c8 f2
    obtain ⟨c0, c1, c2, c3, c4, c5, c6, c7, c8⟩ := h1.cells
    have e1 := HX.out.2.2.2.2.2.2.2.2.1
    have e2 := HX.out.2.2.2.2.2.2.2.2.2.1
    rw [e1] at c2
    rw [e2] at c4
    have f2 := h1.soft 2
    have ho1 := h1.opn.take (m := q) (by rw [e1]; exact Nat.le_succ q)
    have htk : (toZ (s.drop (Q ++ [x]) D2).opn).take q = toZ Q := by
      rw [← HX.out.2.2.2.2.1]
      exact toZ_take Q x
    rw [htk] at ho1
    have hQq := HX.out.2.2.2.2.1
    have h2 := h1.setOpn (P := Q) (Turns.refl 7 W1 col1) (by rw [hQq]; exact ho1)
    rw [hQq] at h2
    have H2 := Lib.hid h2
    clear h1 h2 e1 e2 ho1 htk hQq
    go_upto_region 1 with fail
    go_region
    obtain ⟨W2, hW2⟩ : ∃ x, (W1.setCell ⟨p, 2, none⟩ (.slice (some ⟨g, o, none⟩) q co1)).drew = x := ⟨_, rfl⟩
    have h2 := H2.out.turn (w' := W2) (by rw [← hW2]; exact Below.drew (Below.refl _ _))
    rw [hW2]
    clear c0 c1 c2 c3 c4 c5 c6 c7 c8 f2 H2 hW2 hw hw'
    have hxn := HX.out.2.2.2.2.2.2.2.1
    obtain ⟨c0, c1, c2, c3, c4, c5, c6, c7, c8⟩ := h2.cells
    have e2 := HX.out.2.2.2.2.2.2.2.2.2.1
    have e2' : (({ s.drop (Q ++ [x]) D2 with opn := Q } : TS)).comps = cm := e2
    rw [e2'] at c4
    have q1 := h2.of.cell hxn
    have q2 := h2.low.cell hxn
    have g1 := h2.of.frozen x
    have g2 := h2.low.frozen x
    have hne : ¬ bo = bl := cne h2.oc h2.lc (by decide)
    have hne' : ¬ bl = bo := cne h2.lc h2.oc (by decide)
    have h3 : TM w0 A n c p bo bf bl bg ((W2.setCell ⟨bo, x, none⟩ (.int .i64 (cm : Int))).setCell ⟨bl, x, none⟩ (.int .i64 9223372036854775807)) col1 Ap1 cp1 (some ⟨g, o, none⟩) co1 (s.drop Q (x :: D2)) := by
      have h4 := (h2.setOf x cm).setLow x MX
      have e3 := HX.out.2.2.2.2.2.2.1
      unfold TS.drop at h4 ⊢
      rw [e3] at h4 ⊢
      simp only [if_upd] at h4
      exact h4
    have H3 := Lib.hid h3
    clear h2 h3 e2 e2'
    go_upto_region 2 with fail
    go_region
    obtain ⟨W3, hW3⟩ : ∃ y, ((W2.setCell ⟨bo, x, none⟩ (.int .i64 (cm : Int))).setCell ⟨bl, x, none⟩ (.int .i64 9223372036854775807)).drew = y := ⟨_, rfl⟩
    have h3 := H3.out.turn (w' := W3) (by rw [← hW3]; exact Below.drew (Below.refl _ _))
    rw [hW3]
    clear c0 c1 c2 c3 c4 c5 c6 c7 c8 q1 q2 g1 g2 hne hne' H3 hW3
    rcases HX.out.2.1 with ⟨hd, hQA, hxi⟩ | ⟨D', hd, hQA⟩
    · subst hxi
      obtain ⟨c0, c1, c2, c3, c4, c5, c6, c7, c8⟩ := h3.cells
      have f4 := h3.soft 4
      have e3 : (s.drop Q (x :: D2)).comps = cm := HX.out.2.2.2.2.2.2.1
      rw [e3] at c4
      have hcm : cm ≤ 1000000 := by rw [← HX.out.2.2.2.2.2.2.1]; exact HO.out.2.2.2.1
      have hwc : IntKind.i64.wrap ((cm : Int) + 1) = (cm : Int) + 1 := wr64 (by omega) (by omega)
      have hfin : Left w0 A n c p bo bf bl bg (s.close s.path A' x D) (.returned (.tuple #[])) (W3.setCell ⟨p, 4, none⟩ (.int .i64 ((cm : Int) + 1))) := by
        refine ⟨rfl, col1, Ap1, cp1, some ⟨g, o, none⟩, co1, ?_⟩
        have h4 := h3.setComps (cm + 1)
        have e5 : D = D2 := by rw [HX.out.2.2.1, hd]; rfl
        have e6 : s.comps = cm := HX.out.2.2.2.2.2.2.1
        unfold TS.close
        unfold TS.drop at h4
        rw [e6] at h4 ⊢
        rw [e5, ← hQA]
        exact h4
      have HF := Lib.hid hfin
      have hxx : ((x : Int) == (x : Int)) = true := by simp
      clear h3 hfin hd hQA e3 hcm c0 c1 c2 c3 c5 c6 c7 c8
      go_wp2_with fail
      first | go_end0 | refine bodyPost_ret (results_none rfl _ _ _) rfl ?_
      exact HF.out
    · have hxi : x ≠ i := fun e => HO.out.2.2.1 (by
        rw [HX.out.2.2.1, hd, ← e]
        simp)
      have hxe : ((x : Int) == (i : Int)) = false := by
        have : ¬ (x : Int) = (i : Int) := by omega
        simpa using this
      have hxn' : ¬ (x : Int) = (i : Int) := by omega
      have hms : hlen (W3.cell? ⟨p, 2, none⟩) = q := by
        obtain ⟨_, _, c2, _⟩ := h3.cells
        rw [c2]
        exact HX.out.2.2.2.2.1
      have hfin : ClRel w0 A n c p bo bf bl bg s A' i D (.int .i64 (x : Int)) W3 := by
        refine ⟨D', x :: D2, col1, Ap1, cp1, some ⟨g, o, none⟩, co1, by rw [HX.out.2.2.1, hd]; simp, ?_⟩
        rw [← hQA]
        exact h3
      have hm0 : hlen (wr.cell? ⟨p, 2, none⟩) = q + 1 := HM0.out
      have HF := Lib.hid (And.intro hfin (And.intro hms hm0))
      clear h3 hfin hms hm0 hd hQA hxi
      go_wp2_with fail
      go_roundw
      case rel => exact HF.out.1
      case measure =>
        rw [HF.out.2.1, HF.out.2.2]
        exact Nat.lt_succ_self q
end Go.Proofs.Ytpalmnjapiijaaa.Gr
