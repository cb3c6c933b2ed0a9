/-
  Texts of earlier layers, as one.
-/
import Derived.Test.YtcnjjabjdepjgaaDskAt
import Derived.Test.YtcnjjabjdepjgaaRBase
import Derived.Deep.RegionHeld
/- The document's all: a file's bytes, sure and tail, in memory of the call's own. -/
namespace Go.Proofs.Ytcnjjabjdepjgaa.Dsk
open Go.RowKit Mem Cod

theorem own_low {w : World} {base base' : Nat} {e : TypeId} {s : Nat} {v : Value} {n : Nat} {xs : List Value} (h : w.ownsRow base e s v n xs) (hb : base' ≤ base) : w.ownsRow base' e s v n xs :=
  ⟨h.1, h.2.imp id fun ⟨g, cap, cur, e1, hg, r⟩ => ⟨g, cap, cur, e1, Nat.le_trans hb hg, r⟩⟩
theorem info5 : (Try.prog.info? 5).map (fun i => (i.zero, i.size, i.bytes)) = some (some (.int .u8 0), 1, 1) := by kernel_rfl
theorem step_append_rd {P : Program} {w : World} {ops : Array Oper} {o : Oper} {a : Act} {K : Act → World → Prop} {Q : Exit → Act → World → Prop} {E : Prop} (hgd : o.guard = none) (s x : Operand) (t : TypeId)
    (ho : o.op = .call { callee := .builtin .append, args := #[s, x], argTypes := #[t, t] })
    (base : Nat) (e : TypeId) (i : TypeInfo) (z : Value) (bytes : Nat) (ht : P.underlying t = some (.slice e)) (hi : P.info? e = some i) (hz : i.zero = some z)
    (hsize : i.size = 1) (hby : i.bytes = bytes) (hzs : z.cells.size = 1)
    (V : Option Addr) (n cv : Nat) (xs : List Value) (hs : a.eval s = .slice V n cv) (hown : w.ownsRow base e 1 (.slice V n cv) n xs)
    (A : Option Addr) (m c : Nat) (news : List Value) (hx : a.eval x = .slice A m c) (hr : Rd w A m c news) (h1 : ∀ u ∈ news, u.oneCell' = true)
    (h63 : n + m ≤ maxLen) (hbytes : (n + m) * bytes ≤ 140737488355328) (hbase : base ≤ w.heap.size)
    (h : ∀ V' c' w', w'.ownsRow base e 1 (.slice V' (n + m) c') (n + m) (xs ++ news) → Below base w w' → K (a.put o.dst (.slice V' (n + m) c')) w') :
    if Region.wanted o (yielded ops a.tmps) = true then Oper.wp P o a w K Q else E := by
  have hw : Region.wanted o (yielded ops a.tmps) = true := by simp [Region.wanted, hgd]
  rw [if_pos hw]
  rcases A with _ | ad
  · have hc : c = 0 := hr.nil rfl
    have hm : m = 0 := by have := hr.le; omega
    subst hc; subst hm
    have hn : news = [] := List.eq_nil_of_length_eq_zero hr.len
    subst hn
    have hrun := run_append_owned_none (P := P) (w := w) base t o.type e i 1 ht hi _ n xs hown
    unfold Oper.wp
    simp [execOp, ho, resolve, invoke, builtin, hs, hx, hrun, Result.andThen]
    exact h V cv w (by simpa using hown) (Below.refl _ _)
  · refine wp_append_own w s x t ho base e i z 1 bytes ht hi hz hsize hby hzs (by omega) _ n xs hs hown ad m c news hx (by rw [hr.len, Nat.mul_one]) (hr.cells _ rfl) h1 h63 hbytes hbase
      fun v' w' hown' hg _ => ?_
    obtain ⟨V', c', rfl, _⟩ := Rd.of_own hown'
    exact h V' c' w' hown' ((Below.refl _ _).grown hg hbase fun k hk => (hown.lt k hk).1)
set_option maxRecDepth 20000 in
set_option maxHeartbeats 4000000 in
theorem all_any (nm : ByteArray) (SA TA : Option Addr) (x sc y tc : Nat) (sure tail : List Nat) (w : World) (hs : Rd w SA x sc (cs sure)) (ht : Rd w TA y tc (cs tail)) (hx : x ≤ 1099511627776) (hy : y ≤ 1099511627776) :
    Calls Try.prog 52 #[.agg #[.string nm, .slice SA x sc, .slice TA y tc]] w (fun e w' => ∃ V c, e = .returned (.slice V (x + y) c) ∧ w'.ownsRow w.heap.size 5 1 (.slice V (x + y) c) (x + y) (cs (sure ++ tail)) ∧ Below w.heap.size w w') := by
  obtain ⟨i0, hi, hz0, hz1, hz2⟩ := info_parts info5
  have hk := Blk.new w 67 #[.string nm, .slice SA x sc, .slice TA y tc]
  have hb := bel_alloc (Below.refl w.heap.size w) (.cells #[.string nm, .slice SA x sc, .slice TA y tc] 67)
  obtain ⟨W, hW⟩ : ∃ W, w.alloc (.cells #[.string nm, .slice SA x sc, .slice TA y tc] 67) = W := ⟨_, rfl⟩
  rw [hW] at hk hb
  have HKX := Lib.hid hk
  have HB := Lib.hid hb
  have HSA := Lib.hid (hs.below hb)
  have HTA := Lib.hid (ht.below hb)
  have HW := Lib.hid hW
  have HC := Lib.hid (Below.drew (Below.refl W.heap.size W))
  clear hk hb hs ht hW
  go_enter Try.func52, Try.ntmps52
  go_upto_region 1 with fail
  rw [HW.out]
  refine wp_region_held_drew (S := (fun w' => Blk w' w.heap.size 67 #[.string nm, .slice SA x sc, .slice TA y tc])) (by kernel_rfl) (by with_reducible exact HKX.out.bel HC.out) (fun hHeld => ?_)
  refine held_take (i := 1) (d := 4) (v := (.pointer (some ⟨w.heap.size, 1, none⟩))) rfl rfl (by kernel_rfl) (by kernel_rfl) (by kernel_rfl) (fun _ _ _ h => h) (by kernel_rfl) (fun w hSw => by (obtain hS := hSw); go_simp) hHeld ?_
  try simp only [List.setIfInBounds_toArray, List.set_cons_zero, List.set_cons_succ]
  refine held_take (i := 2) (d := 5) (v := (.slice SA x sc)) rfl rfl (by kernel_rfl) (by kernel_rfl) (by kernel_rfl) (fun _ _ _ h => h) (by kernel_rfl) (fun w hSw => by have m1 := hSw.cell 1; have m2 := hSw.cell 2; simp at m1 m2; clear hSw; go_simp) hHeld ?_
  try simp only [List.setIfInBounds_toArray, List.set_cons_zero, List.set_cons_succ]
  refine held_take (i := 4) (d := 7) (v := (.pointer (some ⟨w.heap.size, 2, none⟩))) rfl rfl (by kernel_rfl) (by kernel_rfl) (by kernel_rfl) (fun _ _ _ h => h) (by kernel_rfl) (fun w hSw => by (obtain hS := hSw); go_simp) hHeld ?_
  try simp only [List.setIfInBounds_toArray, List.set_cons_zero, List.set_cons_succ]
  refine held_take (i := 5) (d := 8) (v := (.slice TA y tc)) rfl rfl (by kernel_rfl) (by kernel_rfl) (by kernel_rfl) (fun _ _ _ h => h) (by kernel_rfl) (fun w hSw => by have m1 := hSw.cell 1; have m2 := hSw.cell 2; simp at m1 m2; clear hSw; go_simp) hHeld ?_
  try simp only [List.setIfInBounds_toArray, List.set_cons_zero, List.set_cons_succ]
  refine wpAnyH_ready (rs := [0]) (by kernel_rfl) (by simp) ?_
  refine AllReadyH.cons rfl (fun K hK => ?_) AllReadyH.nil
  go_simp
  have HO := Lib.hid (show ((W.alloc (.cells #[] 5)).drew).ownsRow W.heap.size 5 1 (.slice (some ⟨W.heap.size, 0, none⟩) 0 0) 0 [] from ⟨rfl, .inr ⟨W.heap.size, 0, #[], rfl, Nat.le_refl _, heap_alloc_new W _, Nat.le_refl _, by unfold maxLen; omega, rfl, rfl⟩⟩)
  replace HC := Lib.hid (show Below W.heap.size W (W.alloc (.cells #[] 5)).drew from Below.drew (bel_alloc (Below.refl _ _) _))
  refine hK.out _ _ (by with_reducible exact HKX.out.bel HC.out) (fun hHeld => ?_)
  clear hK K
  refine wpAnyH_ready (rs := [3]) (by kernel_rfl) (by simp) ?_
  refine AllReadyH.cons rfl (fun K hK => ?_) AllReadyH.nil
  refine step_append_rd rfl (.tmp 3) (.tmp 5) 29 rfl W.heap.size 5 i0 _ 1 Try.underlying29 hi hz0 hz1 hz2 rfl (some ⟨W.heap.size, 0, none⟩) 0 0 [] (by rfl) HO.out SA x sc (cs sure) (by rfl) (HSA.out.below HC.out) (cs_one _) (by unfold maxLen; omega) (by omega) HC.out.size ?_
  intro V5 c5 u5 hown hb
  have HO := Lib.hid hown
  replace HC := Lib.hid (HC.out.trans hb)
  clear hown hb
  show K (Act.put _ (some 6) _) _
  try simp only [Act.put]
  refine hK.out _ _ (by with_reducible exact HKX.out.bel HC.out) (fun hHeld => ?_)
  clear hK K
  refine wpAnyH_ready (rs := [6]) (by kernel_rfl) (by simp) ?_
  refine AllReadyH.cons rfl (fun K hK => ?_) AllReadyH.nil
  refine step_append_rd rfl (.tmp 6) (.tmp 8) 29 rfl W.heap.size 5 i0 _ 1 Try.underlying29 hi hz0 hz1 hz2 rfl V5 (0 + x) c5 ([] ++ cs sure) (by rfl) HO.out TA y tc (cs tail) (by rfl) (HTA.out.below HC.out) (cs_one _) (by unfold maxLen; omega) (by omega) HC.out.size ?_
  intro V6 c6 u6 hown hb
  have HO := Lib.hid hown
  replace HC := Lib.hid (HC.out.trans hb)
  clear hown hb
  show K (Act.put _ (some 9) _) _
  try simp only [Act.put]
  refine hK.out _ _ (by with_reducible exact HKX.out.bel HC.out) (fun hHeld => ?_)
  clear hK K
  refine held_take (i := 7) (d := 2) (v := (.slice V6 (0 + x + y) c6)) rfl rfl (by kernel_rfl) (by kernel_rfl) (by kernel_rfl) (fun _ _ _ h => h) (by kernel_rfl) (fun w hSw => by (obtain hS := hSw); go_simp) hHeld ?_
  try simp only [List.setIfInBounds_toArray]
  refine wpAnyH_done (by kernel_rfl) ?_ _
  go_wp2_with fail
  go_ret
  have h := HO.out
  rw [List.nil_append, Nat.zero_add, ← cs_append] at h
  exact ⟨V6, c6, by rw [Nat.zero_add]; rfl, own_low h HB.out.size, HB.out.trans (HC.out.mono HB.out.size)⟩
end Go.Proofs.Ytcnjjabjdepjgaa.Dsk
