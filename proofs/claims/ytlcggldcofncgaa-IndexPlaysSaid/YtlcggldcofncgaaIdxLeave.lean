/-
  Texts of earlier layers, as one.
-/
import Derived.Test.YtlcggldcofncgaaIdxOwn
/- The program's leave, for texts and for ints as keys. -/
namespace Go.Proofs.Ytlcggldcofncgaa.Ix
open Go.RowKit Mem Dsk Go.Maps Ky Cmd

/-- What leave comes to. -/
def Left_ {κ : Type} (K : Kb κ) (w : World) (g2 M : Nat) (G : Nat → Prop) (m : Nat → Int × Int → Option Unit) (fk : κ → Option (Option Nat)) (i : Int × Int) (e : Ending) (w' : World) : Prop :=
  e = .returned (.tuple #[]) ∧ ∃ (N' : Nat) (m' : Nat → Int × Int → Option Unit) (fk' : κ → Option (Option Nat)), N' ≤ M ∧ Mp K mapE w' g2 N' fk' ∧ Grps w' G m' M ∧ (∀ k' o, fk' k' = some o → fk k' = some o) ∧
    (∀ g j, G g → j ≠ i → (m g j).isSome → (m' g j).isSome) ∧ (∀ k' g j, fk k' = some (some g) → j ≠ i → (m g j).isSome → fk' k' = some (some g)) ∧ Keeps (fun b => b = g2 ∨ G b) w w'

set_option maxRecDepth 20000 in
set_option maxHeartbeats 4000000 in
theorem leave_str {g2 N M : Nat} {fk : ByteArray → Option (Option Nat)} {G : Nat → Prop} {m : Nat → Int × Int → Option Unit} (k : ByteArray) (i : Int × Int) (w : World) (hk : Mp strK mapE w g2 N fk) (hN : N ≤ M) (hG : Grps w G m M) (hL : Leads fk G) (hn : ¬ G g2) (hko : strK.ok k) (hi : Wf i) :
    Calls Try.prog 26 #[.map (some g2), (.string k), .agg #[.int .i64 i.1, .int .i64 i.2]] w (Left_ strK w g2 M G m fk i) := by
  obtain ⟨i1, i2⟩ := i
  have hb1 := bel_alloc (Below.refl w.heap.size w) (.cells #[.int .i64 i1, .int .i64 i2] 26)
  have hbx := Blk.new w 26 #[.int .i64 i1, .int .i64 i2]
  have hg2 := hk.lt
  obtain ⟨W, hW⟩ : ∃ v, w.alloc (.cells #[.int .i64 i1, .int .i64 i2] 26) = v := ⟨_, rfl⟩
  have hsW : W.heap.size = w.heap.size + 1 := by rw [← hW]; simp
  rw [hW] at hb1 hbx
  have hk1 := hk.bel hb1 hg2
  have hG1 := hG.keep (w' := W) fun g hg => hb1.block g (hG.lt hg)
  have e0 : W.cell? ⟨w.heap.size, 0, none⟩ = some (.int .i64 i1) := hbx.cell 0
  have e1 : W.cell? ⟨w.heap.size, 1, none⟩ = some (.int .i64 i2) := hbx.cell 1
  cases hf : fk k with
  | none =>
    have hl1 : (Instr.lookup 55 (.map (some g2)) (.string k) false).run Try.prog W = .ok (.map none) W := by
      have := hk1.look Try.underlying55 zero_map hko
      rw [hf] at this
      exact this
    have hd : ∀ ty, (Builtin.delete_ #[58, 26] ty #[.map none, .agg #[.int .i64 i1, .int .i64 i2]]).run Try.prog W = .ok (.tuple #[]) W := fun ty => Maps.drop_nil id_law Try.underlying58 (id_key hi) ty
    have hln : ∀ ty, (Builtin.len_ #[58] ty #[.map none]).run Try.prog W = .ok (.int .i64 0) W := fun ty => Maps.len_nil Try.underlying58 ty
    obtain ⟨V, hr, hk2, ht⟩ := hk1.drop Try.underlying55 hko 0
    rw [hf, upd_id hf] at hk2
    have hK := keeps_turned ht
    have hend : Left_ strK w g2 M G m fk (i1, i2) (.returned (.tuple #[])) V := by
      have hold : ∀ j, j < w.heap.size → j ≠ g2 → V.heap[j]? = w.heap[j]? := fun j hj h2 => by rw [hK.block j (by omega) h2, hb1.block j hj]
      exact ⟨rfl, _, m, fk, by simpa using hN, hk2, hG.keep fun g hg => hold g (hG.lt hg) fun e => hn (e ▸ hg), fun _ _ h => h, fun _ _ _ _ h => h, fun _ _ _ h _ _ => h,
        hK.os.trans hb1.os, hK.tape.trans hb1.tape, hK.output.trans hb1.output, by have := hK.size; omega, fun j hj hnj => hold j hj fun e => hnj (.inl e)⟩
    have hr' : (Builtin.delete_ #[55, 9] 0 #[.map (some g2), (.string k)]).run Try.prog W = .ok (.tuple #[]) V := hr
    have HE := Lib.hid hend
    have HW := Lib.hid hW
    clear hr hk hN hG hL hn hko hi hb1 hbx hg2 hW hsW hk1 hG1 hf hk2 ht hK hend
    go_enter Try.func26, Try.ntmps26
    go_upto_region 1 with fail
    rw [HW.out]
    go_wp2_with fail
    refine bodyPost_ret (results_none rfl _ _ _) rfl ?_
    exact HE.out
  | some o =>
    obtain ⟨g, rfl, hgG⟩ := hL k o hf
    have hl1 : (Instr.lookup 55 (.map (some g2)) (.string k) false).run Try.prog W = .ok (.map (some g)) W := by
      have := hk1.look Try.underlying55 zero_map hko
      rw [hf] at this
      exact this
    obtain ⟨n, hn1, hgm⟩ := hG1 g hgG
    obtain ⟨V, hr, hg3, ht3⟩ := hgm.drop Try.underlying58 (x := (i1, i2)) hi 0
    have hK3 := keeps_turned ht3
    have hgne : g2 ≠ g := fun e => hn (by rw [e]; exact hgG)
    have hkV := hk1.keep (hK3.block g2 hk1.lt hgne)
    have hl2 : (Instr.lookup 55 (.map (some g2)) (.string k) false).run Try.prog V = .ok (.map (some g)) V := by
      have := hkV.look Try.underlying55 zero_map hko
      rw [hf] at this
      exact this
    obtain ⟨n', hn'⟩ : ∃ n', (if (m g (i1, i2)).isSome then n - 1 else n) = n' := ⟨_, rfl⟩
    have hn2 : n' ≤ M := by rw [← hn']; split <;> omega
    rw [hn'] at hg3
    have hln := fun ty => hg3.len Try.underlying58 ty
    have hr' : (Builtin.delete_ #[58, 26] 0 #[.map (some g), .agg #[.int .i64 i1, .int .i64 i2]]).run Try.prog W = .ok (.tuple #[]) V := hr
    have hgrp : ∀ V', (∀ j, j < w.heap.size → j ≠ g2 → V'.heap[j]? = V.heap[j]?) → Grps V' G (atG g (upd (m g) (i1, i2) none) m) M := fun V' hV' j hj => by
      have hj2 : j ≠ g2 := fun e => hn (e ▸ hj)
      by_cases e : j = g
      · subst e
        rw [atG_same]
        exact ⟨n', hn2, hg3.keep (hV' j (hG.lt hj) hj2)⟩
      · rw [atG_other e]
        obtain ⟨n'', h1, h2⟩ := hG j hj
        exact ⟨n'', h1, h2.keep (by rw [hV' j h2.lt hj2, hK3.block j (by have := h2.lt; omega) e, hb1.block j h2.lt])⟩
    have hmem : ∀ j x, G j → x ≠ (i1, i2) → (m j x).isSome → ((atG g (upd (m g) (i1, i2) none) m) j x).isSome := fun j x _ hx h => by
      by_cases e : j = g
      · subst e
        rw [atG_same, upd_other hx]; exact h
      · rw [atG_other e]; exact h
    by_cases h0 : n' = 0
    · subst h0
      obtain ⟨V2, hr2, hk2, ht2⟩ := hkV.drop Try.underlying55 hko 0
      have hK2 := keeps_turned ht2
      have hend : Left_ strK w g2 M G m fk (i1, i2) (.returned (.tuple #[])) V2 := by
        refine ⟨rfl, _, atG g (upd (m g) (i1, i2) none) m, upd fk k none, ?_, hk2, hgrp V2 fun j hj h2 => hK2.block j (by have := hK3.size; omega) h2, fun k' o h => ?_, hmem, fun k' g' x h hx hm => ?_, ?_⟩
        · split <;> omega
        · by_cases e : k' = k
          · rw [e, upd_same] at h; cases h
          · rw [upd_other e] at h; exact h
        · have : k' ≠ k := fun e => by
            rw [e, hf] at h
            have h := Option.some.inj (Option.some.inj h)
            subst h
            have h3 := hg3.zero x
            rw [upd_other hx] at h3
            rw [h3] at hm
            cases hm
          rw [upd_other this]; exact h
        · refine ⟨hK2.os.trans (hK3.os.trans hb1.os), hK2.tape.trans (hK3.tape.trans hb1.tape), hK2.output.trans (hK3.output.trans hb1.output), by have := hK3.size; have := hK2.size; omega, fun j hj hnj => ?_⟩
          rw [hK2.block j (by have := hK3.size; omega) fun e => hnj (.inl e), hK3.block j (by omega) fun e => hnj (.inr (by have e : j = g := e; rw [e]; exact hgG)), hb1.block j hj]
      have hr2' : (Builtin.delete_ #[55, 9] 0 #[.map (some g2), (.string k)]).run Try.prog V = .ok (.tuple #[]) V2 := hr2
      have HE := Lib.hid hend
      have HW := Lib.hid hW
      clear hr hr2 hk hN hG hL hn hko hi hb1 hbx hg2 hW hsW hk1 hG1 hf hgG hn1 hgm hg3 ht3 hK3 hend hgne hkV hn' hn2 hgrp hmem hk2 ht2 hK2
      go_enter Try.func26, Try.ntmps26
      go_upto_region 1 with fail
      rw [HW.out]
      go_wp2_with fail
      refine bodyPost_ret (results_none rfl _ _ _) rfl ?_
      exact HE.out
    · have hend : Left_ strK w g2 M G m fk (i1, i2) (.returned (.tuple #[])) V := by
        refine ⟨rfl, N, atG g (upd (m g) (i1, i2) none) m, fk, hN, hkV, hgrp V fun _ _ _ => rfl, fun _ _ h => h, hmem, fun _ _ _ h _ _ => h, hK3.os.trans hb1.os, hK3.tape.trans hb1.tape, hK3.output.trans hb1.output, by have := hK3.size; omega, fun j hj hnj => ?_⟩
        rw [hK3.block j (by omega) fun e => hnj (.inr (by have e : j = g := e; rw [e]; exact hgG)), hb1.block j hj]
      have h0i : ¬ (n' : Int) = 0 := by omega
      have h0b : ((n' : Int) == 0) = false := by simpa using h0i
      have HE := Lib.hid hend
      have HW := Lib.hid hW
      clear hr hk hN hG hL hn hko hi hb1 hbx hg2 hW hsW hk1 hG1 hf hgG hn1 hgm hg3 ht3 hK3 hend hgne hkV hn' hn2 hgrp hmem h0
      go_enter Try.func26, Try.ntmps26
      go_upto_region 1 with fail
      rw [HW.out]
      go_wp2_with fail
      refine bodyPost_ret (results_none rfl _ _ _) rfl ?_
      exact HE.out

set_option maxRecDepth 20000 in
set_option maxHeartbeats 4000000 in
theorem leave_int {g2 N M : Nat} {fk : Int → Option (Option Nat)} {G : Nat → Prop} {m : Nat → Int × Int → Option Unit} (k : Int) (i : Int × Int) (w : World) (hk : Mp intK mapE w g2 N fk) (hN : N ≤ M) (hG : Grps w G m M) (hL : Leads fk G) (hn : ¬ G g2) (hko : intK.ok k) (hi : Wf i) :
    Calls Try.prog 27 #[.map (some g2), (.int .i64 k), .agg #[.int .i64 i.1, .int .i64 i.2]] w (Left_ intK w g2 M G m fk i) := by
  obtain ⟨i1, i2⟩ := i
  have hb1 := bel_alloc (Below.refl w.heap.size w) (.cells #[.int .i64 i1, .int .i64 i2] 26)
  have hbx := Blk.new w 26 #[.int .i64 i1, .int .i64 i2]
  have hg2 := hk.lt
  obtain ⟨W, hW⟩ : ∃ v, w.alloc (.cells #[.int .i64 i1, .int .i64 i2] 26) = v := ⟨_, rfl⟩
  have hsW : W.heap.size = w.heap.size + 1 := by rw [← hW]; simp
  rw [hW] at hb1 hbx
  have hk1 := hk.bel hb1 hg2
  have hG1 := hG.keep (w' := W) fun g hg => hb1.block g (hG.lt hg)
  have e0 : W.cell? ⟨w.heap.size, 0, none⟩ = some (.int .i64 i1) := hbx.cell 0
  have e1 : W.cell? ⟨w.heap.size, 1, none⟩ = some (.int .i64 i2) := hbx.cell 1
  cases hf : fk k with
  | none =>
    have hl1 : (Instr.lookup 56 (.map (some g2)) (.int .i64 k) false).run Try.prog W = .ok (.map none) W := by
      have := hk1.look Try.underlying56 zero_map hko
      rw [hf] at this
      exact this
    have hd : ∀ ty, (Builtin.delete_ #[58, 26] ty #[.map none, .agg #[.int .i64 i1, .int .i64 i2]]).run Try.prog W = .ok (.tuple #[]) W := fun ty => Maps.drop_nil id_law Try.underlying58 (id_key hi) ty
    have hln : ∀ ty, (Builtin.len_ #[58] ty #[.map none]).run Try.prog W = .ok (.int .i64 0) W := fun ty => Maps.len_nil Try.underlying58 ty
    obtain ⟨V, hr, hk2, ht⟩ := hk1.drop Try.underlying56 hko 0
    rw [hf, upd_id hf] at hk2
    have hK := keeps_turned ht
    have hend : Left_ intK w g2 M G m fk (i1, i2) (.returned (.tuple #[])) V := by
      have hold : ∀ j, j < w.heap.size → j ≠ g2 → V.heap[j]? = w.heap[j]? := fun j hj h2 => by rw [hK.block j (by omega) h2, hb1.block j hj]
      exact ⟨rfl, _, m, fk, by simpa using hN, hk2, hG.keep fun g hg => hold g (hG.lt hg) fun e => hn (e ▸ hg), fun _ _ h => h, fun _ _ _ _ h => h, fun _ _ _ h _ _ => h,
        hK.os.trans hb1.os, hK.tape.trans hb1.tape, hK.output.trans hb1.output, by have := hK.size; omega, fun j hj hnj => hold j hj fun e => hnj (.inl e)⟩
    have hr' : (Builtin.delete_ #[56, 3] 0 #[.map (some g2), (.int .i64 k)]).run Try.prog W = .ok (.tuple #[]) V := hr
    have HE := Lib.hid hend
    have HW := Lib.hid hW
    clear hr hk hN hG hL hn hko hi hb1 hbx hg2 hW hsW hk1 hG1 hf hk2 ht hK hend
    go_enter Try.func27, Try.ntmps27
    go_upto_region 1 with fail
    rw [HW.out]
    go_wp2_with fail
    refine bodyPost_ret (results_none rfl _ _ _) rfl ?_
    exact HE.out
  | some o =>
    obtain ⟨g, rfl, hgG⟩ := hL k o hf
    have hl1 : (Instr.lookup 56 (.map (some g2)) (.int .i64 k) false).run Try.prog W = .ok (.map (some g)) W := by
      have := hk1.look Try.underlying56 zero_map hko
      rw [hf] at this
      exact this
    obtain ⟨n, hn1, hgm⟩ := hG1 g hgG
    obtain ⟨V, hr, hg3, ht3⟩ := hgm.drop Try.underlying58 (x := (i1, i2)) hi 0
    have hK3 := keeps_turned ht3
    have hgne : g2 ≠ g := fun e => hn (by rw [e]; exact hgG)
    have hkV := hk1.keep (hK3.block g2 hk1.lt hgne)
    have hl2 : (Instr.lookup 56 (.map (some g2)) (.int .i64 k) false).run Try.prog V = .ok (.map (some g)) V := by
      have := hkV.look Try.underlying56 zero_map hko
      rw [hf] at this
      exact this
    obtain ⟨n', hn'⟩ : ∃ n', (if (m g (i1, i2)).isSome then n - 1 else n) = n' := ⟨_, rfl⟩
    have hn2 : n' ≤ M := by rw [← hn']; split <;> omega
    rw [hn'] at hg3
    have hln := fun ty => hg3.len Try.underlying58 ty
    have hr' : (Builtin.delete_ #[58, 26] 0 #[.map (some g), .agg #[.int .i64 i1, .int .i64 i2]]).run Try.prog W = .ok (.tuple #[]) V := hr
    have hgrp : ∀ V', (∀ j, j < w.heap.size → j ≠ g2 → V'.heap[j]? = V.heap[j]?) → Grps V' G (atG g (upd (m g) (i1, i2) none) m) M := fun V' hV' j hj => by
      have hj2 : j ≠ g2 := fun e => hn (e ▸ hj)
      by_cases e : j = g
      · subst e
        rw [atG_same]
        exact ⟨n', hn2, hg3.keep (hV' j (hG.lt hj) hj2)⟩
      · rw [atG_other e]
        obtain ⟨n'', h1, h2⟩ := hG j hj
        exact ⟨n'', h1, h2.keep (by rw [hV' j h2.lt hj2, hK3.block j (by have := h2.lt; omega) e, hb1.block j h2.lt])⟩
    have hmem : ∀ j x, G j → x ≠ (i1, i2) → (m j x).isSome → ((atG g (upd (m g) (i1, i2) none) m) j x).isSome := fun j x _ hx h => by
      by_cases e : j = g
      · subst e
        rw [atG_same, upd_other hx]; exact h
      · rw [atG_other e]; exact h
    by_cases h0 : n' = 0
    · subst h0
      obtain ⟨V2, hr2, hk2, ht2⟩ := hkV.drop Try.underlying56 hko 0
      have hK2 := keeps_turned ht2
      have hend : Left_ intK w g2 M G m fk (i1, i2) (.returned (.tuple #[])) V2 := by
        refine ⟨rfl, _, atG g (upd (m g) (i1, i2) none) m, upd fk k none, ?_, hk2, hgrp V2 fun j hj h2 => hK2.block j (by have := hK3.size; omega) h2, fun k' o h => ?_, hmem, fun k' g' x h hx hm => ?_, ?_⟩
        · split <;> omega
        · by_cases e : k' = k
          · rw [e, upd_same] at h; cases h
          · rw [upd_other e] at h; exact h
        · have : k' ≠ k := fun e => by
            rw [e, hf] at h
            have h := Option.some.inj (Option.some.inj h)
            subst h
            have h3 := hg3.zero x
            rw [upd_other hx] at h3
            rw [h3] at hm
            cases hm
          rw [upd_other this]; exact h
        · refine ⟨hK2.os.trans (hK3.os.trans hb1.os), hK2.tape.trans (hK3.tape.trans hb1.tape), hK2.output.trans (hK3.output.trans hb1.output), by have := hK3.size; have := hK2.size; omega, fun j hj hnj => ?_⟩
          rw [hK2.block j (by have := hK3.size; omega) fun e => hnj (.inl e), hK3.block j (by omega) fun e => hnj (.inr (by have e : j = g := e; rw [e]; exact hgG)), hb1.block j hj]
      have hr2' : (Builtin.delete_ #[56, 3] 0 #[.map (some g2), (.int .i64 k)]).run Try.prog V = .ok (.tuple #[]) V2 := hr2
      have HE := Lib.hid hend
      have HW := Lib.hid hW
      clear hr hr2 hk hN hG hL hn hko hi hb1 hbx hg2 hW hsW hk1 hG1 hf hgG hn1 hgm hg3 ht3 hK3 hend hgne hkV hn' hn2 hgrp hmem hk2 ht2 hK2
      go_enter Try.func27, Try.ntmps27
      go_upto_region 1 with fail
      rw [HW.out]
      go_wp2_with fail
      refine bodyPost_ret (results_none rfl _ _ _) rfl ?_
      exact HE.out
    · have hend : Left_ intK w g2 M G m fk (i1, i2) (.returned (.tuple #[])) V := by
        refine ⟨rfl, N, atG g (upd (m g) (i1, i2) none) m, fk, hN, hkV, hgrp V fun _ _ _ => rfl, fun _ _ h => h, hmem, fun _ _ _ h _ _ => h, hK3.os.trans hb1.os, hK3.tape.trans hb1.tape, hK3.output.trans hb1.output, by have := hK3.size; omega, fun j hj hnj => ?_⟩
        rw [hK3.block j (by omega) fun e => hnj (.inr (by have e : j = g := e; rw [e]; exact hgG)), hb1.block j hj]
      have h0i : ¬ (n' : Int) = 0 := by omega
      have h0b : ((n' : Int) == 0) = false := by simpa using h0i
      have HE := Lib.hid hend
      have HW := Lib.hid hW
      clear hr hk hN hG hL hn hko hi hb1 hbx hg2 hW hsW hk1 hG1 hf hgG hn1 hgm hg3 ht3 hK3 hend hgne hkV hn' hn2 hgrp hmem h0
      go_enter Try.func27, Try.ntmps27
      go_upto_region 1 with fail
      rw [HW.out]
      go_wp2_with fail
      refine bodyPost_ret (results_none rfl _ _ _) rfl ?_
      exact HE.out
end Go.Proofs.Ytlcggldcofncgaa.Ix
