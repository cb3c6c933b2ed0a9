/-
  Texts of earlier layers, as one.
-/
import Derived.Test.YtlcggldcofncgaaIdxOwn
/- The program's enter, for texts and for ints as keys. -/
namespace Go.Proofs.Ytlcggldcofncgaa.Ix
open Go.RowKit Mem Dsk Go.Maps Ky Cmd

/-- What enter comes to. -/
def Entered {κ : Type} (K : Kb κ) (w : World) (g2 M : Nat) (G : Nat → Prop) (m : Nat → Int × Int → Option Unit) (fk : κ → Option (Option Nat)) (k : κ) (i : Int × Int) (e : Ending) (w' : World) : Prop :=
  e = .returned (.tuple #[]) ∧ ∃ (N' : Nat) (G' : Nat → Prop) (m' : Nat → Int × Int → Option Unit) (fk' : κ → Option (Option Nat)), N' ≤ M + 1 ∧ Mp K mapE w' g2 N' fk' ∧ Grps w' G' m' (M + 1) ∧ Leads fk' G' ∧ ¬ G' g2 ∧ (∀ g, G g → G' g) ∧ (∀ g, G' g → G g ∨ w.heap.size ≤ g) ∧
    (∀ g j, G g → (m g j).isSome → (m' g j).isSome) ∧ (∀ k' o, fk k' = some o → fk' k' = some o) ∧ (∃ g, fk' k = some (some g) ∧ (m' g i).isSome) ∧ Keeps (fun b => b = g2 ∨ G b) w w'

set_option maxRecDepth 20000 in
set_option maxHeartbeats 4000000 in
theorem enter_str {g2 N M : Nat} {fk : ByteArray → Option (Option Nat)} {G : Nat → Prop} {m : Nat → Int × Int → Option Unit} (k : ByteArray) (i : Int × Int) (w : World) (hk : Mp strK mapE w g2 N fk) (hN : N ≤ M) (hG : Grps w G m M) (hL : Leads fk G) (hn : ¬ G g2) (hM : M ≤ 1073741824) (hko : strK.ok k) (hi : Wf i) :
    Calls Try.prog 24 #[.map (some g2), (.string k), .agg #[.int .i64 i.1, .int .i64 i.2]] w (Entered strK w g2 M G m fk k i) := by
  obtain ⟨i1, i2⟩ := i
  have hb1 := bel_alloc (Below.refl w.heap.size w) (.cells #[.int .i64 i1, .int .i64 i2] 26)
  have hbx := Blk.new w 26 #[.int .i64 i1, .int .i64 i2]
  have hmm := @run_makeMap Try.prog
  have hg2 := hk.lt
  obtain ⟨W, hW⟩ : ∃ v, w.alloc (.cells #[.int .i64 i1, .int .i64 i2] 26) = v := ⟨_, rfl⟩
  have hsW : W.heap.size = w.heap.size + 1 := by rw [← hW]; simp
  rw [hW] at hb1 hbx
  have hk1 := hk.bel hb1 hg2
  have hG1 := hG.keep (w' := W) fun g hg => hb1.block g (hG.lt hg)
  cases hf : fk k with
  | none =>
    have hl1 : (Instr.lookup 55 (.map (some g2)) (.string k) false).run Try.prog W = .ok (.map none) W := by
      have := hk1.look Try.underlying55 zero_map hko
      rw [hf] at this
      exact this
    obtain ⟨V, hV⟩ : ∃ v, W.alloc (.map #[] 0) = v := ⟨_, rfl⟩
    have hbV : Below W.heap.size W V := by rw [← hV]; exact bel_alloc (Below.refl _ _) _
    have hsV : V.heap.size = W.heap.size + 1 := by rw [← hV]; simp
    have hkV := hk1.bel hbV hk1.lt
    have hgV : Mp idK unE V W.heap.size 0 (fun _ => none) := by rw [← hV]; exact Mp.made idK unE W
    obtain ⟨V2, hr2, hk2, ht2⟩ := hkV.store Try.underlying55 (by unfold maxLen; omega) hko (some W.heap.size)
    have hK2 := keeps_turned ht2
    have hg2' := hgV.keep (w' := V2) (hK2.block _ (by omega) (fun e => by have e : W.heap.size = g2 := e; have := hk1.lt; omega))
    have hl2 : (Instr.lookup 55 (.map (some g2)) (.string k) false).run Try.prog V2 = .ok (.map (some W.heap.size)) V2 := by
      have := hk2.look Try.underlying55 zero_map hko
      rw [upd_same] at this
      exact this
    have hne : w.heap.size ≠ g2 := by omega
    have hbx2 : Blk V2 w.heap.size 26 #[.int .i64 i1, .int .i64 i2] := (hK2.block _ (by omega) hne).trans ((hbV.block _ (by omega)).trans hbx)
    obtain ⟨V3, hr3, hg3, ht3⟩ := hg2'.store Try.underlying58 (by unfold maxLen; omega) (x := (i1, i2)) hi ()
    have hK3 := keeps_turned ht3
    have hend : Entered strK w g2 M G m fk k (i1, i2) (.returned (.tuple #[])) V3 := by
      have hold : ∀ g, g < w.heap.size → g ≠ g2 → V3.heap[g]? = w.heap[g]? := fun g hg h2 => by
        rw [hK3.block g (by have := hK2.size; omega) (fun e => by have e : g = W.heap.size := e; omega), hK2.block g (by omega) h2, hbV.block g (by omega), hb1.block g hg]
      refine ⟨rfl, _, fun g => G g ∨ g = W.heap.size, atG W.heap.size (upd (fun _ => none) (i1, i2) (some ())) m, upd fk k (some (some W.heap.size)), ?_, hk2.keep (hK3.block _ hk2.lt (fun e => by have e : g2 = W.heap.size := e; omega)), fun g hg => ?_, fun k' o h => ?_, ?_, fun g hg => .inl hg, fun g hg => ?_, fun g j hg hj => ?_, fun k' o h => ?_, ⟨W.heap.size, upd_same _ _ _, ?_⟩, ?_⟩
      · rw [hf]; simp; omega
      · by_cases e : g = W.heap.size
        · subst e
          rw [atG_same]
          exact ⟨_, by simp, hg3⟩
        · rw [atG_other e]
          have hg' : G g := hg.resolve_right e
          obtain ⟨n, h1, h2⟩ := hG g hg'
          exact ⟨n, by omega, h2.keep (hold g h2.lt fun e => hn (e ▸ hg'))⟩
      · by_cases e : k' = k
        · rw [e, upd_same] at h
          exact ⟨W.heap.size, (Option.some.inj h).symm, .inr rfl⟩
        · rw [upd_other e] at h
          obtain ⟨g, h1, h2⟩ := hL k' o h
          exact ⟨g, h1, .inl h2⟩
      · rintro (h | h)
        · exact hn h
        · omega
      · rcases hg with h | h
        · exact .inl h
        · right; omega
      · have := hG.lt hg
        rw [atG_other (by omega)]
        exact hj
      · rw [upd_other (fun e => by rw [e, hf] at h; cases h)]
        exact h
      · rw [atG_same, upd_same]
        rfl
      · exact ⟨hK3.os.trans (hK2.os.trans (hbV.os.trans hb1.os)), hK3.tape.trans (hK2.tape.trans (hbV.tape.trans hb1.tape)), hK3.output.trans (hK2.output.trans (hbV.output.trans hb1.output)), by have := hK3.size; have := hK2.size; omega, fun j hj hnj => hold j hj fun e => hnj (.inl e)⟩
    have e0 : V2.cell? ⟨w.heap.size, 0, none⟩ = some (.int .i64 i1) := hbx2.cell 0
    have e1 : V2.cell? ⟨w.heap.size, 1, none⟩ = some (.int .i64 i2) := hbx2.cell 1
    have hr2' : (Instr.mapUpdate 55 (.map (some g2)) (.string k) (.map (some W.heap.size))).run Try.prog V = .ok () V2 := hr2
    have hr3' : (Instr.mapUpdate 58 (.map (some W.heap.size)) (.agg #[.int .i64 i1, .int .i64 i2]) (.agg #[])).run Try.prog V2 = .ok () V3 := hr3
    have hq := nil_nil
    have HE := Lib.hid hend
    have HW := Lib.hid hW
    rw [← hV] at hr2'
    clear hr2 hr3 hk hN hG hL hn hM hko hi hb1 hbx hg2 hW hsW hk1 hG1 hf hV hbV hsV hkV hgV hk2 ht2 hK2 hg2' hne hbx2 hg3 ht3 hK3 hend
    go_enter Try.func24, Try.ntmps24
    go_upto_region 1 with fail
    rw [HW.out]
    go_wp2_with fail
    refine bodyPost_ret (results_none rfl _ _ _) rfl ?_
    exact HE.out
  | some o =>
    obtain ⟨g, rfl, hgG⟩ := hL k o hf
    have hl1 : (Instr.lookup 55 (.map (some g2)) (.string k) false).run Try.prog W = .ok (.map (some g)) W := by
      have := hk1.look Try.underlying55 zero_map hko
      rw [hf] at this
      exact this
    obtain ⟨n, hn1, hgm⟩ := hG1 g hgG
    obtain ⟨V, hr, hg3, ht3⟩ := hgm.store Try.underlying58 (by unfold maxLen; omega) (x := (i1, i2)) hi ()
    have hK3 := keeps_turned ht3
    have hend : Entered strK w g2 M G m fk k (i1, i2) (.returned (.tuple #[])) V := by
      have hold : ∀ j, j < w.heap.size → j ≠ g → V.heap[j]? = w.heap[j]? := fun j hj h2 => by rw [hK3.block j (by omega) h2, hb1.block j hj]
      refine ⟨rfl, N, G, atG g (upd (m g) (i1, i2) (some ())) m, fk, by omega, hk.keep (hold g2 hg2 fun e => hn (by rw [e]; exact hgG)), fun j hj => ?_, hL, hn, fun _ h => h, fun _ h => .inl h, fun j x hj hx => ?_, fun _ _ h => h, ⟨g, hf, ?_⟩, ?_⟩
      · by_cases e : j = g
        · subst e
          rw [atG_same]
          refine ⟨_, ?_, hg3⟩
          split <;> omega
        · rw [atG_other e]
          obtain ⟨n', h1, h2⟩ := hG j hj
          exact ⟨n', by omega, h2.keep (hold j h2.lt e)⟩
      · by_cases e : j = g
        · subst e
          rw [atG_same]
          by_cases e2 : x = (i1, i2)
          · rw [e2, upd_same]; rfl
          · rw [upd_other e2]; exact hx
        · rw [atG_other e]; exact hx
      · rw [atG_same, upd_same]; rfl
      · exact ⟨hK3.os.trans hb1.os, hK3.tape.trans hb1.tape, hK3.output.trans hb1.output, by have := hK3.size; omega, fun j hj hnj => hold j hj fun e => hnj (.inr (e ▸ hgG))⟩
    have e0 : W.cell? ⟨w.heap.size, 0, none⟩ = some (.int .i64 i1) := hbx.cell 0
    have e1 : W.cell? ⟨w.heap.size, 1, none⟩ = some (.int .i64 i2) := hbx.cell 1
    have hq := map_nil g
    have hr' : (Instr.mapUpdate 58 (.map (some g)) (.agg #[.int .i64 i1, .int .i64 i2]) (.agg #[])).run Try.prog W = .ok () V := hr
    have HE := Lib.hid hend
    have HW := Lib.hid hW
    clear hr hmm hk hN hG hL hn hM hko hi hb1 hbx hg2 hW hsW hk1 hG1 hf hgG hn1 hgm hg3 ht3 hK3 hend
    go_enter Try.func24, Try.ntmps24
    go_upto_region 1 with fail
    rw [HW.out]
    go_wp2_with fail
    refine bodyPost_ret (results_none rfl _ _ _) rfl ?_
    exact HE.out

set_option maxRecDepth 20000 in
set_option maxHeartbeats 4000000 in
theorem enter_int {g2 N M : Nat} {fk : Int → Option (Option Nat)} {G : Nat → Prop} {m : Nat → Int × Int → Option Unit} (k : Int) (i : Int × Int) (w : World) (hk : Mp intK mapE w g2 N fk) (hN : N ≤ M) (hG : Grps w G m M) (hL : Leads fk G) (hn : ¬ G g2) (hM : M ≤ 1073741824) (hko : intK.ok k) (hi : Wf i) :
    Calls Try.prog 25 #[.map (some g2), (.int .i64 k), .agg #[.int .i64 i.1, .int .i64 i.2]] w (Entered intK w g2 M G m fk k i) := by
  obtain ⟨i1, i2⟩ := i
  have hb1 := bel_alloc (Below.refl w.heap.size w) (.cells #[.int .i64 i1, .int .i64 i2] 26)
  have hbx := Blk.new w 26 #[.int .i64 i1, .int .i64 i2]
  have hmm := @run_makeMap Try.prog
  have hg2 := hk.lt
  obtain ⟨W, hW⟩ : ∃ v, w.alloc (.cells #[.int .i64 i1, .int .i64 i2] 26) = v := ⟨_, rfl⟩
  have hsW : W.heap.size = w.heap.size + 1 := by rw [← hW]; simp
  rw [hW] at hb1 hbx
  have hk1 := hk.bel hb1 hg2
  have hG1 := hG.keep (w' := W) fun g hg => hb1.block g (hG.lt hg)
  cases hf : fk k with
  | none =>
    have hl1 : (Instr.lookup 56 (.map (some g2)) (.int .i64 k) false).run Try.prog W = .ok (.map none) W := by
      have := hk1.look Try.underlying56 zero_map hko
      rw [hf] at this
      exact this
    obtain ⟨V, hV⟩ : ∃ v, W.alloc (.map #[] 0) = v := ⟨_, rfl⟩
    have hbV : Below W.heap.size W V := by rw [← hV]; exact bel_alloc (Below.refl _ _) _
    have hsV : V.heap.size = W.heap.size + 1 := by rw [← hV]; simp
    have hkV := hk1.bel hbV hk1.lt
    have hgV : Mp idK unE V W.heap.size 0 (fun _ => none) := by rw [← hV]; exact Mp.made idK unE W
    obtain ⟨V2, hr2, hk2, ht2⟩ := hkV.store Try.underlying56 (by unfold maxLen; omega) hko (some W.heap.size)
    have hK2 := keeps_turned ht2
    have hg2' := hgV.keep (w' := V2) (hK2.block _ (by omega) (fun e => by have e : W.heap.size = g2 := e; have := hk1.lt; omega))
    have hl2 : (Instr.lookup 56 (.map (some g2)) (.int .i64 k) false).run Try.prog V2 = .ok (.map (some W.heap.size)) V2 := by
      have := hk2.look Try.underlying56 zero_map hko
      rw [upd_same] at this
      exact this
    have hne : w.heap.size ≠ g2 := by omega
    have hbx2 : Blk V2 w.heap.size 26 #[.int .i64 i1, .int .i64 i2] := (hK2.block _ (by omega) hne).trans ((hbV.block _ (by omega)).trans hbx)
    obtain ⟨V3, hr3, hg3, ht3⟩ := hg2'.store Try.underlying58 (by unfold maxLen; omega) (x := (i1, i2)) hi ()
    have hK3 := keeps_turned ht3
    have hend : Entered intK w g2 M G m fk k (i1, i2) (.returned (.tuple #[])) V3 := by
      have hold : ∀ g, g < w.heap.size → g ≠ g2 → V3.heap[g]? = w.heap[g]? := fun g hg h2 => by
        rw [hK3.block g (by have := hK2.size; omega) (fun e => by have e : g = W.heap.size := e; omega), hK2.block g (by omega) h2, hbV.block g (by omega), hb1.block g hg]
      refine ⟨rfl, _, fun g => G g ∨ g = W.heap.size, atG W.heap.size (upd (fun _ => none) (i1, i2) (some ())) m, upd fk k (some (some W.heap.size)), ?_, hk2.keep (hK3.block _ hk2.lt (fun e => by have e : g2 = W.heap.size := e; omega)), fun g hg => ?_, fun k' o h => ?_, ?_, fun g hg => .inl hg, fun g hg => ?_, fun g j hg hj => ?_, fun k' o h => ?_, ⟨W.heap.size, upd_same _ _ _, ?_⟩, ?_⟩
      · rw [hf]; simp; omega
      · by_cases e : g = W.heap.size
        · subst e
          rw [atG_same]
          exact ⟨_, by simp, hg3⟩
        · rw [atG_other e]
          have hg' : G g := hg.resolve_right e
          obtain ⟨n, h1, h2⟩ := hG g hg'
          exact ⟨n, by omega, h2.keep (hold g h2.lt fun e => hn (e ▸ hg'))⟩
      · by_cases e : k' = k
        · rw [e, upd_same] at h
          exact ⟨W.heap.size, (Option.some.inj h).symm, .inr rfl⟩
        · rw [upd_other e] at h
          obtain ⟨g, h1, h2⟩ := hL k' o h
          exact ⟨g, h1, .inl h2⟩
      · rintro (h | h)
        · exact hn h
        · omega
      · rcases hg with h | h
        · exact .inl h
        · right; omega
      · have := hG.lt hg
        rw [atG_other (by omega)]
        exact hj
      · rw [upd_other (fun e => by rw [e, hf] at h; cases h)]
        exact h
      · rw [atG_same, upd_same]
        rfl
      · exact ⟨hK3.os.trans (hK2.os.trans (hbV.os.trans hb1.os)), hK3.tape.trans (hK2.tape.trans (hbV.tape.trans hb1.tape)), hK3.output.trans (hK2.output.trans (hbV.output.trans hb1.output)), by have := hK3.size; have := hK2.size; omega, fun j hj hnj => hold j hj fun e => hnj (.inl e)⟩
    have e0 : V2.cell? ⟨w.heap.size, 0, none⟩ = some (.int .i64 i1) := hbx2.cell 0
    have e1 : V2.cell? ⟨w.heap.size, 1, none⟩ = some (.int .i64 i2) := hbx2.cell 1
    have hr2' : (Instr.mapUpdate 56 (.map (some g2)) (.int .i64 k) (.map (some W.heap.size))).run Try.prog V = .ok () V2 := hr2
    have hr3' : (Instr.mapUpdate 58 (.map (some W.heap.size)) (.agg #[.int .i64 i1, .int .i64 i2]) (.agg #[])).run Try.prog V2 = .ok () V3 := hr3
    have hq := nil_nil
    have HE := Lib.hid hend
    have HW := Lib.hid hW
    rw [← hV] at hr2'
    clear hr2 hr3 hk hN hG hL hn hM hko hi hb1 hbx hg2 hW hsW hk1 hG1 hf hV hbV hsV hkV hgV hk2 ht2 hK2 hg2' hne hbx2 hg3 ht3 hK3 hend
    go_enter Try.func25, Try.ntmps25
    go_upto_region 1 with fail
    rw [HW.out]
    go_wp2_with fail
    refine bodyPost_ret (results_none rfl _ _ _) rfl ?_
    exact HE.out
  | some o =>
    obtain ⟨g, rfl, hgG⟩ := hL k o hf
    have hl1 : (Instr.lookup 56 (.map (some g2)) (.int .i64 k) false).run Try.prog W = .ok (.map (some g)) W := by
      have := hk1.look Try.underlying56 zero_map hko
      rw [hf] at this
      exact this
    obtain ⟨n, hn1, hgm⟩ := hG1 g hgG
    obtain ⟨V, hr, hg3, ht3⟩ := hgm.store Try.underlying58 (by unfold maxLen; omega) (x := (i1, i2)) hi ()
    have hK3 := keeps_turned ht3
    have hend : Entered intK w g2 M G m fk k (i1, i2) (.returned (.tuple #[])) V := by
      have hold : ∀ j, j < w.heap.size → j ≠ g → V.heap[j]? = w.heap[j]? := fun j hj h2 => by rw [hK3.block j (by omega) h2, hb1.block j hj]
      refine ⟨rfl, N, G, atG g (upd (m g) (i1, i2) (some ())) m, fk, by omega, hk.keep (hold g2 hg2 fun e => hn (by rw [e]; exact hgG)), fun j hj => ?_, hL, hn, fun _ h => h, fun _ h => .inl h, fun j x hj hx => ?_, fun _ _ h => h, ⟨g, hf, ?_⟩, ?_⟩
      · by_cases e : j = g
        · subst e
          rw [atG_same]
          refine ⟨_, ?_, hg3⟩
          split <;> omega
        · rw [atG_other e]
          obtain ⟨n', h1, h2⟩ := hG j hj
          exact ⟨n', by omega, h2.keep (hold j h2.lt e)⟩
      · by_cases e : j = g
        · subst e
          rw [atG_same]
          by_cases e2 : x = (i1, i2)
          · rw [e2, upd_same]; rfl
          · rw [upd_other e2]; exact hx
        · rw [atG_other e]; exact hx
      · rw [atG_same, upd_same]; rfl
      · exact ⟨hK3.os.trans hb1.os, hK3.tape.trans hb1.tape, hK3.output.trans hb1.output, by have := hK3.size; omega, fun j hj hnj => hold j hj fun e => hnj (.inr (e ▸ hgG))⟩
    have e0 : W.cell? ⟨w.heap.size, 0, none⟩ = some (.int .i64 i1) := hbx.cell 0
    have e1 : W.cell? ⟨w.heap.size, 1, none⟩ = some (.int .i64 i2) := hbx.cell 1
    have hq := map_nil g
    have hr' : (Instr.mapUpdate 58 (.map (some g)) (.agg #[.int .i64 i1, .int .i64 i2]) (.agg #[])).run Try.prog W = .ok () V := hr
    have HE := Lib.hid hend
    have HW := Lib.hid hW
    clear hr hmm hk hN hG hL hn hM hko hi hb1 hbx hg2 hW hsW hk1 hG1 hf hgG hn1 hgm hg3 ht3 hK3 hend
    go_enter Try.func25, Try.ntmps25
    go_upto_region 1 with fail
    rw [HW.out]
    go_wp2_with fail
    refine bodyPost_ret (results_none rfl _ _ _) rfl ?_
    exact HE.out
end Go.Proofs.Ytlcggldcofncgaa.Ix
