/-
  Texts of earlier layers, as one.
-/
import Derived.Test.YtlcggldcofncgaaIdxFit
/- The program's near: groups in which all stand that meet a command, beside others. -/
namespace Go.Proofs.Ytlcggldcofncgaa.Ix
open Go.RowKit Mem Dsk Go.Maps Ky Cmd Run

/-- What near comes to. -/
def Nearly (w : World) (M : Nat) (G : Nat → Prop) (m : Nat → Int × Int → Option Unit) (l : List En) (c : Cm) (e : Ending) (w' : World) : Prop := ∃ (A : Option Addr) (n k : Nat) (os : List (Option Nat)), e = .returned (.slice A n k) ∧ Rd w' A n k (gs os) ∧ (∀ ad, A = some ad → w.heap.size ≤ ad.block) ∧ os.length = n ∧ n ≤ M + 3 ∧
  (∀ o ∈ os, o = none ∨ ∃ g, o = some g ∧ G g) ∧ (∀ x ∈ l, meet x.c c = true → ∃ g, some g ∈ os ∧ (m g x.i).isSome) ∧ Below w.heap.size w w'
theorem meet_kd {a b : Cm} (h : meet a b = true) : a.kd ≠ 0 ∧ b.kd ≠ 0 := by
  unfold meet at h
  split at h
  · cases h
  · rename_i h0
    exact ⟨fun e => h0 (.inl e), fun e => h0 (.inr e)⟩
theorem meet_else {a b : Cm} (h : meet a b = true) (ha : a.kd ≠ 6) (hb : b.kd ≠ 6) (hc : a.cl ≠ b.cl) : covers a b = true ∨ covers b a = true := by
  unfold meet at h
  split at h
  · cases h
  · rw [if_neg (by simp [ha, hb, hc])] at h
    simp only [Bool.and_eq_true, Bool.or_eq_true] at h
    exact h.2
section
variable {l : List En} {m : Nat → Int × Int → Option Unit} {fk : ByteArray → Option (Option Nat)} {fc : Int → Option (Option Nat)} {g4 : Nat} {c : Cm} {os : List (Option Nat)}
theorem cover6 (hin : ∀ e ∈ l, Near m fk fc g4 e) (hos : ∀ o, (∃ k, fc k = some o ∧ true = true) → o ∈ os) : ∀ x ∈ l, meet x.c c = true → ∃ g, some g ∈ os ++ [some g4] ∧ (m g x.i).isSome := by
  intro x hx hm
  by_cases h : x.c.kd = 5 ∨ x.c.kd = 6
  · exact ⟨g4, by simp, (hin x hx).wide h⟩
  · obtain ⟨g, h1, h2⟩ := (hin x hx).client (meet_kd hm).1 (fun e => h (.inl e)) (fun e => h (.inr e))
    exact ⟨g, List.mem_append_left _ (hos _ ⟨_, h1, rfl⟩), h2⟩
theorem cover5 (hin : ∀ e ∈ l, Near m fk fc g4 e) (h5 : c.kd = 5) (hos : ∀ o, (∃ k, fk k = some o ∧ decide (bts c.ky <+: bts k) = true) → o ∈ os) : ∀ x ∈ l, meet x.c c = true → ∃ g, some g ∈ os ++ [(fc c.cl).getD none, some g4] ∧ (m g x.i).isSome := by
  intro x hx hm
  by_cases h : x.c.kd = 5 ∨ x.c.kd = 6
  · exact ⟨g4, by simp, (hin x hx).wide h⟩
  · have hn := hin x hx
    by_cases hcl : x.c.cl = c.cl
    · obtain ⟨g, h1, h2⟩ := hn.client (meet_kd hm).1 (fun e => h (.inl e)) (fun e => h (.inr e))
      rw [hcl] at h1
      exact ⟨g, by rw [h1]; simp, h2⟩
    · obtain ⟨g, h1, h2⟩ := hn.key (meet_kd hm).1 (fun e => h (.inl e)) (fun e => h (.inr e))
      refine ⟨g, List.mem_append_left _ (hos _ ⟨_, h1, ?_⟩), h2⟩
      have hx5 : (x.c.kd == 5) = false := beq_false_of_ne fun e => h (.inl e)
      rcases meet_else hm (fun e => h (.inr e)) (by omega) hcl with hc | hc
      · unfold covers at hc
        rw [hx5] at hc
        simp at hc
        rw [hc]
        simp
      · unfold covers at hc
        simp at hc
        rcases hc with hc | hc
        · rw [hc]; simp
        · simpa using hc.2
theorem coverD (hin : ∀ e ∈ l, Near m fk fc g4 e) (h5 : c.kd ≠ 5) (h6 : c.kd ≠ 6) : ∀ x ∈ l, meet x.c c = true → ∃ g, some g ∈ [(fk c.ky).getD none, (fc c.cl).getD none, some g4] ∧ (m g x.i).isSome := by
  intro x hx hm
  by_cases h : x.c.kd = 5 ∨ x.c.kd = 6
  · exact ⟨g4, by simp, (hin x hx).wide h⟩
  · have hn := hin x hx
    by_cases hcl : x.c.cl = c.cl
    · obtain ⟨g, h1, h2⟩ := hn.client (meet_kd hm).1 (fun e => h (.inl e)) (fun e => h (.inr e))
      rw [hcl] at h1
      exact ⟨g, by rw [h1]; simp, h2⟩
    · obtain ⟨g, h1, h2⟩ := hn.key (meet_kd hm).1 (fun e => h (.inl e)) (fun e => h (.inr e))
      have hx5 : (x.c.kd == 5) = false := beq_false_of_ne fun e => h (.inl e)
      have hc5 : (c.kd == 5) = false := beq_false_of_ne h5
      have he : x.c.ky = c.ky := by
        rcases meet_else hm (fun e => h (.inr e)) h6 hcl with hc | hc
        · unfold covers at hc
          rw [hx5] at hc
          simp at hc
          exact bts_inj hc
        · unfold covers at hc
          rw [hc5] at hc
          simp at hc
          exact (bts_inj hc).symm
      rw [he] at h1
      exact ⟨g, by rw [h1]; simp, h2⟩
end
theorem own_low {w : World} {B B' n s : Nat} {e : TypeId} {v : Value} {xs : List Value} (h : w.ownsRow B e s v n xs) (hB : B' ≤ B) : w.ownsRow B' e s v n xs := by
  refine ⟨h.1, ?_⟩
  rcases h.2 with e | ⟨g, cap, cur, e, hb, r⟩
  · exact .inl e
  · exact .inr ⟨g, cap, cur, e, Nat.le_trans hB hb, r⟩
theorem own_new {w : World} {B n c : Nat} {e : TypeId} {V : Option Addr} {xs : List Value} (h : w.ownsRow B e 1 (.slice V n c) n xs) : ∀ ad, V = some ad → B ≤ ad.block := by
  intro ad e
  exact (h.lt ad.block (by rw [e]; rfl)).1
theorem os_one {os : List (Option Nat)} {G : Nat → Prop} {g4 : Nat} (h : ∀ o ∈ os, ∃ g, o = some g ∧ G g) (h4 : G g4) : ∀ o ∈ os ++ [some g4], o = none ∨ ∃ g, o = some g ∧ G g := by
  intro o ho
  rcases List.mem_append.1 ho with ho | ho
  · exact .inr (h o ho)
  · exact .inr ⟨g4, List.mem_singleton.1 ho, h4⟩
theorem os_two {os : List (Option Nat)} {G : Nat → Prop} {g4 : Nat} {oC : Option Nat} (h : ∀ o ∈ os, ∃ g, o = some g ∧ G g) (hc : oC = none ∨ ∃ g, oC = some g ∧ G g) (h4 : G g4) : ∀ o ∈ os ++ [oC, some g4], o = none ∨ ∃ g, o = some g ∧ G g := by
  intro o ho
  rcases List.mem_append.1 ho with ho | ho
  · exact .inr (h o ho)
  · rcases List.mem_cons.1 ho with ho | ho
    · rw [ho]; exact hc
    · exact .inr ⟨g4, List.mem_singleton.1 ho, h4⟩
theorem os_three {G : Nat → Prop} {g4 : Nat} {oK oC : Option Nat} (hk : oK = none ∨ ∃ g, oK = some g ∧ G g) (hc : oC = none ∨ ∃ g, oC = some g ∧ G g) (h4 : G g4) : ∀ o ∈ [oK, oC, some g4], o = none ∨ ∃ g, o = some g ∧ G g := by
  intro o ho
  rcases List.mem_cons.1 ho with ho | ho
  · rw [ho]; exact hk
  · rcases List.mem_cons.1 ho with ho | ho
    · rw [ho]; exact hc
    · exact .inr ⟨g4, List.mem_singleton.1 ho, h4⟩
theorem getD_G {κ : Type} {fk : κ → Option (Option Nat)} {G : Nat → Prop} (h : Leads fk G) (k : κ) : (fk k).getD none = none ∨ ∃ g, (fk k).getD none = some g ∧ G g := by
  cases hf : fk k with
  | none => exact .inl rfl
  | some o =>
    obtain ⟨g, rfl, hg⟩ := h k o hf
    exact .inr ⟨g, rfl, hg⟩

theorem kept_cell {w w' : World} {B : Nat} {v : Value} {b o : Nat} (h : ∀ k, k < B → ¬ v.ownBlock = some k → w'.heap[k]? = w.heap[k]?) (hb : b < B) (hn : ¬ v.ownBlock = some b) : w'.cell? ⟨b, o, none⟩ = w.cell? ⟨b, o, none⟩ := World.cell?_of_block (h b hb hn)
set_option maxRecDepth 20000 in
set_option maxHeartbeats 8000000 in
theorem near_any {S : Nat → Prop} {p M : Nat} {l : List En} {g1 g2 g3 g4 : Nat} {G : Nat → Prop} {m : Nat → Int × Int → Option Unit} {fk : ByteArray → Option (Option Nat)} {fc : Int → Option (Option Nat)} (c : Cm) (w : World) (ho : Own w S p M l g1 g2 g3 g4 G m fk fc) (hM : M ≤ 536870912) (hky : strK.ok c.ky) (hcl : intK.ok c.cl) :
    Calls Try.prog 41 #[ptr p, cmV c] w (Nearly w M G m l c) := by
  obtain ⟨kd, cl, sq, ky, vl, rv⟩ := c
  obtain ⟨i0, hi, hz0, hz1, hz2⟩ := info_parts (show (Try.prog.info? 58).map (fun i => (i.zero, i.size, i.bytes)) = some (some (.map none), 1, 8) by kernel_rfl)
  unfold cmV
  have hb1 := bel_alloc (Below.refl w.heap.size w) (.cells #[.int .i64 kd, .int .i64 cl, .int .i64 sq, .string ky, .string vl, .int .i64 rv] 24)
  have hbx := Blk.new w 24 #[.int .i64 kd, .int .i64 cl, .int .i64 sq, .string ky, .string vl, .int .i64 rv]
  obtain ⟨W, hW⟩ : ∃ v, w.alloc (.cells #[.int .i64 kd, .int .i64 cl, .int .i64 sq, .string ky, .string vl, .int .i64 rv] 24) = v := ⟨_, rfl⟩
  rw [hW] at hb1 hbx
  have hoW := ho.below hb1
  obtain ⟨N2, hN2, hk2⟩ := hoW.byK
  obtain ⟨N3, hN3, hk3⟩ := hoW.byC
  have hoc := getD_G hoW.fcG cl
  have hok := getD_G hoW.fkG ky
  obtain ⟨oC, hoC⟩ : ∃ o, (fc cl).getD none = o := ⟨_, rfl⟩
  obtain ⟨oK, hoK⟩ : ∃ o, (fk ky).getD none = o := ⟨_, rfl⟩
  rw [hoC] at hoc
  rw [hoK] at hok
  have hlc : ∀ u, u.heap[g3]? = W.heap[g3]? → (Instr.lookup 56 (.map (some g3)) (.int .i64 cl) false).run Try.prog u = .ok (.map oC) u := fun u hu => by
    have := (hk3.keep hu).look Try.underlying56 zero_map hcl
    rw [hoC] at this
    exact this
  have hlk : ∀ u, Below W.heap.size W u → (Instr.lookup 55 (.map (some g2)) (.string ky) false).run Try.prog u = .ok (.map oK) u := fun u hu => by
    have := (hk2.bel hu hk2.lt).look Try.underlying55 zero_map hky
    rw [hoK] at this
    exact this
  have HB := Lib.hid hb1
  have HW := Lib.hid hW
  have HC := Lib.hid hoW.cells
  have HPL := Lib.hid (show p < W.heap.size from hoW.box.lt)
  have HBL := Lib.hid (show w.heap.size < W.heap.size from hbx.lt)
  have HK : Hid (W.cell? ⟨w.heap.size, 1, none⟩ = some (.int .i64 cl) ∧ W.cell? ⟨w.heap.size, 3, none⟩ = some (.string ky)) := Lib.hid ⟨hbx.cell 1, hbx.cell 3⟩
  have hkd : W.cell? ⟨w.heap.size, 0, none⟩ = some (.int .i64 kd) := hbx.cell 0
  have HIN := Lib.hid hoW.inv
  have HW4 := Lib.hid hoW.wide
  have HNM := Lib.hid hM
  have HOC := Lib.hid hoc
  have HOK := Lib.hid hok
  have HOCE := Lib.hid hoC
  have HOKE := Lib.hid hoK
  have HG3L := Lib.hid (show g3 < W.heap.size from hk3.lt)
  have HS0 := Lib.hid (show Below W.heap.size W W.drew from Below.drew (Below.refl _ _))
  have hfk := hoW.fkG
  have hfc := hoW.fcG
  unfold ptr
  by_cases h6 : kd = 6
  · subst h6
    have hfit := fun u (hu : Below W.heap.size W u) => fit_int u (hk3.bel hu hk3.lt) hfc (by omega)
    have HFIT : Hid (∀ u, Below W.heap.size W u → Calls Try.prog 51 #[.map (some g3), .func (.func 52) #[] #[]] u (Fitted u M G fun o => ∃ k, fc k = some o ∧ true = true)) := Lib.hid fun u hu => (hfit u hu).mono fun e w' ⟨V, n, c, os, h1, h2, h3, h4, h5⟩ => ⟨V, n, c, os, h1, h2, h3, by omega, h5⟩
    clear hb1 hbx hW ho hoW hN2 hk2 hN3 hk3 hoC hoK hoc hok hlc hlk hM hky hcl hfk hfc hfit
    go_enter Try.func41, Try.ntmps41
    go_upto_region 1 with fail
    rw [HW.out]
    go_upto_region 3 with fail
    refine wp_region_held_drew (S := (fun w' => Below W.heap.size W w')) (by kernel_rfl) (by first | (with_reducible exact HS0.out) | (with_reducible exact HS1.out) | (with_reducible exact HS2.out) | (with_reducible exact HS3.out) | (with_reducible exact HS4.out)) (fun hHeld => ?_)
    refine held_take (i := 0) (d := 10) (v := (.pointer (some ⟨p, 0, none⟩))) rfl rfl (by kernel_rfl) (by kernel_rfl) (by kernel_rfl) (fun _ _ _ h => h) (by kernel_rfl) (fun w hSw => by (obtain hS := hSw); go_simp) hHeld ?_
    try simp only [List.setIfInBounds_toArray, List.set_cons_zero, List.set_cons_succ]
    refine held_take (i := 1) (d := 11) (v := (.pointer (some ⟨p, 0, none⟩))) rfl rfl (by kernel_rfl) (by kernel_rfl) (by kernel_rfl) (fun _ _ _ h => h) (by kernel_rfl) (fun w hSw => by (obtain hS := hSw); go_simp) hHeld ?_
    try simp only [List.setIfInBounds_toArray, List.set_cons_zero, List.set_cons_succ]
    refine held_take (i := 2) (d := 12) (v := (.pointer (some ⟨p, 2, none⟩))) rfl rfl (by kernel_rfl) (by kernel_rfl) (by kernel_rfl) (fun _ _ _ h => h) (by kernel_rfl) (fun w hSw => by (obtain hS := hSw); go_simp) hHeld ?_
    try simp only [List.setIfInBounds_toArray, List.set_cons_zero, List.set_cons_succ]
    refine held_take (i := 3) (d := 13) (v := (.map (some g3))) rfl rfl (by kernel_rfl) (by kernel_rfl) (by kernel_rfl) (fun _ _ _ h => h) (by kernel_rfl) (fun w1 hSw => by (have h0 := (hSw.cell (p := ⟨p, 2, none⟩) HPL.out).trans HC.out.2.2.1; go_simp)) hHeld ?_
    try simp only [List.setIfInBounds_toArray, List.set_cons_zero, List.set_cons_succ]
    refine held_take (i := 5) (d := 15) (v := (.pointer (some ⟨p, 0, none⟩))) rfl rfl (by kernel_rfl) (by kernel_rfl) (by kernel_rfl) (fun _ _ _ h => h) (by kernel_rfl) (fun w hSw => by (obtain hS := hSw); go_simp) hHeld ?_
    try simp only [List.setIfInBounds_toArray, List.set_cons_zero, List.set_cons_succ]
    refine held_take (i := 6) (d := 16) (v := (.pointer (some ⟨p, 0, none⟩))) rfl rfl (by kernel_rfl) (by kernel_rfl) (by kernel_rfl) (fun _ _ _ h => h) (by kernel_rfl) (fun w hSw => by (obtain hS := hSw); go_simp) hHeld ?_
    try simp only [List.setIfInBounds_toArray, List.set_cons_zero, List.set_cons_succ]
    refine held_take (i := 7) (d := 17) (v := (.pointer (some ⟨p, 3, none⟩))) rfl rfl (by kernel_rfl) (by kernel_rfl) (by kernel_rfl) (fun _ _ _ h => h) (by kernel_rfl) (fun w hSw => by (obtain hS := hSw); go_simp) hHeld ?_
    try simp only [List.setIfInBounds_toArray, List.set_cons_zero, List.set_cons_succ]
    refine held_take (i := 8) (d := 18) (v := (.map (some g4))) rfl rfl (by kernel_rfl) (by kernel_rfl) (by kernel_rfl) (fun _ _ _ h => h) (by kernel_rfl) (fun w1 hSw => by (have h0 := (hSw.cell (p := ⟨p, 3, none⟩) HPL.out).trans HC.out.2.2.2; go_simp)) hHeld ?_
    try simp only [List.setIfInBounds_toArray, List.set_cons_zero, List.set_cons_succ]
    refine wpAnyH_ready (rs := [4, 9]) (by kernel_rfl) (by simp) ?_
    refine AllReadyH.cons rfl (fun K hK => ?_) (AllReadyH.cons rfl (fun K hK => ?_) AllReadyH.nil)
    · go_simp
      go_at_call 51
      (with_reducible refine (HFIT.out _ HS0.out).mono ?_)
      rintro e4 u1 ⟨V, n, c1, os, rfl, hown, hon, hnM, hos, hneed, hbu⟩
      have HS2 := Lib.hid (bel_trans HS0.out hbu)
      have HWS := Lib.hid (HS0.out.size)
      have HOW := Lib.hid hown
      have HOS := Lib.hid (And.intro hon (And.intro hnM (And.intro hos hneed)))
      have HBS := Lib.hid (And.intro hbu.size HS2.out.size)
      clear hown hon hnM hos hneed hbu
      refine hK.out _ _ (by first | (with_reducible exact HS0.out) | (with_reducible exact HS1.out) | (with_reducible exact HS2.out) | (with_reducible exact HS3.out) | (with_reducible exact HS4.out)) (fun hHeld => ?_)
      clear hK K
      refine wpAnyH_ready (rs := [9]) (by kernel_rfl) (by simp) ?_
      refine AllReadyH.cons rfl (fun K hK => ?_) AllReadyH.nil
      go_simp
      have HS3 := Lib.hid (show Below W.heap.size W (u1.alloc (.cells #[.map (some g4)] 58)) from bel_alloc HS2.out _)
      have HLI := Lib.hid (Rd.one u1 (.map (some g4)) 58)
      have HOWx := Lib.hid (ownsRow_below HOW.out (bel_alloc (Below.refl _ _) (.cells #[.map (some g4)] 58)))
      refine hK.out _ _ (by first | (with_reducible exact HS0.out) | (with_reducible exact HS1.out) | (with_reducible exact HS2.out) | (with_reducible exact HS3.out) | (with_reducible exact HS4.out)) (fun hHeld => ?_)
      clear hK K
      refine wpAnyH_ready (rs := [10]) (by kernel_rfl) (by simp) ?_
      refine AllReadyH.cons rfl (fun K hK => ?_) AllReadyH.nil
      obtain ⟨hon, hnM, hos, hneed⟩ := HOS.out
      have hNM := HNM.out
      have hbs := HBS.out.1
      obtain ⟨V', c', w3, hrun, hown3, hg3, hloc3⟩ := run_append_one (P := Try.prog) (t := 74) (ty := 74) Try.underlying74 hi hz0 hz1 hz2 rfl HOWx.out HLI.out (by simp [Value.oneCell']) (by unfold maxLen; omega) (by omega) (by have h1 := HBS.out.1; have h2 := HS2.out.size; simp; omega)
      refine step_append_row rfl (.tmp 14) (.tmp 19) rfl hrun ?_
      show K (Act.put _ (some 20) _) _
      simp only [Act.put]
      have hb3 : Below W.heap.size W w3 := bel_grown HS3.out hg3 fun k hk => Nat.le_trans HWS.out (HOWx.out.lt k hk).1
      have HS4 := Lib.hid hb3
      have HEND := Lib.hid (show Nearly w M G m l ⟨6, cl, sq, ky, vl, rv⟩ (.returned (.slice V' (n + 1) c')) w3 from ⟨V', n + 1, c', os ++ [some g4], rfl, by rw [gs, List.map_append]; exact Rd.own hown3, fun ad e => Nat.le_trans HB.out.size (Nat.le_trans HWS.out (own_new hown3 ad e)), by simp [hon], by omega, os_one hos HW4.out, cover6 HIN.out hneed, bel_trans HB.out hb3⟩)
      clear hon hnM hos hneed hNM hbs hrun hown3 hg3 hloc3 hb3
      refine hK.out _ _ (by first | (with_reducible exact HS0.out) | (with_reducible exact HS1.out) | (with_reducible exact HS2.out) | (with_reducible exact HS3.out) | (with_reducible exact HS4.out)) (fun hHeld => ?_)
      clear hK K
      refine held_take (i := 11) (d := 4) (v := (.slice V' (n + 1) c')) rfl rfl (by kernel_rfl) (by kernel_rfl) (by kernel_rfl) (fun _ _ _ h => h) (by kernel_rfl) (fun w hSw => by (obtain hS := hSw); go_simp) hHeld ?_
      try simp only [List.setIfInBounds_toArray]
      refine wpAnyH_done (by kernel_rfl) ?_ _
      go_wp2_with fail
      go_ret
      exact HEND.out
    · go_simp
      have HS1 := Lib.hid (show Below W.heap.size W (W.alloc (.cells #[.map (some g4)] 58)).drew from Below.drew (bel_alloc (Below.refl _ _) _))
      have HLIT := Lib.hid (show Rd (W.alloc (.cells #[.map (some g4)] 58)).drew (some ⟨W.heap.size, 0, none⟩) 1 1 [.map (some g4)] from (Rd.one W (.map (some g4)) 58).drew)
      refine hK.out _ _ (by first | (with_reducible exact HS0.out) | (with_reducible exact HS1.out) | (with_reducible exact HS2.out) | (with_reducible exact HS3.out) | (with_reducible exact HS4.out)) (fun hHeld => ?_)
      clear hK K
      refine wpAnyH_ready (rs := [4]) (by kernel_rfl) (by simp) ?_
      refine AllReadyH.cons rfl (fun K hK => ?_) AllReadyH.nil
      go_simp
      go_at_call 51
      (with_reducible refine (HFIT.out _ HS1.out).mono ?_)
      rintro e4 u1 ⟨V, n, c1, os, rfl, hown, hon, hnM, hos, hneed, hbu⟩
      have HS2 := Lib.hid (bel_trans HS1.out hbu)
      have HWS := Lib.hid (HS1.out.size)
      have HOW := Lib.hid hown
      have HOS := Lib.hid (And.intro hon (And.intro hnM (And.intro hos hneed)))
      have HLI := Lib.hid (HLIT.out.below hbu)
      have HBS := Lib.hid (And.intro hbu.size HS2.out.size)
      clear hown hon hnM hos hneed hbu
      refine hK.out _ _ (by first | (with_reducible exact HS0.out) | (with_reducible exact HS1.out) | (with_reducible exact HS2.out) | (with_reducible exact HS3.out) | (with_reducible exact HS4.out)) (fun hHeld => ?_)
      clear hK K
      refine wpAnyH_ready (rs := [10]) (by kernel_rfl) (by simp) ?_
      refine AllReadyH.cons rfl (fun K hK => ?_) AllReadyH.nil
      obtain ⟨hon, hnM, hos, hneed⟩ := HOS.out
      have hNM := HNM.out
      have hbs := HBS.out.1
      obtain ⟨V', c', w3, hrun, hown3, hg3, hloc3⟩ := run_append_one (P := Try.prog) (t := 74) (ty := 74) Try.underlying74 hi hz0 hz1 hz2 rfl HOW.out HLI.out (by simp [Value.oneCell']) (by unfold maxLen; omega) (by omega) (by omega)
      refine step_append_row rfl (.tmp 14) (.tmp 19) rfl hrun ?_
      show K (Act.put _ (some 20) _) _
      simp only [Act.put]
      have hb3 : Below W.heap.size W w3 := bel_grown HS2.out hg3 fun k hk => Nat.le_trans HWS.out (HOW.out.lt k hk).1
      have HS4 := Lib.hid hb3
      have HEND := Lib.hid (show Nearly w M G m l ⟨6, cl, sq, ky, vl, rv⟩ (.returned (.slice V' (n + 1) c')) w3 from ⟨V', n + 1, c', os ++ [some g4], rfl, by rw [gs, List.map_append]; exact Rd.own hown3, fun ad e => Nat.le_trans HB.out.size (Nat.le_trans HWS.out (own_new hown3 ad e)), by simp [hon], by omega, os_one hos HW4.out, cover6 HIN.out hneed, bel_trans HB.out hb3⟩)
      clear hon hnM hos hneed hNM hbs hrun hown3 hg3 hloc3 hb3
      refine hK.out _ _ (by first | (with_reducible exact HS0.out) | (with_reducible exact HS1.out) | (with_reducible exact HS2.out) | (with_reducible exact HS3.out) | (with_reducible exact HS4.out)) (fun hHeld => ?_)
      clear hK K
      refine held_take (i := 11) (d := 4) (v := (.slice V' (n + 1) c')) rfl rfl (by kernel_rfl) (by kernel_rfl) (by kernel_rfl) (fun _ _ _ h => h) (by kernel_rfl) (fun w hSw => by (obtain hS := hSw); go_simp) hHeld ?_
      try simp only [List.setIfInBounds_toArray]
      refine wpAnyH_done (by kernel_rfl) ?_ _
      go_wp2_with fail
      go_ret
      exact HEND.out
  · by_cases h5 : kd = 5
    · subst h5
      have hfit := fun u (hu : Below W.heap.size W u) => fit_str (ck := ky) (bb := w.heap.size) u (hk2.bel hu hk2.lt) hfk (by omega) ((hu.cell (p := ⟨w.heap.size, 3, none⟩) HBL.out).trans HK.out.2) (Nat.lt_of_lt_of_le HBL.out hu.size)
      have HFIT : Hid (Calls Try.prog 53 #[.map (some g2), .func (.func 54) #[] #[.pointer (some ⟨w.heap.size, 0, none⟩)]] W (Fitted W M G fun o => ∃ k, fk k = some o ∧ decide (bts ky <+: bts k) = true)) := Lib.hid ((hfit W (Below.refl _ _)).mono fun e w' ⟨V, n, c, os, h1, h2, h3, h4, h5⟩ => ⟨V, n, c, os, h1, h2, h3, by omega, h5⟩)
      have c1 := hoW.cells.2.1
      have HLC := Lib.hid hlc
      clear hb1 hbx hW ho hoW hN2 hk2 hN3 hk3 hoC hoK hoc hok hlc hlk hM hky hcl hfk hfc hfit
      go_enter Try.func41, Try.ntmps41
      go_upto_region 1 with fail
      rw [HW.out]
      go_upto_region 6 with (go_at_call 53; (with_reducible refine HFIT.out.mono ?_); rintro e4 u1 ⟨V, n, c1', os, rfl, hown, hon, hnM, hos, hneed, hbu⟩; have HS2 := Lib.hid hbu; have HOW := Lib.hid hown; have HOS := Lib.hid (And.intro hon (And.intro hnM (And.intro hos hneed))); clear hown hon hnM hos hneed hbu c1 hkd)
      have hun : ∀ k, k < W.heap.size → ¬ (Value.slice V n c1').ownBlock = some k := fun k hk e => by have := (HOW.out.lt k e).1; omega
      have HPN := Lib.hid (hun p HPL.out)
      have HBN := Lib.hid (hun _ HBL.out)
      have HGN := Lib.hid (hun _ HG3L.out)
      have HPL1 := Lib.hid (Nat.lt_of_lt_of_le HPL.out HS2.out.size)
      have HBL1 := Lib.hid (Nat.lt_of_lt_of_le HBL.out HS2.out.size)
      have HGL1 := Lib.hid (Nat.lt_of_lt_of_le HG3L.out HS2.out.size)
      obtain ⟨q0, q1, q2, q3⟩ := HC.out
      have HC1 : Hid (u1.cell? ⟨p, 0, none⟩ = some (.map (some g1)) ∧ u1.cell? ⟨p, 1, none⟩ = some (.map (some g2)) ∧ u1.cell? ⟨p, 2, none⟩ = some (.map (some g3)) ∧ u1.cell? ⟨p, 3, none⟩ = some (.map (some g4))) := Lib.hid ⟨(HS2.out.cell HPL.out).trans q0, (HS2.out.cell HPL.out).trans q1, (HS2.out.cell HPL.out).trans q2, (HS2.out.cell HPL.out).trans q3⟩
      have HK1 := Lib.hid ((HS2.out.cell (p := ⟨w.heap.size, 1, none⟩) HBL.out).trans HK.out.1)
      have HLC1 : Hid (∀ u, u.heap[g3]? = u1.heap[g3]? → (Instr.lookup 56 (.map (some g3)) (.int .i64 cl) false).run Try.prog u = .ok (.map oC) u) := Lib.hid fun u hu => HLC.out u (hu.trans (HS2.out.block _ HG3L.out))
      clear HS0 HLC hun q0 q1 q2 q3
      have HLC := HLC1
      have HS0 := Lib.hid (show Below W.heap.size W u1.drew ∧ (∀ k, k < u1.heap.size → ¬ (Value.slice V n c1').ownBlock = some k → u1.drew.heap[k]? = u1.heap[k]?) from ⟨Below.drew HS2.out, fun _ _ _ => rfl⟩)
      refine wp_region_held_drew (S := (fun w' => Below W.heap.size W w' ∧ (∀ k, k < u1.heap.size → ¬ (Value.slice V n c1').ownBlock = some k → w'.heap[k]? = u1.heap[k]?))) (by kernel_rfl) (by first | (with_reducible exact HS0.out) | (with_reducible exact HSA.out) | (with_reducible exact HSB.out)) (fun hHeld => ?_)
      refine held_take (i := 0) (d := 29) (v := (.slice V n c1')) rfl rfl (by kernel_rfl) (by kernel_rfl) (by kernel_rfl) (fun _ _ _ h => h) (by kernel_rfl) (fun w hSw => by (obtain hS := hSw); go_simp) hHeld ?_
      try simp only [List.setIfInBounds_toArray, List.set_cons_zero, List.set_cons_succ]
      refine held_take (i := 1) (d := 30) (v := (.pointer (some ⟨p, 0, none⟩))) rfl rfl (by kernel_rfl) (by kernel_rfl) (by kernel_rfl) (fun _ _ _ h => h) (by kernel_rfl) (fun w hSw => by (obtain hS := hSw); go_simp) hHeld ?_
      try simp only [List.setIfInBounds_toArray, List.set_cons_zero, List.set_cons_succ]
      refine held_take (i := 2) (d := 31) (v := (.pointer (some ⟨p, 0, none⟩))) rfl rfl (by kernel_rfl) (by kernel_rfl) (by kernel_rfl) (fun _ _ _ h => h) (by kernel_rfl) (fun w hSw => by (obtain hS := hSw); go_simp) hHeld ?_
      try simp only [List.setIfInBounds_toArray, List.set_cons_zero, List.set_cons_succ]
      refine held_take (i := 3) (d := 32) (v := (.pointer (some ⟨p, 2, none⟩))) rfl rfl (by kernel_rfl) (by kernel_rfl) (by kernel_rfl) (fun _ _ _ h => h) (by kernel_rfl) (fun w hSw => by (obtain hS := hSw); go_simp) hHeld ?_
      try simp only [List.setIfInBounds_toArray, List.set_cons_zero, List.set_cons_succ]
      refine held_take (i := 4) (d := 33) (v := (.map (some g3))) rfl rfl (by kernel_rfl) (by kernel_rfl) (by kernel_rfl) (fun _ _ _ h => h) (by kernel_rfl) (fun w1 hSw => by (have h0 := (kept_cell hSw.2 HPL1.out HPN.out).trans HC1.out.2.2.1; go_simp)) hHeld ?_
      try simp only [List.setIfInBounds_toArray, List.set_cons_zero, List.set_cons_succ]
      refine held_take (i := 5) (d := 34) (v := (.pointer (some ⟨w.heap.size, 1, none⟩))) rfl rfl (by kernel_rfl) (by kernel_rfl) (by kernel_rfl) (fun _ _ _ h => h) (by kernel_rfl) (fun w hSw => by (obtain hS := hSw); go_simp) hHeld ?_
      try simp only [List.setIfInBounds_toArray, List.set_cons_zero, List.set_cons_succ]
      refine held_take (i := 6) (d := 35) (v := (.int .i64 cl)) rfl rfl (by kernel_rfl) (by kernel_rfl) (by kernel_rfl) (fun _ _ _ h => h) (by kernel_rfl) (fun w1 hSw => by (have h0 := (kept_cell hSw.2 HBL1.out HBN.out).trans HK1.out; go_simp)) hHeld ?_
      try simp only [List.setIfInBounds_toArray, List.set_cons_zero, List.set_cons_succ]
      refine held_take (i := 7) (d := 36) (v := (.map oC)) rfl rfl (by kernel_rfl) (by kernel_rfl) (by kernel_rfl) (fun _ _ _ h => h) (by kernel_rfl) (fun w1 hSw => by (have h0 := HLC.out _ (hSw.2 _ HGL1.out HGN.out); go_simp)) hHeld ?_
      try simp only [List.setIfInBounds_toArray, List.set_cons_zero, List.set_cons_succ]
      refine held_take (i := 8) (d := 37) (v := (.pointer (some ⟨p, 0, none⟩))) rfl rfl (by kernel_rfl) (by kernel_rfl) (by kernel_rfl) (fun _ _ _ h => h) (by kernel_rfl) (fun w hSw => by (obtain hS := hSw); go_simp) hHeld ?_
      try simp only [List.setIfInBounds_toArray, List.set_cons_zero, List.set_cons_succ]
      refine held_take (i := 9) (d := 38) (v := (.pointer (some ⟨p, 0, none⟩))) rfl rfl (by kernel_rfl) (by kernel_rfl) (by kernel_rfl) (fun _ _ _ h => h) (by kernel_rfl) (fun w hSw => by (obtain hS := hSw); go_simp) hHeld ?_
      try simp only [List.setIfInBounds_toArray, List.set_cons_zero, List.set_cons_succ]
      refine held_take (i := 10) (d := 39) (v := (.pointer (some ⟨p, 3, none⟩))) rfl rfl (by kernel_rfl) (by kernel_rfl) (by kernel_rfl) (fun _ _ _ h => h) (by kernel_rfl) (fun w hSw => by (obtain hS := hSw); go_simp) hHeld ?_
      try simp only [List.setIfInBounds_toArray, List.set_cons_zero, List.set_cons_succ]
      refine held_take (i := 11) (d := 40) (v := (.map (some g4))) rfl rfl (by kernel_rfl) (by kernel_rfl) (by kernel_rfl) (fun _ _ _ h => h) (by kernel_rfl) (fun w1 hSw => by (have h0 := (kept_cell hSw.2 HPL1.out HPN.out).trans HC1.out.2.2.2; go_simp)) hHeld ?_
      try simp only [List.setIfInBounds_toArray, List.set_cons_zero, List.set_cons_succ]
      refine wpAnyH_ready (rs := [12]) (by kernel_rfl) (by simp) ?_
      refine AllReadyH.cons rfl (fun K hK => ?_) AllReadyH.nil
      go_simp
      have HS1 := Lib.hid (show Below u1.heap.size u1 (u1.alloc (.cells #[.map oC, .map (some g4)] 58)).drew from Below.drew (bel_alloc (Below.refl _ _) _))
      have HSA := Lib.hid (And.intro (bel_trans HS2.out HS1.out) (fun (k : Nat) (hk : k < u1.heap.size) (_ : ¬ (Value.slice V n c1').ownBlock = some k) => HS1.out.block k hk))
      refine hK.out _ _ (by first | (with_reducible exact HS0.out) | (with_reducible exact HSA.out) | (with_reducible exact HSB.out)) (fun hHeld => ?_)
      clear hK K
      refine wpAnyH_ready (rs := [13]) (by kernel_rfl) (by simp) ?_
      refine AllReadyH.cons rfl (fun K hK => ?_) AllReadyH.nil
      obtain ⟨hon, hnM, hos, hneed⟩ := HOS.out
      have hNM := HNM.out
      obtain ⟨V', c', w3, hrun, hown3, hg3, hloc3⟩ := run_append_one (P := Try.prog) (t := 74) (ty := 74) Try.underlying74 hi hz0 hz1 hz2 rfl (ownsRow_below HOW.out HS1.out) (show Rd (u1.alloc (.cells #[.map oC, .map (some g4)] 58)).drew (some ⟨u1.heap.size, 0, none⟩) 2 2 [.map oC, .map (some g4)] from (Rd.lit u1 [.map oC, .map (some g4)] 58 2 rfl (by unfold maxLen; omega)).drew) (by simp [Value.oneCell']) (by unfold maxLen; omega) (by omega) (by have h1 := HS2.out.size; have h2 := HS1.out.size; omega)
      refine step_append_row rfl (.tmp 29) (.tmp 41) rfl hrun ?_
      show K (Act.put _ (some 42) _) _
      simp only [Act.put]
      have hb3 : Below W.heap.size W w3 := bel_grown (bel_trans HS2.out HS1.out) hg3 fun k hk => ((ownsRow_below HOW.out HS1.out).lt k hk).1
      have hb4 : Below u1.heap.size u1 w3 → True := fun _ => trivial
      have HEND := Lib.hid (show Nearly w M G m l ⟨5, cl, sq, ky, vl, rv⟩ (.returned (.slice V' (n + 2) c')) w3 from ⟨V', n + 2, c', os ++ [oC, some g4], rfl, by rw [gs, List.map_append]; exact Rd.own hown3, fun ad e => Nat.le_trans HB.out.size (own_new hown3 ad e), by simp [hon], by omega, os_two hos HOC.out HW4.out, by have := cover5 (c := ⟨5, cl, sq, ky, vl, rv⟩) (fc := fc) HIN.out rfl hneed; rw [show (fc (⟨5, cl, sq, ky, vl, rv⟩ : Cm).cl).getD none = oC from HOCE.out] at this; exact this, bel_trans HB.out hb3⟩)
      have HSB := Lib.hid (And.intro hb3 (fun (k : Nat) (hk : k < u1.heap.size) (hn : ¬ (Value.slice V n c1').ownBlock = some k) => (hg3.block k (by have := HS1.out.size; omega) (fun e => hn e.symm)).trans (HS1.out.block k hk)))
      have HX3 := Lib.hid (And.intro hg3 hown3)
      clear hon hnM hos hneed hNM hrun hown3 hg3 hloc3 hb3 hb4
      refine hK.out _ _ (by first | (with_reducible exact HS0.out) | (with_reducible exact HSA.out) | (with_reducible exact HSB.out)) (fun hHeld => ?_)
      clear hK K
      refine held_take (i := 14) (d := 4) (v := (.slice V' (n + 2) c')) rfl rfl (by kernel_rfl) (by kernel_rfl) (by kernel_rfl) (fun _ _ _ h => h) (by kernel_rfl) (fun w hSw => by (obtain hS := hSw); go_simp) hHeld ?_
      try simp only [List.setIfInBounds_toArray]
      refine wpAnyH_done (by kernel_rfl) ?_ _
      go_wp2_with fail
      go_ret
      exact HEND.out
    · have n5 : (kd == 5) = false := beq_false_of_ne h5
      have n6 : (kd == 6) = false := beq_false_of_ne h6
      have HN5 := Lib.hid h5
      have HN6 := Lib.hid h6
      have HLK := Lib.hid hlk
      have HLC : Hid (∀ u, Below W.heap.size W u → (Instr.lookup 56 (.map (some g3)) (.int .i64 cl) false).run Try.prog u = .ok (.map oC) u) := Lib.hid fun u hu => hlc u (hu.block _ hk3.lt)
      clear hb1 hbx hW ho hoW hN2 hk2 hN3 hk3 hoC hoK hoc hok hlc hlk hM hky hcl hfk hfc h5 h6
      go_enter Try.func41, Try.ntmps41
      go_upto_region 1 with fail
      rw [HW.out]
      go_upto_region 7 with fail
      refine wp_region_held_drew (S := (fun w' => Below W.heap.size W w')) (by kernel_rfl) (by first | (with_reducible exact HS0.out) | (with_reducible exact HS1.out) | (with_reducible exact HS2.out) | (with_reducible exact HS3.out) | (with_reducible exact HS4.out)) (fun hHeld => ?_)
      refine held_take (i := 0) (d := 43) (v := (.pointer (some ⟨p, 0, none⟩))) rfl rfl (by kernel_rfl) (by kernel_rfl) (by kernel_rfl) (fun _ _ _ h => h) (by kernel_rfl) (fun w hSw => by (obtain hS := hSw); go_simp) hHeld ?_
      try simp only [List.setIfInBounds_toArray, List.set_cons_zero, List.set_cons_succ]
      refine held_take (i := 1) (d := 44) (v := (.pointer (some ⟨p, 0, none⟩))) rfl rfl (by kernel_rfl) (by kernel_rfl) (by kernel_rfl) (fun _ _ _ h => h) (by kernel_rfl) (fun w hSw => by (obtain hS := hSw); go_simp) hHeld ?_
      try simp only [List.setIfInBounds_toArray, List.set_cons_zero, List.set_cons_succ]
      refine held_take (i := 2) (d := 45) (v := (.pointer (some ⟨p, 1, none⟩))) rfl rfl (by kernel_rfl) (by kernel_rfl) (by kernel_rfl) (fun _ _ _ h => h) (by kernel_rfl) (fun w hSw => by (obtain hS := hSw); go_simp) hHeld ?_
      try simp only [List.setIfInBounds_toArray, List.set_cons_zero, List.set_cons_succ]
      refine held_take (i := 3) (d := 46) (v := (.map (some g2))) rfl rfl (by kernel_rfl) (by kernel_rfl) (by kernel_rfl) (fun _ _ _ h => h) (by kernel_rfl) (fun w1 hSw => by (have h0 := (hSw.cell (p := ⟨p, 1, none⟩) HPL.out).trans HC.out.2.1; go_simp)) hHeld ?_
      try simp only [List.setIfInBounds_toArray, List.set_cons_zero, List.set_cons_succ]
      refine held_take (i := 4) (d := 47) (v := (.pointer (some ⟨w.heap.size, 3, none⟩))) rfl rfl (by kernel_rfl) (by kernel_rfl) (by kernel_rfl) (fun _ _ _ h => h) (by kernel_rfl) (fun w hSw => by (obtain hS := hSw); go_simp) hHeld ?_
      try simp only [List.setIfInBounds_toArray, List.set_cons_zero, List.set_cons_succ]
      refine held_take (i := 5) (d := 48) (v := (.string ky)) rfl rfl (by kernel_rfl) (by kernel_rfl) (by kernel_rfl) (fun _ _ _ h => h) (by kernel_rfl) (fun w1 hSw => by (have h0 := (hSw.cell (p := ⟨w.heap.size, 3, none⟩) HBL.out).trans HK.out.2; go_simp)) hHeld ?_
      try simp only [List.setIfInBounds_toArray, List.set_cons_zero, List.set_cons_succ]
      refine held_take (i := 6) (d := 49) (v := (.map oK)) rfl rfl (by kernel_rfl) (by kernel_rfl) (by kernel_rfl) (fun _ _ _ h => h) (by kernel_rfl) (fun w1 hSw => by (have h0 := HLK.out _ hSw; go_simp)) hHeld ?_
      try simp only [List.setIfInBounds_toArray, List.set_cons_zero, List.set_cons_succ]
      refine held_take (i := 7) (d := 50) (v := (.pointer (some ⟨p, 0, none⟩))) rfl rfl (by kernel_rfl) (by kernel_rfl) (by kernel_rfl) (fun _ _ _ h => h) (by kernel_rfl) (fun w hSw => by (obtain hS := hSw); go_simp) hHeld ?_
      try simp only [List.setIfInBounds_toArray, List.set_cons_zero, List.set_cons_succ]
      refine held_take (i := 8) (d := 51) (v := (.pointer (some ⟨p, 0, none⟩))) rfl rfl (by kernel_rfl) (by kernel_rfl) (by kernel_rfl) (fun _ _ _ h => h) (by kernel_rfl) (fun w hSw => by (obtain hS := hSw); go_simp) hHeld ?_
      try simp only [List.setIfInBounds_toArray, List.set_cons_zero, List.set_cons_succ]
      refine held_take (i := 9) (d := 52) (v := (.pointer (some ⟨p, 2, none⟩))) rfl rfl (by kernel_rfl) (by kernel_rfl) (by kernel_rfl) (fun _ _ _ h => h) (by kernel_rfl) (fun w hSw => by (obtain hS := hSw); go_simp) hHeld ?_
      try simp only [List.setIfInBounds_toArray, List.set_cons_zero, List.set_cons_succ]
      refine held_take (i := 10) (d := 53) (v := (.map (some g3))) rfl rfl (by kernel_rfl) (by kernel_rfl) (by kernel_rfl) (fun _ _ _ h => h) (by kernel_rfl) (fun w1 hSw => by (have h0 := (hSw.cell (p := ⟨p, 2, none⟩) HPL.out).trans HC.out.2.2.1; go_simp)) hHeld ?_
      try simp only [List.setIfInBounds_toArray, List.set_cons_zero, List.set_cons_succ]
      refine held_take (i := 11) (d := 54) (v := (.pointer (some ⟨w.heap.size, 1, none⟩))) rfl rfl (by kernel_rfl) (by kernel_rfl) (by kernel_rfl) (fun _ _ _ h => h) (by kernel_rfl) (fun w hSw => by (obtain hS := hSw); go_simp) hHeld ?_
      try simp only [List.setIfInBounds_toArray, List.set_cons_zero, List.set_cons_succ]
      refine held_take (i := 12) (d := 55) (v := (.int .i64 cl)) rfl rfl (by kernel_rfl) (by kernel_rfl) (by kernel_rfl) (fun _ _ _ h => h) (by kernel_rfl) (fun w1 hSw => by (have h0 := (hSw.cell (p := ⟨w.heap.size, 1, none⟩) HBL.out).trans HK.out.1; go_simp)) hHeld ?_
      try simp only [List.setIfInBounds_toArray, List.set_cons_zero, List.set_cons_succ]
      refine held_take (i := 13) (d := 56) (v := (.map oC)) rfl rfl (by kernel_rfl) (by kernel_rfl) (by kernel_rfl) (fun _ _ _ h => h) (by kernel_rfl) (fun w1 hSw => by (have h0 := HLC.out _ hSw; go_simp)) hHeld ?_
      try simp only [List.setIfInBounds_toArray, List.set_cons_zero, List.set_cons_succ]
      refine held_take (i := 14) (d := 57) (v := (.pointer (some ⟨p, 0, none⟩))) rfl rfl (by kernel_rfl) (by kernel_rfl) (by kernel_rfl) (fun _ _ _ h => h) (by kernel_rfl) (fun w hSw => by (obtain hS := hSw); go_simp) hHeld ?_
      try simp only [List.setIfInBounds_toArray, List.set_cons_zero, List.set_cons_succ]
      refine held_take (i := 15) (d := 58) (v := (.pointer (some ⟨p, 0, none⟩))) rfl rfl (by kernel_rfl) (by kernel_rfl) (by kernel_rfl) (fun _ _ _ h => h) (by kernel_rfl) (fun w hSw => by (obtain hS := hSw); go_simp) hHeld ?_
      try simp only [List.setIfInBounds_toArray, List.set_cons_zero, List.set_cons_succ]
      refine held_take (i := 16) (d := 59) (v := (.pointer (some ⟨p, 3, none⟩))) rfl rfl (by kernel_rfl) (by kernel_rfl) (by kernel_rfl) (fun _ _ _ h => h) (by kernel_rfl) (fun w hSw => by (obtain hS := hSw); go_simp) hHeld ?_
      try simp only [List.setIfInBounds_toArray, List.set_cons_zero, List.set_cons_succ]
      refine held_take (i := 17) (d := 60) (v := (.map (some g4))) rfl rfl (by kernel_rfl) (by kernel_rfl) (by kernel_rfl) (fun _ _ _ h => h) (by kernel_rfl) (fun w1 hSw => by (have h0 := (hSw.cell (p := ⟨p, 3, none⟩) HPL.out).trans HC.out.2.2.2; go_simp)) hHeld ?_
      try simp only [List.setIfInBounds_toArray, List.set_cons_zero, List.set_cons_succ]
      refine wpAnyH_ready (rs := [18]) (by kernel_rfl) (by simp) ?_
      refine AllReadyH.cons rfl (fun K hK => ?_) AllReadyH.nil
      go_simp
      have HS1 := Lib.hid (show Below W.heap.size W (W.alloc (.cells #[.map oK, .map oC, .map (some g4)] 58)).drew from Below.drew (bel_alloc (Below.refl _ _) _))
      have HEND := Lib.hid (show Nearly w M G m l ⟨kd, cl, sq, ky, vl, rv⟩ (.returned (.slice (some ⟨W.heap.size, 0, none⟩) 3 3)) (W.alloc (.cells #[.map oK, .map oC, .map (some g4)] 58)).drew from ⟨_, 3, 3, [oK, oC, some g4], rfl, (Rd.lit W [.map oK, .map oC, .map (some g4)] 58 3 rfl (by unfold maxLen; omega)).drew, (fun ad e => by injection e with e; subst e; exact HB.out.size), rfl, by omega, os_three HOK.out HOC.out HW4.out, by have := coverD (c := ⟨kd, cl, sq, ky, vl, rv⟩) (fc := fc) HIN.out HN5.out HN6.out; rw [show (fc (⟨kd, cl, sq, ky, vl, rv⟩ : Cm).cl).getD none = oC from HOCE.out, show (fk (⟨kd, cl, sq, ky, vl, rv⟩ : Cm).ky).getD none = oK from HOKE.out] at this; exact this, bel_trans HB.out HS1.out⟩)
      refine hK.out _ _ (by first | (with_reducible exact HS0.out) | (with_reducible exact HS1.out) | (with_reducible exact HS2.out) | (with_reducible exact HS3.out) | (with_reducible exact HS4.out)) (fun hHeld => ?_)
      clear hK K
      refine held_take (i := 19) (d := 4) (v := (.slice (some ⟨W.heap.size, 0, none⟩) 3 3)) rfl rfl (by kernel_rfl) (by kernel_rfl) (by kernel_rfl) (fun _ _ _ h => h) (by kernel_rfl) (fun w hSw => by (obtain hS := hSw); go_simp) hHeld ?_
      try simp only [List.setIfInBounds_toArray, List.set_cons_zero, List.set_cons_succ]
      refine wpAnyH_done (by kernel_rfl) ?_ _
      go_wp2_with fail
      go_ret
      exact HEND.out
end Go.Proofs.Ytlcggldcofncgaa.Ix
