/-
  Texts of earlier layers, as one.
-/
import Derived.Test.YtpalmnjapiijaaaCompInOrder
import Derived.Test.YtpalmnjapiijaaaCompLed
/- The program's Comps: the components that the document says, in its order. -/
namespace Go.Proofs.Ytpalmnjapiijaaa.Gr
open Go.RowKit Mem Dsk

/-- What the first region makes. -/
def C0Rel (w : World) (A : Option Addr) (n c : Nat) (v3 : Value) (w' : World) : Prop := ∃ p bo bf bl bg, v3 = .pointer (some ⟨p, 0, none⟩) ∧ Below w.heap.size w w' ∧ (∀ x, x = p ∨ x = bo ∨ x = bf ∨ x = bl ∨ x = bg → w.heap.size ≤ x ∧ x < w'.heap.size) ∧ p ≠ bo ∧ p ≠ bf ∧ p ≠ bl ∧ p ≠ bg ∧ bo ≠ bf ∧ bo ≠ bl ∧ bo ≠ bg ∧ bf ≠ bl ∧ bf ≠ bg ∧ bl ≠ bg ∧
  Blk w' p 36 #[.slice A n c, .slice none 0 0, .slice none 0 0, .int .i64 0, .int .i64 0, .slice (some ⟨bo, 0, none⟩) n n, .slice (some ⟨bf, 0, none⟩) n n, .slice (some ⟨bl, 0, none⟩) n n, .slice (some ⟨bg, 0, none⟩) n n] ∧
  w'.rowIs bo 3 n (nrow fun _ => 0) ∧ w'.rowIs bf 3 n (nrow fun _ => 0) ∧ w'.rowIs bl 3 n (nrow fun _ => 0) ∧ w'.rowIs bg 3 n (nrow fun _ => 0)
theorem c0_new (w : World) (A : Option Addr) (n c a b d f : Nat) (ha : w.heap.size ≤ a ∧ a < w.heap.size + 4) (hb : w.heap.size ≤ b ∧ b < w.heap.size + 4) (hd : w.heap.size ≤ d ∧ d < w.heap.size + 4) (hf : w.heap.size ≤ f ∧ f < w.heap.size + 4) (h1 : a ≠ b) (h2 : a ≠ d) (h3 : a ≠ f) (h4 : b ≠ d) (h5 : b ≠ f) (h6 : d ≠ f) :
    C0Rel w A n c (.pointer (some ⟨w.heap.size + 1 + 1 + 1 + 1, 0, none⟩)) (((((w.alloc (.cells (madeCells #[.int .i64 0] n) 3)).alloc (.cells (madeCells #[.int .i64 0] n) 3)).alloc (.cells (madeCells #[.int .i64 0] n) 3)).alloc (.cells (madeCells #[.int .i64 0] n) 3)).alloc (.cells #[.slice A n c, .slice none 0 0, .slice none 0 0, .int .i64 0, .int .i64 0, .slice (some ⟨a, 0, none⟩) n n, .slice (some ⟨b, 0, none⟩) n n, .slice (some ⟨d, 0, none⟩) n n, .slice (some ⟨f, 0, none⟩) n n] 36)).drew := by
  have hr : ∀ x, w.heap.size ≤ x ∧ x < w.heap.size + 4 → (((((w.alloc (.cells (madeCells #[.int .i64 0] n) 3)).alloc (.cells (madeCells #[.int .i64 0] n) 3)).alloc (.cells (madeCells #[.int .i64 0] n) 3)).alloc (.cells (madeCells #[.int .i64 0] n) 3)).alloc (.cells #[.slice A n c, .slice none 0 0, .slice none 0 0, .int .i64 0, .int .i64 0, .slice (some ⟨a, 0, none⟩) n n, .slice (some ⟨b, 0, none⟩) n n, .slice (some ⟨d, 0, none⟩) n n, .slice (some ⟨f, 0, none⟩) n n] 36)).drew.rowIs x 3 n (nrow fun _ => 0) := fun x hx => by
    rcases (show x = w.heap.size ∨ x = w.heap.size + 1 ∨ x = w.heap.size + 1 + 1 ∨ x = w.heap.size + 1 + 1 + 1 by omega) with rfl | rfl | rfl | rfl
    · exact (((((World.rowIs_made w (.int .i64 0) n 3).alloc _).alloc _).alloc _).alloc _).drew
    · have := World.rowIs_made (w.alloc (.cells (madeCells #[.int .i64 0] n) 3)) (.int .i64 0) n 3
      rw [size_alloc] at this
      exact (((this.alloc _).alloc _).alloc _).drew
    · have := World.rowIs_made ((w.alloc (.cells (madeCells #[.int .i64 0] n) 3)).alloc (.cells (madeCells #[.int .i64 0] n) 3)) (.int .i64 0) n 3
      rw [size_alloc, size_alloc] at this
      exact ((this.alloc _).alloc _).drew
    · have := World.rowIs_made (((w.alloc (.cells (madeCells #[.int .i64 0] n) 3)).alloc (.cells (madeCells #[.int .i64 0] n) 3)).alloc (.cells (madeCells #[.int .i64 0] n) 3)) (.int .i64 0) n 3
      rw [size_alloc, size_alloc, size_alloc] at this
      exact (this.alloc _).drew
  refine ⟨w.heap.size + 1 + 1 + 1 + 1, a, b, d, f, rfl, Below.drew (bel_alloc (bel_alloc (bel_alloc (bel_alloc (bel_alloc (Below.refl _ _) _) _) _) _) _), fun x hx => ?_, by omega, by omega, by omega, by omega, h1, h2, h3, h4, h5, h6, ?_, hr a ha, hr b hb, hr d hd, hr f hf⟩
  · simp
    omega
  · have := Blk.new ((((w.alloc (.cells (madeCells #[.int .i64 0] n) 3)).alloc (.cells (madeCells #[.int .i64 0] n) 3)).alloc (.cells (madeCells #[.int .i64 0] n) 3)).alloc (.cells (madeCells #[.int .i64 0] n) 3)) 36 #[.slice A n c, .slice none 0 0, .slice none 0 0, .int .i64 0, .int .i64 0, .slice (some ⟨a, 0, none⟩) n n, .slice (some ⟨b, 0, none⟩) n n, .slice (some ⟨d, 0, none⟩) n n, .slice (some ⟨f, 0, none⟩) n n]
    rw [size_alloc, size_alloc, size_alloc, size_alloc] at this
    exact this.drew
theorem c0_tm {w w' : World} {A : Option Addr} {n c : Nat} {v3 : Value} (h : C0Rel w A n c v3 w') : ∃ p bo bf bl bg col, v3 = .pointer (some ⟨p, 0, none⟩) ∧ TM w A n c p bo bf bl bg w' col none 0 none 0 TS.start := by
  obtain ⟨p, bo, bf, bl, bg, rfl, hb, hall, n1, n2, n3, n4, n5, n6, n7, n8, n9, n10, hbx, r1, r2, r3, r4⟩ := h
  refine ⟨p, bo, bf, bl, bg, upd (upd (upd (upd (upd (fun _ => 0) p 1) bo 2) bf 3) bl 4) bg 5, rfl, hb, fun b hb' => ?_, ?_, ?_, ?_, ?_, upd_same .., hbx, r1, r2, r3, r4, Own1.nil _ _ _ _, Own1.nil _ _ _ _⟩
  · refine hall b ?_
    by_cases e1 : b = bg
    · exact .inr (.inr (.inr (.inr e1)))
    · rw [upd_other e1] at hb'
      by_cases e2 : b = bl
      · exact .inr (.inr (.inr (.inl e2)))
      · rw [upd_other e2] at hb'
        by_cases e3 : b = bf
        · exact .inr (.inr (.inl e3))
        · rw [upd_other e3] at hb'
          by_cases e4 : b = bo
          · exact .inr (.inl e4)
          · rw [upd_other e4] at hb'
            by_cases e5 : b = p
            · exact .inl e5
            · rw [upd_other e5] at hb'
              exact absurd rfl hb'
  · rw [upd_other n4, upd_other n3, upd_other n2, upd_other n1, upd_same]
  · rw [upd_other n7, upd_other n6, upd_other n5, upd_same]
  · rw [upd_other n9, upd_other n8, upd_same]
  · rw [upd_other n10, upd_same]
def CsRel (w : World) (A : Option Addr) (n c p bo bf bl bg : Nat) (e : Graph) (_ v22 : Value) (wr : World) : Prop := ∃ (i : Nat) (s : TS) (col : Nat → Nat) (Ap : Option Addr) (cp : Nat) (Ao : Option Addr) (co : Nat), v22 = .int .i64 (i : Int) ∧ i ≤ n ∧ TI e s ∧ s.path = [] ∧ (∀ v, v < i → s.fnd v ≠ 0) ∧ TM w A n c p bo bf bl bg wr col Ap cp Ao co s
set_option maxRecDepth 20000 in
set_option maxHeartbeats 16000000 in
theorem comps_new (A : Option Addr) (n c : Nat) (e : Graph) (w : World) (hM : Mat w A n c e) (hn : n ≤ 2000) (hz : ∀ l ∈ e, l.length ≤ 17592186044416) : Calls Try.prog 10 #[.slice A n c] w (NewMI w (compsZ e)) := by
  have hln := hM.len
  have hmk := run_make_row' (P := Try.prog) 27 3 (.int .i64 0) 8 Try.underlying27 info_int rfl .i64 .i64 n (by omega) (by omega)
  have HM := Lib.hid (And.intro hM (And.intro hz (And.intro hln hn)))
  clear hM hz hln
  go_enter Try.func10, Try.ntmps10
  go_upto_region 1 with fail
  go_cut [3] from 5 to 19 (C0Rel w A n c)
  case first =>
    go_region
    all_goals go_wp2_with fail
    all_goals go_meet
    all_goals exact c0_new w A n c _ _ _ _ (by omega) (by omega) (by omega) (by omega) (by omega) (by omega) (by omega) (by omega) (by omega) (by omega)
  case rest =>
    obtain ⟨p, bo, bf, bl, bg, col, rfl, hT⟩ := c0_tm hcut
    have HCS := Lib.hid (show ∀ a, CsRel w A n c p bo bf bl bg e a (.int .i64 ((0 : Nat) : Int)) wc from fun _ => ⟨0, TS.start, col, none, 0, none, 0, rfl, Nat.zero_le _, TI.start e, rfl, fun v hv => by omega, hT⟩)
    clear hcut hT hmk
    go_wp2_with fail
    go_loopw [4, 22] (CsRel w A n c p bo bf bl bg e) (fun _ v _ => n - (intOf v).toNat)
    case atStart => simpa using HCS.out _
    case round =>
      rename World => wo
      obtain ⟨i, s, col, Ap, cp, Ao, co, rfl, hi, hI, hp, hfd, hT⟩ := hrel
      clear HCS
      obtain ⟨c0, c1, c2, c3, c4, c5, c6, c7, c8⟩ := hT.cells
      by_cases hin : i < n
      · have hwi : IntKind.i64.wrap ((i : Int) + 1) = (i : Int) + 1 := wr64 (by omega) (by omega)
        obtain ⟨fi, hfi⟩ : ∃ y, s.fnd i = y := ⟨_, rfl⟩
        have q1 := nrow_at hT.fnd hin hfi
        by_cases hf0 : fi = 0
        · obtain ⟨ga, oa, hA⟩ := mat_some HM.out.1 (by omega)
          have HFR : Hid (Calls Try.prog 15 #[ptr p, .int .i64 (i : Int)] wo (FrPost w A n c p bo bf bl bg e s i)) := Lib.hid (by
            have hM := HM.out.1
            rw [hA] at hM hT ⊢
            exact from_any hM HM.out.2.1 hT hI hp hin (by rw [hfi, hf0]) (by have := HM.out.2.2.2; omega))
          have HX := Lib.hid hfd
          unfold ptr at HFR
          subst hf0
          clear hI hp hfd hT hA hfi c0 c1 c2 c3 c4 c5 c7 c8
          go_wp2_with fail
          (with_reducible refine HFR.out.mono ?_)
          rintro r u ⟨rfl, s2, col2, Ap2, cp2, Ao2, co2, hI2, hp2, hmono, hroot, hT2⟩
          have HF := Lib.hid (show ∀ a, CsRel w A n c p bo bf bl bg e a (.int .i64 ((i + 1 : Nat) : Int)) u from fun _ => ⟨i + 1, s2, col2, Ap2, cp2, Ao2, co2, rfl, hin, hI2, hp2, fun v hv => by
            by_cases e1 : v = i
            · rw [e1]; exact hroot
            · exact hmono v (HX.out v (by omega)), hT2⟩)
          clear hI2 hp2 hmono hroot hT2 HFR
          go_wp2_with fail
          go_roundw
          case rel => simpa using HF.out _
          case measure =>
            simp [intOf]
            omega
        · have hz1 : ((fi : Int) == 0) = false := by
            have : ¬ (fi : Int) = 0 := by omega
            simpa using this
          have hz2 : ¬ (fi : Int) = 0 := by omega
          have HF := Lib.hid (show ∀ a, CsRel w A n c p bo bf bl bg e a (.int .i64 ((i + 1 : Nat) : Int)) wo from fun _ => ⟨i + 1, s, col, Ap, cp, Ao, co, rfl, hin, hI, hp, fun v hv => by
            by_cases e1 : v = i
            · rw [e1, hfi]; exact hf0
            · exact hfd v (by omega), hT⟩)
          clear hI hp hfd hT hfi hf0 c0 c1 c2 c3 c4 c5 c7 c8
          go_wp2_with fail
          go_roundw
          case rel => simpa using HF.out _
          case measure =>
            simp [intOf]
            omega
      · have hin' : ¬ ((i : Int) < (n : Int)) := by omega
        have hiN : i = n := by omega
        have hln := HM.out.2.2.1
        have hcl : ∀ v, v < n → s.closed v := fun v hv => ⟨hfd v (by omega), by rw [hI.empty hp]; simp⟩
        have hcn := hI.cnt
        have hfew := hI.few
        have hb : Below wo.heap.size wo wo.drew := Below.drew (Below.refl _ _)
        have hbw : Below w.heap.size w wo.drew := hT.bel.trans (hb.mono hT.bel.size)
        have HIO := Lib.hid (inorder_any (w := wo.drew) (ct := s.comps) (b0 := bo) s.of (HM.out.1.below hbw) HM.out.2.1 (by have := HM.out.2.2.2; omega) (by omega) (fun v hv => hI.ofC v (hcl v hv)) (fun u v hu hv => hI.ofM u v (hcl u hu) (hcl v hv)) (hT.of.of_block (hb.block bo hT.of.lt)))
        have HB := Lib.hid hbw
        obtain ⟨ct, hct⟩ : ∃ y, s.comps = y := ⟨_, rfl⟩
        rw [hct] at c4 HIO
        clear hI hp hfd hT hcl hcn hfew hb hbw hct hiN hln hi c0 c1 c2 c3 c6 c7 c8
        go_upto_region 8 with fail
        go_still_tail 9, (by kernel_rfl)
        change wpList _ _ _ _ _ wo.drew
        go_wp2_with fail
        (with_reducible refine HIO.out.mono ?_)
        rintro r u ⟨A2, c2, hs2, rfl, hm2, hb2⟩
        have HF := Lib.hid (show NewMI w (compsZ e) (.returned (.slice A2 (compsZ e).length c2)) u from ⟨A2, c2, hs2, rfl, hm2.base HB.out.size, bel_trans HB.out hb2⟩)
        clear hm2 hb2 HIO
        go_wp2_with fail
        go_ret
        exact HF.out
theorem has_comps : HasComps := fun A n c e w hM hn hz => (comps_new A n c e w hM hn hz).mono fun x w' h => by
  obtain ⟨A2, c2, hs2, rfl, hm2, hb2⟩ := h
  exact ⟨A2, c2, rfl, hm2.mat, hb2⟩
end Go.Proofs.Ytpalmnjapiijaaa.Gr
