/-
  runes.quoteRune: behind bytes of the call's own how a piece stands in quotes; runes.Quote of any text: the text in quotes.
-/
import Derived.Test.YtlaiofpaahkceaaDoorRunUnq2
namespace Go.Proofs.YtlaiofpaahkceaaDoor
open Go.RowKit Mem Run

/-- The ending: the call's own bytes bs. -/
def Own (base : Nat) (bs : List Nat) (w : World) (e : Ending) (w' : World) : Prop :=
  ∃ V n c, e = .returned (.slice V n c) ∧ w'.ownsRow base 5 1 (.slice V n c) n (cs bs) ∧ Kept base w w'

set_option maxHeartbeats 1000000 in
theorem quoteRune_lone (b : Nat) (h128 : 128 ≤ b) (h256 : b < 256) (t : ByteArray) (ht : 0 < t.size) (h0 : (bts t).getD 0 0 = b) (base n : Nat) (V : Option Addr) (c : Nat) (bs : List Nat) (w : World) (hown : w.ownsRow base 5 1 (.slice V n c) n (cs bs)) (hb : base ≤ w.heap.size) (hn : n ≤ 1000000000000) (hT : Tab w) (hTb : 5 < base)
    (hal : Calls Tryd.prog 21 #[.int .i32 65533, .string t] w fun e w' => e = .returned (.bool true) ∧ w = w') :
    Calls Tryd.prog 23 #[.slice V n c, .int .i32 65533, .string t] w (Own base (bs ++ form (.lone b)) w) := by
  have hix := byte_at t .i64 0 ht h0
  rw [show ((0 : Nat) : Int) = 0 from rfl] at hix
  have hw64 : IntKind.u64.wrap (b : Int) = (b : Int) := by rw [IntKind.wrap_u64]; omega
  have HL := Lib.hid hal
  have HO := Lib.hid hown
  have HT : Hid (∀ W : World, Below base w W → Tab W) := Lib.hid fun W h => hT.below h hTb
  clear hal hown hT h0
  go_enter Tryd.func23, Tryd.ntmps23
  go_wp2_with (go_at_call 21; refine HL.out.mono ?_; rintro e w' ⟨rfl, rfl⟩)
  refine wp_region_any (by kernel_rfl) ?_
  change wpAny _ _ _ _ _ _ _ (World.drew _)
  refine wpAny_take (i := 0) (v := .slice V n c) rfl (by kernel_rfl) (by kernel_rfl) (by kernel_rfl) (fun _ _ _ h => h) (Or.inl ⟨by kernel_rfl, fun w => by go_simp⟩) ?_
  refine wpAny_take (i := 3) (v := .string t) rfl (by kernel_rfl) (by kernel_rfl) (by kernel_rfl) (fun _ _ _ h => h) (Or.inl ⟨by kernel_rfl, fun w => by go_simp⟩) ?_
  refine wpAny_take (i := 4) (v := .int .u8 (b : Int)) rfl (by kernel_rfl) (by kernel_rfl) (by kernel_rfl) (fun _ _ _ h => h) (Or.inl ⟨by kernel_rfl, fun w => by go_simp⟩) ?_
  refine wpAny_take (i := 5) (v := .int .u64 (b : Int)) rfl (by kernel_rfl) (by kernel_rfl) (by kernel_rfl) (fun _ _ _ h => h) (Or.inl ⟨by kernel_rfl, fun w => by go_simp⟩) ?_
  refine wpAny_ready (rs := [1]) (by kernel_rfl) (by simp) ?_
  refine AllReady.cons rfl (fun K hK => ?_) AllReady.nil
  go_simp
  refine hK _ _ ?_
  clear hK K
  refine wpAny_ready (rs := [2]) (by kernel_rfl) (by simp) ?_
  refine AllReady.cons rfl (fun K hK => ?_) AllReady.nil
  refine step_append_kept rfl (.tmp 11) (.tmp 12) rfl base V n c bs (by kernel_rfl) (show World.ownsRow (World.alloc _ _) _ _ _ _ _ _ from HO.out.alloc _) ⟨w.heap.size, 0, none⟩ 2 2 [92, 120] (by kernel_rfl) (Rd.few _ [92, 120] _ _ rfl 2 rfl (by omega)).drew (by omega) (by simp; omega) ?_
  intro V2 c2 w2 hown2 hk2
  refine hK _ _ ?_
  clear hK K
  refine wpAny_ready (rs := [6]) (by kernel_rfl) (by simp) ?_
  refine AllReady.cons rfl (fun K hK => ?_) AllReady.nil
  go_simp
  have hk1 : Kept base w w2 := (((Kept.refl base w).alloc hb _).drew).trans hk2
  have hT2 := HT.out w2 hk1.1
  refine (appendUint_any b (by omega) base (n + 2) V2 c2 (bs ++ [92, 120]) w2 hown2 (by have := hk1.size; omega) (by omega) hT2).mono ?_
  rintro e w3 ⟨V3, c3, rfl, hown3, hk3⟩
  refine hK _ _ ?_
  clear hK K
  refine wpAny_take (i := 7) (v := .slice V3 (n + 2 + (hexd b).length) c3) rfl (by kernel_rfl) (by kernel_rfl) (by kernel_rfl) (fun _ _ _ h => h) (Or.inl ⟨by kernel_rfl, fun w => by go_simp⟩) ?_
  refine wpAny_done (by kernel_rfl) ?_ _
  go_wp2
  go_ret
  refine ⟨V3, n + 2 + (hexd b).length, c3, by kernel_rfl, ?_, hk1.trans hk3⟩
  rw [form, ← List.append_assoc]
  exact hown3

theorem fit_le {r : Nat} (h : fit r = true) : r ≤ 1114111 := by have := (fit_iff r).1 h; omega

set_option maxHeartbeats 1000000 in
/-- .. of a right rune. -/
theorem quoteRune_rune (r : Nat) (hr : fit r = true) (t : ByteArray) (base n : Nat) (V : Option Addr) (c : Nat) (bs : List Nat) (w : World) (hown : w.ownsRow base 5 1 (.slice V n c) n (cs bs)) (hb : base ≤ w.heap.size) (hn : n ≤ 1000000000000) (hT : Tab w) (hTb : 5 < base)
    (hal : Calls Tryd.prog 21 #[.int .i32 (r : Int), .string t] w fun e w' => e = .returned (.bool false) ∧ w = w') :
    Calls Tryd.prog 23 #[.slice V n c, .int .i32 (r : Int), .string t] w (Own base (bs ++ form (.rune r)) w) := by
  have hr1 := fit_le hr
  have HL := Lib.hid hal
  have HO := Lib.hid hown
  have HT : Hid (∀ W : World, Below base w W → Tab W) := Lib.hid fun W h => hT.below h hTb
  obtain ⟨ρ, hρ⟩ : ∃ ρ : Int, (r : Int) = ρ := ⟨_, rfl⟩
  rw [hρ] at HL ⊢
  clear hal hown hT
  by_cases h34 : r = 34 ∨ r = 92
  · have hf : form (.rune r) = [92, r] := by simp [form, h34]
    have hw8 : IntKind.u8.wrap ρ = ρ := by rw [IntKind.wrap_u8]; omega
    have HR := Lib.hid (And.intro hf hρ)
    have hbb : (ρ == 34) = true ∨ ((ρ == 34) = false ∧ (ρ == 92) = true) := by
      rcases h34 with h | h
      · exact .inl (by simp; omega)
      · exact .inr ⟨by simp; omega, by simp; omega⟩
    clear hf hρ h34
    rcases hbb with b34 | ⟨b34, b92⟩
    · go_enter Tryd.func23, Tryd.ntmps23
      go_wp2_with (first | (go_at_call 21; refine HL.out.mono ?_; rintro e w' ⟨rfl, rfl⟩) | (at_builtin; refine wpList_append_kept rfl (.tmp 25) (.tmp 28) rfl base V n c bs rfl (HO.out.alloc _) _ 2 2 [92, r] rfl (Rd.few _ [92, r] _ _ (by rw [← HR.out.2]; rfl) 2 rfl (by omega)) (by omega) (by simp; omega) ?_; intro V2 c2 w2 hown2 hk2))
      go_ret
      rw [HR.out.1]
      exact ⟨V2, _, c2, rfl, hown2, ((Kept.refl base w).alloc hb _).trans hk2⟩
    · go_enter Tryd.func23, Tryd.ntmps23
      go_wp2_with (first | (go_at_call 21; refine HL.out.mono ?_; rintro e w' ⟨rfl, rfl⟩) | (at_builtin; refine wpList_append_kept rfl (.tmp 25) (.tmp 28) rfl base V n c bs rfl (HO.out.alloc _) _ 2 2 [92, r] rfl (Rd.few _ [92, r] _ _ (by rw [← HR.out.2]; rfl) 2 rfl (by omega)) (by omega) (by simp; omega) ?_; intro V2 c2 w2 hown2 hk2))
      go_ret
      rw [HR.out.1]
      exact ⟨V2, _, c2, rfl, hown2, ((Kept.refl base w).alloc hb _).trans hk2⟩
  · have b34 : (ρ == 34) = false := by simp; omega
    have b92 : (ρ == 92) = false := by simp; omega
    by_cases h32 : 32 ≤ r ∧ r ≤ 126
    · have hf : form (.rune r) = [r] := by simp [form, h34, h32]
      have hw8 : IntKind.u8.wrap ρ = ρ := by rw [IntKind.wrap_u8]; omega
      have b32 : decide (ρ ≥ 32) = true := by simp; omega
      have b126 : decide (ρ ≤ 126) = true := by simp; omega
      have HR := Lib.hid (And.intro hf hρ)
      clear hf hρ h34 h32
      go_enter Tryd.func23, Tryd.ntmps23
      go_wp2_with (first | (go_at_call 21; refine HL.out.mono ?_; rintro e w' ⟨rfl, rfl⟩) | (at_builtin; refine wpList_append_kept rfl (.tmp 37) (.tmp 40) rfl base V n c bs rfl (HO.out.alloc _) _ 1 1 [r] rfl (Rd.few _ [r] _ _ (by rw [← HR.out.2]; rfl) 1 rfl (by omega)) (by omega) (by simp; omega) ?_; intro V2 c2 w2 hown2 hk2))
      go_ret
      rw [HR.out.1]
      exact ⟨V2, _, c2, rfl, hown2, ((Kept.refl base w).alloc hb _).trans hk2⟩
    · have hf : form (.rune r) = [92, 117] ++ hexd r ++ [46] := by simp [form, h34, h32]
      have hw64 : IntKind.u64.wrap ρ = ρ := by rw [IntKind.wrap_u64]; omega
      have hlen := (hexd_len 5 r (by omega)).2
      have HR := Lib.hid (And.intro hf hρ)
      have bb : decide (ρ ≥ 32) = false ∨ (decide (ρ ≥ 32) = true ∧ decide (ρ ≤ 126) = false) := by
        by_cases h : 32 ≤ r
        · exact .inr ⟨by simp; omega, by simp; omega⟩
        · exact .inl (by simp; omega)
      have hau : ∀ (V2 : Option Addr) (c2 : Nat) (w2 : World), w2.ownsRow base 5 1 (.slice V2 (n + 2) c2) (n + 2) (cs (bs ++ [92, 117])) → Kept base w w2 → Calls Tryd.prog 29 #[.slice V2 (n + 2) c2, .int .u64 ρ, .int .i64 16] w2 fun e w' => ∃ V' c', e = .returned (.slice V' (n + 2 + (hexd r).length) c') ∧ w'.ownsRow base 5 1 (.slice V' (n + 2 + (hexd r).length) c') (n + 2 + (hexd r).length) (cs (bs ++ [92, 117] ++ hexd r)) ∧ Kept base w2 w' := by
        intro V2 c2 w2 h1 h2
        rw [← HR.out.2]
        exact appendUint_any r (by omega) base (n + 2) V2 c2 _ w2 h1 (by have := h2.size; omega) (by omega) (HT.out w2 h2.1)
      have HAU := Lib.hid hau
      clear hf hρ h34 h32 hau
      generalize (hexd r).length = m at hlen HAU
      rcases bb with b32 | ⟨b32, b126⟩
      · go_enter Tryd.func23, Tryd.ntmps23
        go_wp2_with (first | (go_at_call 21; refine HL.out.mono ?_; rintro e w' ⟨rfl, rfl⟩) | (at_builtin; refine wpList_append_kept rfl (.tmp 42) (.tmp 43) rfl base V n c bs rfl (HO.out.alloc _) _ 2 2 [92, 117] rfl (Rd.few _ [92, 117] _ _ rfl 2 rfl (by omega)) (by omega) (by simp; omega) ?_; intro V2 c2 w2 hown2 hk2))
        have hk1 : Kept base w w2 := ((Kept.refl base w).alloc hb _).trans hk2
        refine (HAU.out V2 c2 w2 hown2 hk1).mono ?_
        rintro e w3 ⟨V3, c3, rfl, hown3, hk3⟩
        have hk13 := hk1.trans hk3
        have hs3 := hk13.size
        go_wp2_with (at_builtin; refine wpList_append_kept rfl (.tmp 48) (.tmp 49) rfl base V3 (n + 2 + m) c3 _ rfl (hown3.alloc _) _ 1 1 [46] rfl (Rd.few _ [46] _ _ rfl 1 rfl (by omega)) (by omega) (by simp; omega) ?_; intro V4 c4 w4 hown4 hk4)
        go_ret
        rw [HR.out.1, ← List.append_assoc, ← List.append_assoc]
        exact ⟨V4, _, c4, rfl, hown4, (hk13.alloc (by omega) _).trans hk4⟩
      · go_enter Tryd.func23, Tryd.ntmps23
        go_wp2_with (first | (go_at_call 21; refine HL.out.mono ?_; rintro e w' ⟨rfl, rfl⟩) | (at_builtin; refine wpList_append_kept rfl (.tmp 42) (.tmp 43) rfl base V n c bs rfl (HO.out.alloc _) _ 2 2 [92, 117] rfl (Rd.few _ [92, 117] _ _ rfl 2 rfl (by omega)) (by omega) (by simp; omega) ?_; intro V2 c2 w2 hown2 hk2))
        have hk1 : Kept base w w2 := ((Kept.refl base w).alloc hb _).trans hk2
        refine (HAU.out V2 c2 w2 hown2 hk1).mono ?_
        rintro e w3 ⟨V3, c3, rfl, hown3, hk3⟩
        have hk13 := hk1.trans hk3
        have hs3 := hk13.size
        go_wp2_with (at_builtin; refine wpList_append_kept rfl (.tmp 48) (.tmp 49) rfl base V3 (n + 2 + m) c3 _ rfl (hown3.alloc _) _ 1 1 [46] rfl (Rd.few _ [46] _ _ rfl 1 rfl (by omega)) (by omega) (by simp; omega) ?_; intro V4 c4 w4 hown4 hk4)
        go_ret
        rw [HR.out.1, ← List.append_assoc, ← List.append_assoc]
        exact ⟨V4, _, c4, rfl, hown4, (hk13.alloc (by omega) _).trans hk4⟩

/-- quoteRune of the piece with which a text begins. -/
theorem quoteRune_any (t : ByteArray) (ht : 0 < t.size) (base n : Nat) (V : Option Addr) (c : Nat) (bs : List Nat) (w : World) (hown : w.ownsRow base 5 1 (.slice V n c) n (cs bs)) (hb : base ≤ w.heap.size) (hn : n ≤ 1000000000000) (hT : Tab w) (hTb : 5 < base) :
    Calls Tryd.prog 23 #[.slice V n c, .int .i32 (((first (bts t)).num : Nat) : Int), .string t] w (Own base (bs ++ form (first (bts t))) w) := by
  have hne : bts t ≠ [] := by intro e; have := length_bts t; rw [e] at this; simp at this; omega
  have hg := first_good hne (bts_lt t)
  have hal := alone_any (((first (bts t)).num : Nat) : Int) t w
  have hte := alone_first (s := t) (i := 0) ht
  rw [List.drop_zero, show t.extract 0 t.size = t from bts_inj (by rw [bts_tail]; rfl)] at hte
  rw [hte] at hal
  cases hp : first (bts t) with
  | lone b =>
    rw [hp] at hg hal
    have h0 : (bts t).getD 0 0 = b := by
      have := first_split hne
      rw [hp] at this
      rw [this]
      rfl
    exact quoteRune_lone b hg.1 hg.2 t ht h0 base n V c bs w hown hb hn hT hTb hal
  | rune r =>
    rw [hp] at hg hal
    exact quoteRune_rune r hg t base n V c bs w hown hb hn hT hTb hal
end Go.Proofs.YtlaiofpaahkceaaDoor
