/-
  Texts of earlier layers, as one.
-/
import Derived.Test.YtldlcddmbgcfdaaWhlDown
import Derived.Test.YtldlcddmbgcfdaaWhlSwap
import Derived.Test.YtldlcddmbgcfdaaWhlPop
/- container/heap's Push, Fix and Remove over the program's timers. -/
namespace Go.Proofs.Ytldlcddmbgcfdaa.Wh
open Go.RowKit Mem Dsk Go.Maps

theorem split_last {h : List Tm} {n : Nat} (hl : h.length = n + 1) : h = h.take n ++ [G h n] := by
  apply List.ext_getElem?
  intro k
  rw [List.getElem?_append, List.length_take]
  by_cases hk : k < n
  · rw [if_pos (by omega), List.getElem?_take, if_pos hk]
  · rw [if_neg (by omega)]
    by_cases e : k = n
    · subst e
      rw [at_G (by omega), show k - min k h.length = 0 by omega]
      rfl
    · rw [List.getElem?_eq_none (by omega), List.getElem?_eq_none (by simp; omega)]
theorem G_take {h : List Tm} {n k : Nat} (hk : k < n) : G (h.take n) k = G h k := by
  unfold G List.getD
  rw [List.getElem?_take, if_pos hk]
theorem hp_snoc {h : List Tm} {t : Tm} (hh : Hp h.length (G h)) : UpI (h.length + 1) (G (h ++ [t])) h.length := hh.push fun k hk => by
  unfold G List.getD
  rw [List.getElem?_append_left hk]
set_option maxRecDepth 20000 in
set_option maxHeartbeats 8000000 in
theorem hpush_any {S : Nat → Prop} {p c b : Nat} {A : Option Addr} {D : DataW Value} {h : List Tm} (t : Tm) (w : World) (ho : Own w S p A c b D h) (hh : Hp h.length (G h)) (hn : ∀ x ∈ h, x.i ≠ t.i) (hw : Wf t.i) (hl : h.length ≤ 900000) :
    Calls Try.prog 18 #[ifc p, .iface 55 (.agg #[.int .i64 t.i.1, .int .i64 t.i.2, .int .i64 t.a])] w (fun e w' => e = .returned (.tuple #[]) ∧ ∃ S' A' c' D' h', Own w' S' p A' c' b D' h' ∧ Hp h'.length (G h') ∧ h'.Perm (h ++ [t]) ∧ Grew S S' w ∧ Keeps S w w') := by
  have hpu := push_any t w ho hn hw (by omega)
  have m1 := meth_push p
  have m2 := meth_len p
  have HH := Lib.hid (And.intro hh hl)
  clear ho hh hn hw hl
  unfold ifc
  obtain ⟨P, hP⟩ : ∃ P, ptr p = P := ⟨_, rfl⟩
  rw [hP] at m1 m2 hpu ⊢
  obtain ⟨T, hT⟩ : ∃ T : Value, .iface 55 (.agg #[.int .i64 t.i.1, .int .i64 t.i.2, .int .i64 t.a]) = T := ⟨_, rfl⟩
  rw [hT] at hpu ⊢
  have HP := Lib.hid hP
  have HPU := Lib.hid hpu
  clear hP hpu hT
  go_enter Try.func18, Try.ntmps18
  go_wp2_with fail
  refine HPU.out.mono ?_
  rintro e u ⟨rfl, A', c', D', ho, hk⟩
  have hlen := tlen_any u ho
  have hlu := ho.rw_.len
  have hhl : (h ++ [t]).length = h.length + 1 := by simp
  have hup := up_any (n := h.length + 1) (j := h.length) swap_any u ho (by omega) (by omega) (by have := HH.out.2; omega) (hp_snoc HH.out.1)
  rw [HP.out, hhl] at hlen
  unfold ifc at hup
  rw [HP.out] at hup
  obtain ⟨n, hn⟩ : ∃ n, h.length = n := ⟨_, rfl⟩
  rw [hn] at hlen hup
  have hwr : IntKind.i64.wrap (((n + 1 : Nat) : Int) - 1) = (n : Int) := by rw [show (((n + 1 : Nat) : Int) - 1) = (n : Int) by omega]; exact wr64 (by omega) (by have := HH.out.2; omega)
  obtain ⟨m, hm⟩ : ∃ m : Nat, n + 1 = m := ⟨_, rfl⟩
  rw [hm] at hlen hup hwr
  have HK := Lib.hid (And.intro hk (And.intro hn hm))
  have HLEN := Lib.hid hlen
  have HUP := Lib.hid hup
  clear ho hk hlen hlu hhl hup hn hm HPU
  go_wp2_with (first
    | (go_at_call 43; (with_reducible refine HLEN.out.mono ?_); rintro e u2 ⟨rfl, rfl⟩)
    | (go_at_call 24; (with_reducible refine HUP.out.mono ?_); rintro e u3 ⟨rfl, h', hin, hp⟩))
  go_end0
  obtain ⟨⟨D3, ho3⟩, ⟨hl3, hp3, _⟩, hk3⟩ := hin
  have hl4 : h'.length = m := by rw [hl3, List.length_append, HK.out.2.1, ← HK.out.2.2]; rfl
  exact ⟨rfl, _, A', c', D3, h', ho3, by rw [hl4]; exact hp, hp3, plus_grew, HK.out.1.trans hk3 plus_grew⟩
set_option maxRecDepth 20000 in
set_option maxHeartbeats 8000000 in
theorem fix_any {S : Nat → Prop} {p c b i : Nat} {A : Option Addr} {D : DataW Value} {h : List Tm} (w : World) (ho : Own w S p A c b D h) (hi : i < h.length) (hh : DnI h.length (G h) i i) (hl : h.length ≤ 900000) :
    Calls Try.prog 19 #[ifc p, .int .i64 (i : Int)] w (fun e w' => e = .returned (.tuple #[]) ∧ ∃ D' h', Own w' S p A c b D' h' ∧ Hp h'.length (G h') ∧ h'.Perm h ∧ Keeps S w w') := by
  have hlen := tlen_any w ho
  have hdn := down_any (n := h.length) (i0 := i) swap_any w ho hi (Nat.le_refl _) (by omega) hh
  have m2 := meth_len p
  have HH := Lib.hid (And.intro hi hl)
  clear ho hh hi hl
  unfold ifc at hdn ⊢
  obtain ⟨P, hP⟩ : ∃ P, ptr p = P := ⟨_, rfl⟩
  rw [hP] at m2 hlen hdn ⊢
  have HP := Lib.hid hP
  obtain ⟨n, hn⟩ : ∃ n, h.length = n := ⟨_, rfl⟩
  rw [hn] at hlen hdn
  have HN := Lib.hid hn
  have HLEN := Lib.hid hlen
  have HDN := Lib.hid hdn
  clear hP hlen hdn hn
  go_enter Try.func19, Try.ntmps19
  go_wp2_with (first
    | (go_at_call 43; (with_reducible refine HLEN.out.mono ?_); rintro e u2 ⟨rfl, rfl⟩)
    | (go_at_call 25; (with_reducible refine HDN.out.mono ?_); rintro e u3 ⟨r, h', rfl, hin, hr1, hr0⟩; cases r))
  · obtain ⟨⟨D2, ho2⟩, hmv, hk2⟩ := hin
    have hup := up_any (n := n) (j := i) swap_any u3 ho2 (by have := HH.out; have := HN.out; omega) (by rw [hmv.1]; have := HN.out; omega) (by rw [hmv.1]; have := HH.out; omega) (hr0 (by first | rfl | trivial))
    unfold ifc at hup
    rw [HP.out] at hup
    have HUP := Lib.hid hup
    have HM := Lib.hid (And.intro hmv hk2)
    clear hmv hk2 hup ho2 hr1 hr0
    go_wp2_with (go_at_call 24; (with_reducible refine HUP.out.mono ?_); rintro e u4 ⟨rfl, h4, hin4, hp4⟩)
    go_end0
    obtain ⟨⟨D4, ho4⟩, hmv4, hk4⟩ := hin4
    have hm := HM.out.1.trans hmv4
    exact ⟨rfl, D4, h4, ho4, by rw [hm.1, HN.out]; exact hp4, hm.2.1, HM.out.2.trans hk4 (Grew.refl _ _)⟩
  · have HR := Lib.hid (And.intro hin (hr1 (by first | rfl | trivial)))
    clear hin hr1 hr0
    go_wp2_with fail
    go_end0
    obtain ⟨⟨D2, ho2⟩, hmv, hk2⟩ := HR.out.1
    exact ⟨rfl, D2, h', ho2, by rw [hmv.1, HN.out]; exact HR.out.2, hmv.2.1, hk2⟩
/-- What Remove does, ahead of Pop: the one that goes is the last one. -/
def Last (w0 : World) (S : Nat → Prop) (p c b : Nat) (A : Option Addr) (h0 : List Tm) (i n : Nat) (w : World) : Prop := ∃ D h, Own w S p A c b D (h ++ [G h0 i]) ∧ h.length = n ∧ Hp n (G h) ∧ (h ++ [G h0 i]).Perm h0 ∧ Keeps S w0 w
theorem last_of {w0 w : World} {S : Nat → Prop} {p c b i n : Nat} {A : Option Addr} {h0 h1 h : List Tm} (hi : i < h0.length) (hn : h0.length = n + 1) (hin : In w0 S p c b A h1 n w h) (h1e : h1 = swl h0 i n) (hp : Hp n (G h)) : Last w0 S p c b A h0 i n w := by
  obtain ⟨⟨D, ho⟩, ⟨hl, hpm, hk⟩, hkp⟩ := hin
  subst h1e
  have hl' : h.length = n + 1 := by rw [hl, length_swl, hn]
  have hg : G h n = G h0 i := by rw [hk n (Nat.le_refl _), G_swl hi (by omega), sw_r]
  have e := split_last hl'
  rw [hg] at e
  refine ⟨D, h.take n, by rw [← e]; exact ho, by rw [List.length_take]; omega, hp.of (Nat.le_refl _) fun k hk => G_take hk, ?_, hkp⟩
  rw [← e]
  exact hpm.trans (swl_perm hi (by omega))
theorem last_self {w : World} {S : Nat → Prop} {p c b n : Nat} {A : Option Addr} {D : DataW Value} {h : List Tm} (ho : Own w S p A c b D h) (hn : h.length = n + 1) (hp : Hp h.length (G h)) : Last w S p c b A h n n w := by
  have e := split_last hn
  refine ⟨D, h.take n, by rw [← e]; exact ho, by rw [List.length_take]; omega, hp.of (by omega) fun k hk => G_take hk, by rw [← e], Keeps.refl S w⟩
theorem Last.from {w0 w1 w : World} {S : Nat → Prop} {p c b i n : Nat} {A : Option Addr} {h0 : List Tm} (h : Last w1 S p c b A h0 i n w) (hk : Keeps S w0 w1) : Last w0 S p c b A h0 i n w := by
  obtain ⟨D, h1, h2, h3, h4, h5, h6⟩ := h
  exact ⟨D, h1, h2, h3, h4, h5, hk.trans h6 (Grew.refl _ _)⟩
set_option maxRecDepth 20000 in
set_option maxHeartbeats 8000000 in
theorem remove_any {S : Nat → Prop} {p c b i : Nat} {A : Option Addr} {D : DataW Value} {h : List Tm} (w : World) (ho : Own w S p A c b D h) (hi : i < h.length) (hh : Hp h.length (G h)) (hl : h.length ≤ 900000) :
    Calls Try.prog 21 #[ifc p, .int .i64 (i : Int)] w (fun e w' => ∃ v D' h', e = .returned v ∧ Own w' S p A c b D' h' ∧ Hp h'.length (G h') ∧ (h' ++ [G h i]).Perm h ∧ Keeps S w w') := by
  obtain ⟨n, hn⟩ : ∃ n, h.length = n + 1 := ⟨h.length - 1, by omega⟩
  have hlen := tlen_any w ho
  have m2 := meth_len p
  have m3 := meth_swap p
  have m4 := meth_pop p
  have hsw := swap_any S p c b A D h i n w ho hi (by omega)
  have hpop : ∀ u, Last w S p c b A h i n u → Calls Try.prog 45 #[ptr p] u (fun e w' => ∃ v D' h', e = .returned v ∧ Own w' S p A c b D' h' ∧ Hp h'.length (G h') ∧ (h' ++ [G h i]).Perm h ∧ Keeps S w w') := by
    rintro u ⟨D1, h1, ho1, hl1, hp1, hpm, hk1⟩
    refine (pop_any (G h i) u ho1 (by omega)).mono ?_
    rintro e u2 ⟨rfl, ⟨D2, ho2⟩, hk2⟩
    exact ⟨_, D2, h1, rfl, ho2, by rw [hl1]; exact hp1, hpm, hk1.trans hk2 (Grew.refl _ _)⟩
  unfold ifc
  obtain ⟨P, hP⟩ : ∃ P, ptr p = P := ⟨_, rfl⟩
  rw [hP] at m2 m3 m4 hlen hsw hpop ⊢
  have HP := Lib.hid hP
  have hwr : IntKind.i64.wrap (((n + 1 : Nat) : Int) - 1) = (n : Int) := by rw [show (((n + 1 : Nat) : Int) - 1) = (n : Int) by omega]; exact wr64 (by omega) (by omega)
  obtain ⟨m, hm⟩ : ∃ m : Nat, n + 1 = m := ⟨_, rfl⟩
  rw [hm] at hwr
  rw [hn, hm] at hlen
  have HLEN := Lib.hid hlen
  have HPOP := Lib.hid hpop
  by_cases hin : i = n
  · have hla : Last w S p c b A h i n w := by
      rw [hin]
      exact last_self ho hn hh
    have HLA := Lib.hid hla
    have b1 : ((n : Int) != (i : Int)) = false := by rw [hin]; simp
    have b2 : (n : Int) = (i : Int) := by rw [hin]
    clear hlen hpop hsw ho hi hh hl hn hP hla hm hin
    go_enter Try.func21, Try.ntmps21
    go_wp2_with (first
      | (go_at_call 43; (with_reducible refine HLEN.out.mono ?_); rintro e u2 ⟨rfl, rfl⟩)
      | (go_at_call 45; (with_reducible refine (HPOP.out _ HLA.out).mono ?_); rintro e u3 ⟨v, D', h', rfl, hrest⟩))
    go_ret
    exact ⟨v, D', h', rfl, hrest⟩
  · have hsw' := hsw hin (by omega)
    have HSW := Lib.hid hsw'
    have hne : ¬ (n : Int) = (i : Int) := by omega
    have HF := Lib.hid (And.intro hi (And.intro hn (And.intro hh (And.intro hl hin))))
    clear hlen hpop hsw hsw' ho hi hh hl hn hP hm hin
    go_enter Try.func21, Try.ntmps21
    go_wp2_with (first
      | (go_at_call 43; (with_reducible refine HLEN.out.mono ?_); rintro e u2 ⟨rfl, rfl⟩)
      | (go_at_call 47; (with_reducible refine HSW.out.mono ?_); rintro e u3 ⟨rfl, ⟨D3, ho3⟩, hk3⟩))
    have hf := HF.out
    have hdn := down_any (n := n) (i0 := i) swap_any u3 ho3 (by omega) (by rw [length_swl]; omega) (by rw [length_swl]; omega) (by
      rw [G_swl hf.1 (by omega)]
      exact (hf.2.2.1.of (by omega) (fun k _ => rfl)).hole fun k hk hne => sw_o _ hne (by omega))
    unfold ifc at hdn
    rw [HP.out] at hdn
    have HDN := Lib.hid hdn
    have HK3 := Lib.hid hk3
    clear hf hdn ho3 hk3 HSW
    go_wp2_with (go_at_call 25; (with_reducible refine HDN.out.mono ?_); rintro e u4 ⟨r, h', rfl, hin4, hr1, hr0⟩; cases r)
    · obtain ⟨D4, ho4⟩ := hin4.1
      have hup := up_any (n := n) (j := i) swap_any u4 ho4 (by have := HF.out; omega) (by rw [hin4.2.1.1, length_swl]; have := HF.out; omega) (by rw [hin4.2.1.1, length_swl]; have := HF.out; omega) (hr0 (by first | rfl | trivial))
      unfold ifc at hup
      rw [HP.out] at hup
      have HUP := Lib.hid hup
      have HIN4 := Lib.hid hin4
      clear ho4 hup hin4 hr1 hr0 HDN
      go_wp2_with (go_at_call 24; (with_reducible refine HUP.out.mono ?_); rintro e u5 ⟨rfl, h5, hin5, hp5⟩)
      have hin6 : In u3 S p c b A (swl h i n) n u5 h5 := ⟨hin5.1, HIN4.out.2.1.trans hin5.2.1, HIN4.out.2.2.trans hin5.2.2 (Grew.refl _ _)⟩
      have HLA := Lib.hid ((last_of HF.out.1 HF.out.2.1 hin6 rfl hp5).from HK3.out)
      clear hin5 hp5 hin6 HUP
      go_wp2_with (go_at_call 45; (with_reducible refine (HPOP.out _ HLA.out).mono ?_); rintro e u6 ⟨v, D', h6, rfl, hrest⟩)
      go_ret
      exact ⟨v, D', h6, rfl, hrest⟩
    · have HLA := Lib.hid ((last_of HF.out.1 HF.out.2.1 hin4 rfl (hr1 (by first | rfl | trivial))).from HK3.out)
      clear hin4 hr1 hr0 HDN
      go_wp2_with (go_at_call 45; (with_reducible refine (HPOP.out _ HLA.out).mono ?_); rintro e u6 ⟨v, D', h6, rfl, hrest⟩)
      go_ret
      exact ⟨v, D', h6, rfl, hrest⟩
end Go.Proofs.Ytldlcddmbgcfdaa.Wh
