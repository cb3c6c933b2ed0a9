/-
  Texts of earlier layers, as one.
-/
import Derived.Test.YtpalmnjapiijaaaCompDown
/- container/heap's Push and Pop over the program's numbers. -/
namespace Go.Proofs.Ytpalmnjapiijaaa.Gr.Hq
open Go.RowKit Mem Dsk

theorem kh0 : ¬ KH 0 := by unfold KH; omega
theorem Trn.mono {K K' : Nat → Prop} {w w' : World} {col col' : Nat → Nat} (h : Trn K w col w' col') (hk : ∀ q, K q → K' q) : Trn K' w col w' col' := ⟨h.os, h.tape, h.output, h.size, h.ext, h.new, fun b hb hn => h.blk b hb fun e => hn (hk _ e)⟩
section
variable {B p c : Nat} {col : Nat → Nat} {x0 x1 x2 : Value} {A : Option Addr} {h : List Nat}
set_option maxRecDepth 20000 in
set_option maxHeartbeats 4000000 in
theorem hpush_any (x : Nat) (w : World) (ho : HN w B col p x0 x1 x2 A c h) (hh : Hp h.length (G h)) (hl : h.length ≤ 900000) :
    Calls Try.prog 26 #[ifc p, .iface 3 (.int .i64 (x : Int))] w (fun e w' => e = .returned (.tuple #[]) ∧ ∃ V c' col' h', HN w' B col' p x0 x1 x2 V c' h' ∧ Hp h'.length (G h') ∧ h'.Perm (h ++ [x]) ∧ Trn KH w col w' col') := by
  have HPU := Lib.hid (npush_any x w ho (by omega))
  have m1 := meth_push p
  have HH := Lib.hid (And.intro hh hl)
  have HL := Lib.hid (fun (A : Option Addr) (n c : Nat) => meth_val (p := p) (A := A) (n := n) (c := c) "Len" _ (meth_len p))
  clear ho hh hl
  unfold ifc ptr3
  obtain ⟨P, hP⟩ : ∃ P : Value, .pointer (some ⟨p, 3, none⟩) = P := ⟨_, rfl⟩
  rw [hP] at m1 HPU HL ⊢
  obtain ⟨T, hT⟩ : ∃ T : Value, .iface 3 (.int .i64 (x : Int)) = T := ⟨_, rfl⟩
  rw [hT] at HPU ⊢
  have HP := Lib.hid hP
  clear hP hT
  go_enter Try.func26, Try.ntmps26
  go_wp2_with fail
  refine HPU.out.mono ?_
  rintro e u ⟨rfl, V, c', col', ho, hk⟩
  obtain ⟨n, hn⟩ : ∃ n, h.length = n := ⟨_, rfl⟩
  have hhl : (h ++ [x]).length = n + 1 := by simp [hn]
  have c3 := ho.cell
  rw [hhl] at c3
  have m2 := HL.out V (n + 1) c'
  have hup := up_any (n := n + 1) (j := n) u ho (by omega) (by omega) (by have := HH.out.2; omega) (by have := hp_snoc (t := x) HH.out.1; rwa [hn] at this)
  unfold ifc ptr3 at hup
  rw [HP.out] at hup
  have hwr : IntKind.i64.wrap (((n : Int) + 1) - 1) = (n : Int) := by rw [show ((n : Int) + 1) - 1 = (n : Int) by omega]; exact wr64 (by omega) (by have := HH.out.2; omega)
  have hwr2 : wrap64 (n : Int) = (n : Int) := by unfold wrap64; have := HH.out.2; omega
  have HK := Lib.hid (And.intro hk (And.intro hn hhl))
  have HUP := Lib.hid hup
  have HLEN := Lib.hid (len_any u V (n + 1) c')
  clear ho hk hhl hup hn HPU m1
  go_wp2_with fail
  (with_reducible refine HLEN.out.mono ?_)
  rintro e u2 ⟨rfl, rfl⟩
  go_wp2_with fail
  (with_reducible refine HUP.out.mono ?_)
  rintro e u3 ⟨rfl, h', hin, hp⟩
  have HE := Lib.hid (And.intro hin hp)
  clear hin hp c3 m2
  go_wp2_with fail
  go_end0
  obtain ⟨⟨ho3, ⟨hl3, hp3, _⟩, hk3⟩, hp⟩ := HE.out
  have hl4 : h'.length = n + 1 := by rw [hl3, HK.out.2.2]
  exact ⟨rfl, V, c', col', h', ho3, by rw [hl4]; exact hp, hp3, HK.out.1.trans (hk3.mono fun q hq => .inr hq) kh0⟩
set_option maxHeartbeats 2000000 in
theorem down_zero (w : World) (I : Value) : Calls Try.prog 27 #[I, .int .i64 0, .int .i64 0] w (fun e w' => e = .returned (.bool false) ∧ w = w') := by
  go_enter Try.func27, Try.ntmps27
  go_wp2_with fail
  go_loopw [7] (fun (v : Value) (w' : World) => v = .int .i64 0 ∧ w = w') (fun _ _ => 0)
  case atStart => exact ⟨rfl, rfl⟩
  case round =>
    obtain ⟨rfl, rfl⟩ := hrel
    go_wp2_with fail
    go_ret
    first | exact ⟨rfl, rfl⟩ | simp
set_option maxRecDepth 20000 in
set_option maxHeartbeats 4000000 in
theorem hpop_any (w : World) (ho : HN w B col p x0 x1 x2 A c h) (hh : Hp h.length (G h)) (h0 : 0 < h.length) (hl : h.length ≤ 900000) :
    Calls Try.prog 24 #[ifc p] w (fun e w' => ∃ (x : Nat) (h' : List Nat), e = .returned (.iface 3 (.int .i64 (x : Int))) ∧ HN w' B col p x0 x1 x2 A c h' ∧ Hp h'.length (G h') ∧ h.Perm (h' ++ [x]) ∧ (∀ y ∈ h, x ≤ y) ∧ Trn KH w col w' col) := by
  obtain ⟨n, hn⟩ : ∃ n, h.length = n + 1 := ⟨h.length - 1, by omega⟩
  have hsw := swap_any (i := 0) (j := n) w ho (by omega) (by omega)
  have c3 := ho.cell
  have e0 : ((0 : Nat) : Int) = 0 := rfl
  rw [hn] at c3
  rw [hn, e0] at hsw
  have m1 := meth_pop p
  have m2 := meth_val (p := p) (A := A) (n := n + 1) (c := c) "Len" _ (meth_len p)
  have m3 := meth_val (p := p) (A := A) (n := n + 1) (c := c) "Swap" _ (meth_swap p)
  have HH := Lib.hid (And.intro hh (And.intro hl hn))
  have hwr : IntKind.i64.wrap (((n : Int) + 1) - 1) = (n : Int) := by rw [show ((n : Int) + 1) - 1 = (n : Int) by omega]; exact wr64 (by omega) (by omega)
  have hwr2 : wrap64 (n : Int) = (n : Int) := by unfold wrap64; omega
  have HSW := Lib.hid hsw
  have E0 := Lib.hid e0
  have HLEN := Lib.hid (len_any w A (n + 1) c)
  clear ho hh h0 hl hsw hn e0
  unfold ifc ptr3
  obtain ⟨P, hP⟩ : ∃ P : Value, .pointer (some ⟨p, 3, none⟩) = P := ⟨_, rfl⟩
  rw [hP] at m1 m2 m3 ⊢
  have HP := Lib.hid hP
  clear hP
  go_enter Try.func24, Try.ntmps24
  go_wp2_with fail
  (with_reducible refine HLEN.out.mono ?_)
  rintro e u2 ⟨rfl, rfl⟩
  go_wp2_with fail
  (with_reducible refine HSW.out.mono ?_)
  rintro e u ⟨rfl, ho1, hk1⟩
  clear c3 m2 m3 hwr
  have HDN : Hid (∀ (Q : Ending → World → Prop), (∀ r u' h2, In u B col p x0 x1 x2 A c (swl h 0 n) n u' h2 → Hp n (G h2) → Q (.returned (.bool r)) u') → Calls Try.prog 27 #[.iface 50 P, .int .i64 0, .int .i64 (n : Int)] u Q) := Lib.hid fun Q hQ => by
    by_cases hn0 : n = 0
    · subst hn0
      refine (down_zero u _).mono ?_
      rintro e u' ⟨rfl, rfl⟩
      exact hQ false u (swl h 0 0) ⟨ho1, Mv.refl _ _, Trn.refl K4 u col⟩ fun k k0 kn => by omega
    · have hl1 : (swl h 0 n).length = n + 1 := by rw [length_swl, HH.out.2.2]
      have hdn := down_any (n := n) (i0 := 0) u ho1 (by omega) (by omega) (by have := HH.out.2; omega) ((HH.out.1.of (m := n) (g := G h) (by have := HH.out.2.2; omega) fun _ _ => rfl).hole fun k kn k0 => by
        rw [G_swl (by have := HH.out.2.2; omega) (by have := HH.out.2.2; omega)]
        exact sw_o _ k0 (by omega))
      unfold ifc ptr3 at hdn
      rw [HP.out, E0.out] at hdn
      refine hdn.mono ?_
      rintro e u' ⟨r, h2, rfl, hin, hr1, hr0⟩
      refine hQ r u' h2 hin ?_
      cases r with
      | true => exact hr1 rfl
      | false => exact up_end (hr0 rfl) (.inl rfl)
  have HK1 := Lib.hid hk1
  clear ho1 hk1 HSW HLEN
  go_wp2_with fail
  (with_reducible refine HDN.out _ ?_)
  intro r u3 h2 hin hp2
  have hl2 : h2.length = n + 1 := by rw [hin.2.1.1, length_swl, HH.out.2.2]
  have hx : G h2 n = G h 0 := by
    rw [hin.2.1.2.2 n (Nat.le_refl _), G_swl (by have := HH.out.2.2; omega) (by have := HH.out.2.2; omega), sw_r]
  have he := split_end hl2
  rw [hx] at he
  have ho3 := hin.1
  rw [he] at ho3
  have htl : (h2.take n).length = n := by rw [List.length_take, hl2]; omega
  have hpo := npop_any (G h 0) u3 ho3 (by rw [htl]; have := HH.out.2; omega)
  rw [HP.out] at hpo
  have HPO := Lib.hid hpo
  have HF := Lib.hid (show Hp (h2.take n).length (G (h2.take n)) ∧ h.Perm (h2.take n ++ [G h 0]) ∧ (∀ y ∈ h, G h 0 ≤ y) ∧ Trn KH w col u3 col from by
    refine ⟨?_, ?_, root_least HH.out.1, ((HK1.out.mono fun q hq => .inr hq).trans (hin.2.2.mono fun q hq => .inr hq) kh0)⟩
    · rw [htl]
      exact hp2.of (Nat.le_refl n) fun k kn => G_take kn
    · rw [← he]
      exact (hin.2.1.2.1.trans (swl_perm (by have := HH.out.2.2; omega) (by have := HH.out.2.2; omega))).symm)
  clear hin hp2 hl2 hx he ho3 htl hpo HDN HK1
  go_wp2_with fail
  (with_reducible refine HPO.out.mono ?_)
  rintro e u4 ⟨rfl, ho4, hk4⟩
  have HO4 := Lib.hid (And.intro ho4 hk4)
  clear ho4 hk4 HPO
  go_wp2_with fail
  go_ret
  exact ⟨G h 0, h2.take n, rfl, HO4.out.1, HF.out.1, HF.out.2.1, HF.out.2.2.1, HF.out.2.2.2.trans HO4.out.2 kh0⟩
end
end Go.Proofs.Ytpalmnjapiijaaa.Gr.Hq
