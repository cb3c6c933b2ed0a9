/-
  Texts of earlier layers, as one.
-/
import Derived.Test.YtldlcddmbgcfdaaWhlSmall
/- container/heap's up and down over the program's timers. -/
namespace Go.Proofs.Ytldlcddmbgcfdaa.Wh
open Go.RowKit Mem Dsk

/-- The timers as container/heap sees them. -/
def ifc (p : Nat) : Value := .iface 57 (ptr p)
/-- What Swap does. -/
def SwapIs : Prop := ∀ (S : Nat → Prop) (p c b : Nat) (A : Option Addr) (D : DataW Value) (h : List Tm) (i j : Nat) (w : World), Own w S p A c b D h → i < h.length → j < h.length → i ≠ j → h.length ≤ 1000000 →
  Calls Try.prog 47 #[ptr p, .int .i64 (i : Int), .int .i64 (j : Int)] w (fun e w' => e = .returned (.tuple #[]) ∧ (∃ D', Own w' S p A c b D' (swl h i j)) ∧ Keeps S w w')
theorem meth_less (p : Nat) : ∀ m w, (method (m + 1) 57 (ptr p) "Less").run Try.prog w = .ok (44, ptr p) w := fun m w => by kernel_rfl
theorem meth_swap (p : Nat) : ∀ m w, (method (m + 1) 57 (ptr p) "Swap").run Try.prog w = .ok (47, ptr p) w := fun m w => by kernel_rfl
theorem meth_len (p : Nat) : ∀ m w, (method (m + 1) 57 (ptr p) "Len").run Try.prog w = .ok (43, ptr p) w := fun m w => by kernel_rfl
theorem meth_push (p : Nat) : ∀ m w, (method (m + 1) 57 (ptr p) "Push").run Try.prog w = .ok (46, ptr p) w := fun m w => by kernel_rfl
theorem meth_pop (p : Nat) : ∀ m w, (method (m + 1) 57 (ptr p) "Pop").run Try.prog w = .ok (45, ptr p) w := fun m w => by kernel_rfl
/-- A wheel inside a call of container/heap. -/
def In (w0 : World) (S : Nat → Prop) (p c b : Nat) (A : Option Addr) (h0 : List Tm) (n : Nat) (w : World) (h : List Tm) : Prop := (∃ D, Own w S p A c b D h) ∧ Mv n h0 h ∧ Keeps S w0 w
theorem In.less {w0 w w' : World} {S : Nat → Prop} {p c b n : Nat} {A : Option Addr} {h0 h : List Tm} (hi : In w0 S p c b A h0 n w h) (hb : Below w.heap.size w w') : In w0 S p c b A h0 n w' h := by
  obtain ⟨⟨D, h1⟩, h2, h3⟩ := hi
  exact ⟨⟨D, h1.below hb⟩, h2, h3.trans (Keeps.ofBelow hb) (Grew.refl S w0)⟩
theorem In.swap {w0 w w' : World} {S : Nat → Prop} {p c b n i j : Nat} {A : Option Addr} {h0 h : List Tm} {D' : DataW Value} (hin : In w0 S p c b A h0 n w h) (hi : i < n) (hj : j < n) (hn : n ≤ h.length) (ho : Own w' S p A c b D' (swl h i j)) (hk : Keeps S w w') : In w0 S p c b A h0 n w' (swl h i j) := by
  obtain ⟨_, h2, h3⟩ := hin
  exact ⟨⟨D', ho⟩, h2.trans (Mv.swap hi hj hn), h3.trans hk (Grew.refl S w0)⟩
def UpRel (w0 : World) (S : Nat → Prop) (p c b : Nat) (A : Option Addr) (h0 : List Tm) (n : Nat) (v : Value) (w : World) : Prop := ∃ (j : Nat) (h : List Tm), v = .int .i64 (j : Int) ∧ j < n ∧ UpI n (G h) j ∧ In w0 S p c b A h0 n w h
set_option maxRecDepth 20000 in
set_option maxHeartbeats 4000000 in
theorem up_any (hsw : SwapIs) {S : Nat → Prop} {p c b n j : Nat} {A : Option Addr} {D : DataW Value} {h : List Tm} (w : World) (ho : Own w S p A c b D h) (hj : j < n) (hn : n ≤ h.length) (hl : h.length ≤ 1000000) (hu : UpI n (G h) j) :
    Calls Try.prog 24 #[ifc p, .int .i64 (j : Int)] w (fun e w' => e = .returned (.tuple #[]) ∧ ∃ h', In w S p c b A h n w' h' ∧ Hp n (G h')) := by
  have HS := Lib.hid hsw
  have HN := Lib.hid (And.intro hn hl)
  have HI := Lib.hid (show UpRel w S p c b A h n (.int .i64 (j : Int)) w from ⟨j, h, rfl, hj, hu, ⟨D, ho⟩, Mv.refl n h, Keeps.refl S w⟩)
  have m1 := meth_less p
  have m2 := meth_swap p
  clear hsw ho hj hn hl hu
  unfold ifc
  obtain ⟨P, hP⟩ : ∃ P, ptr p = P := ⟨_, rfl⟩
  rw [hP] at m1 m2 ⊢
  have HP := Lib.hid hP
  clear hP
  go_enter Try.func24, Try.ntmps24
  go_wp2_with fail
  go_loopw [1] (UpRel w S p c b A h n) (fun v _ => (intOf v).toNat)
  case atStart => exact HI.out
  case round =>
    obtain ⟨j, h', rfl, hj, hu, hin⟩ := hrel
    clear HI
    have hln : h'.length = h.length := hin.2.1.1
    have hb1 := HN.out
    by_cases hj0 : j = 0
    · subst hj0
      have HU := Lib.hid (show In w S p c b A h n wr h' ∧ Hp n (G h') from ⟨hin, up_end hu (.inl rfl)⟩)
      clear hu hin hln hb1
      go_wp2_with fail
      go_end0
      exact ⟨rfl, h', HU.out⟩
    · obtain ⟨i, hi⟩ : ∃ i, i = (j - 1) / 2 := ⟨_, rfl⟩
      have hd : ((j : Int) - 1).tdiv 2 = (i : Int) := by
        rw [Int.tdiv_eq_ediv_of_nonneg (by omega)]
        omega
      have hij : ((i : Int) == (j : Int)) = false := by
        have : ¬ (i : Int) = (j : Int) := by omega
        simpa using this
      obtain ⟨D', ho⟩ := hin.1
      have hls := tless_any (i := j) (j := i) wr ho (by omega) (by omega) (by omega)
      have HLS := Lib.hid hls
      have HU := Lib.hid hu
      have HIN := Lib.hid hin
      have HB := Lib.hid (And.intro hb1 (And.intro hln (And.intro hj (And.intro hj0 hi))))
      have hwi : wrap64 (i : Int) = (i : Int) := by unfold wrap64; omega
      have hwr : IntKind.i64.wrap ((j : Int) - 1) = (j : Int) - 1 := wr64 (by omega) (by omega)
      rw [HP.out] at HLS
      clear hu hin hls hln hb1 hj hj0 hi ho
      obtain ⟨t, ht⟩ : ∃ t, tlt (G h' j) (G h' i) = t := ⟨_, rfl⟩
      rw [ht] at HLS
      have HT := Lib.hid ht
      clear ht
      go_wp2_with fail
      refine HLS.out.mono ?_
      rintro e w2 ⟨rfl, hb2⟩
      have HIN2 := Lib.hid (HIN.out.less hb2)
      clear hb2 HLS
      cases t with
      | false =>
        go_wp2_with fail
        go_end0
        exact ⟨rfl, h', HIN2.out, up_end HU.out (.inr (by rw [← HB.out.2.2.2.2]; exact HT.out))⟩
      | true =>
        obtain ⟨D2, ho2⟩ := HIN2.out.1
        have hss := HS.out S p c b A D2 h' i j w2 ho2 (by have := HB.out; omega) (by have := HB.out; omega) (by have := HB.out; omega) (by have := HB.out; omega)
        rw [HP.out] at hss
        have HSS := Lib.hid hss
        clear hss ho2
        go_wp2_with fail
        refine HSS.out.mono ?_
        rintro e w3 ⟨rfl, ⟨D3, ho3⟩, hk3⟩
        have HIN3 := Lib.hid (HIN2.out.swap (n := n) (by have := HB.out; omega) (by have := HB.out; omega) (by have := HB.out; omega) ho3 hk3)
        clear ho3 hk3 HSS
        go_wp2_with fail
        go_roundw
        case rel =>
          refine ⟨i, swl h' i j, rfl, by have := HB.out; omega, ?_, HIN3.out⟩
          rw [G_swl (by have := HB.out; omega) (by have := HB.out; omega)]
          exact up_step HU.out (by have := HB.out; omega) (by have := HB.out; omega) HB.out.2.2.2.2 HT.out
        case measure =>
          have := HB.out
          simp [intOf]
          omega
end Go.Proofs.Ytldlcddmbgcfdaa.Wh
