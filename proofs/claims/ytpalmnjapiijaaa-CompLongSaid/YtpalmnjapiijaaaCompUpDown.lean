/-
  Texts of earlier layers, as one.
-/
import Derived.Test.YtpalmnjapiijaaaCompNumOps
/- container/heap's up, down, Push and Pop over the program's numbers. -/
namespace Go.Proofs.Ytpalmnjapiijaaa.Gr.Hq
open Go.RowKit Mem Dsk

/-- The heap inside a call of container/heap. -/
def In (w0 : World) (B : Nat) (col : Nat → Nat) (p : Nat) (x0 x1 x2 : Value) (A : Option Addr) (c : Nat) (h0 : List Nat) (n : Nat) (w : World) (h : List Nat) : Prop := HN w B col p x0 x1 x2 A c h ∧ Mv n h0 h ∧ Trn K4 w0 col w col
section
variable {w0 w w' : World} {B p c n : Nat} {col : Nat → Nat} {x0 x1 x2 : Value} {A : Option Addr} {h0 h : List Nat}
theorem k40 : ¬ K4 0 := by unfold K4; omega
theorem In.bel (hi : In w0 B col p x0 x1 x2 A c h0 n w h) (hb : Below w.heap.size w w') : In w0 B col p x0 x1 x2 A c h0 n w' h := ⟨hi.1.bel hb, hi.2.1, hi.2.2.trans (Trn.ofBelow hb K4 col) k40⟩
theorem In.swap {i j : Nat} (hin : In w0 B col p x0 x1 x2 A c h0 n w h) (hi : i < n) (hj : j < n) (hn : n ≤ h.length) (ho : HN w' B col p x0 x1 x2 A c (swl h i j)) (hk : Trn K4 w col w' col) : In w0 B col p x0 x1 x2 A c h0 n w' (swl h i j) :=
  ⟨ho, hin.2.1.trans (Mv.swap hi hj hn), hin.2.2.trans hk k40⟩
end
def UpRel (w0 : World) (B : Nat) (col : Nat → Nat) (p : Nat) (x0 x1 x2 : Value) (A : Option Addr) (c : Nat) (h0 : List Nat) (n : Nat) (v : Value) (w : World) : Prop := ∃ (j : Nat) (h : List Nat), v = .int .i64 (j : Int) ∧ j < n ∧ UpI n (G h) j ∧ In w0 B col p x0 x1 x2 A c h0 n w h
section
variable {B p c n : Nat} {col : Nat → Nat} {x0 x1 x2 : Value} {A : Option Addr} {h : List Nat}
set_option maxRecDepth 20000 in
set_option maxHeartbeats 4000000 in
theorem up_any {j : Nat} (w : World) (ho : HN w B col p x0 x1 x2 A c h) (hj : j < n) (hn : n ≤ h.length) (hl : h.length ≤ 1000000) (hu : UpI n (G h) j) :
    Calls Try.prog 28 #[ifc p, .int .i64 (j : Int)] w (fun e w' => e = .returned (.tuple #[]) ∧ ∃ h', In w B col p x0 x1 x2 A c h n w' h' ∧ Hp n (G h')) := by
  have HN := Lib.hid (And.intro hn hl)
  have HI := Lib.hid (show UpRel w B col p x0 x1 x2 A c h n (.int .i64 (j : Int)) w from ⟨j, h, rfl, hj, hu, ho, Mv.refl n h, Trn.refl K4 w col⟩)
  obtain ⟨N, hN⟩ : ∃ y, h.length = y := ⟨_, rfl⟩
  have m1 := meth_val (p := p) (A := A) (n := N) (c := c) "Less" _ (meth_less p)
  have m2 := meth_val (p := p) (A := A) (n := N) (c := c) "Swap" _ (meth_swap p)
  have HNN := Lib.hid hN
  clear ho hj hn hl hu hN
  unfold ifc ptr3
  obtain ⟨P, hP⟩ : ∃ P : Value, .pointer (some ⟨p, 3, none⟩) = P := ⟨_, rfl⟩
  rw [hP] at m1 m2 ⊢
  clear hP
  go_enter Try.func28, Try.ntmps28
  go_wp2_with fail
  go_loopw [1] (UpRel w B col p x0 x1 x2 A c h n) (fun v _ => (intOf v).toNat)
  case atStart => exact HI.out
  case round =>
    obtain ⟨j, h', rfl, hj, hu, hin⟩ := hrel
    clear HI
    have hln : h'.length = h.length := hin.2.1.1
    have hb1 := HN.out
    by_cases hj0 : j = 0
    · subst hj0
      have HU := Lib.hid (show In w B col p x0 x1 x2 A c h n wr h' ∧ Hp n (G h') from ⟨hin, up_end hu (.inl rfl)⟩)
      clear hu hin hln hb1
      go_wp2_with fail
      go_end0
      exact ⟨rfl, h', HU.out⟩
    · obtain ⟨i, hi⟩ : ∃ i, i = (j - 1) / 2 := ⟨_, rfl⟩
      have hd : ((j : Int) - 1).tdiv 2 = (i : Int) := by
        rw [Int.tdiv_eq_ediv_of_nonneg (by omega)]
        omega
      have hij : ((i : Int) == (j : Int)) = false := by
        have : ¬ (i : Int) = (j : Int) := by omega
        simpa using this
      have hls := less_any (i := j) (j := i) wr hin.1 (by omega) (by omega)
      rw [hln, HNN.out] at hls
      have c3 := hin.1.cell
      rw [hln, HNN.out] at c3
      have HLS := Lib.hid hls
      have HU := Lib.hid hu
      have HIN := Lib.hid hin
      have HB := Lib.hid (And.intro hb1 (And.intro hln (And.intro hj (And.intro hj0 hi))))
      have hwi : wrap64 (i : Int) = (i : Int) := by unfold wrap64; omega
      have hwr : IntKind.i64.wrap ((j : Int) - 1) = (j : Int) - 1 := wr64 (by omega) (by omega)
      clear hu hin hls hln hb1 hj hj0 hi
      obtain ⟨t, ht⟩ : ∃ t, tlt (G h' j) (G h' i) = t := ⟨_, rfl⟩
      rw [ht] at HLS
      have HT := Lib.hid ht
      clear ht
      go_wp2_with fail
      refine HLS.out.mono ?_
      rintro e w2 ⟨rfl, hb2⟩
      have HIN2 := Lib.hid (HIN.out.bel hb2)
      clear hb2 HLS c3
      cases t with
      | false =>
        go_wp2_with fail
        go_end0
        exact ⟨rfl, h', HIN2.out, up_end HU.out (.inr (by rw [← HB.out.2.2.2.2]; exact HT.out))⟩
      | true =>
        have hss := swap_any (i := i) (j := j) w2 HIN2.out.1 (by have := HB.out; omega) (by have := HB.out; omega)
        have c3 := HIN2.out.1.cell
        rw [HB.out.2.1, HNN.out] at hss c3
        have HSS := Lib.hid hss
        clear hss
        go_wp2_with fail
        refine HSS.out.mono ?_
        rintro e w3 ⟨rfl, ho3, hk3⟩
        have HIN3 := Lib.hid (HIN2.out.swap (n := n) (by have := HB.out; omega) (by have := HB.out; omega) (by have := HB.out; omega) ho3 hk3)
        clear ho3 hk3 HSS c3
        go_wp2_with fail
        go_roundw
        case rel =>
          refine ⟨i, swl h' i j, rfl, by have := HB.out; omega, ?_, HIN3.out⟩
          rw [G_swl (by have := HB.out; omega) (by have := HB.out; omega)]
          exact up_step HU.out (by have := HB.out; omega) (by have := HB.out; omega) HB.out.2.2.2.2 HT.out
        case measure =>
          have := HB.out
          simp [intOf]
          omega
end
end Go.Proofs.Ytpalmnjapiijaaa.Gr.Hq
