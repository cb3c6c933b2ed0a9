/-
  The document's Size of any item: asked up to L, where it answers at most L, it is how many items and bytes there are.
-/
import Derived.Test.YtccbkpdkmdnmfaaProg
import Derived.Test.YtccbkpdkmdnmfaaCodMem
namespace Go.Proofs.Ytccbkpdkmdnmfaa
open Go.RowKit Mem Cod

def Sized (L : Nat) (x : It) (b : Int) (w : World) (e : Ending) (w' : World) : Prop :=
  ∃ r : Int, e = .returned (.int .i64 r) ∧ 0 ≤ r ∧ r ≤ b ∧ (r ≤ L → (wt x : Int) = r) ∧ Below w.heap.size w w'

def SizeRel (L : Nat) (w0 : World) (x : It) (b : Int) (n i : Value) (wr : World) : Prop :=
  ∃ (k : Nat) (r : Int), k ≤ x.kids.length ∧ i = .int .i64 k ∧ n = .int .i64 r ∧ 0 ≤ r ∧ r ≤ b ∧ (r ≤ L → ((1 + x.str.size + wts (x.kids.take k) : Nat) : Int) = r) ∧ Below w0.heap.size w0 wr

set_option maxHeartbeats 1000000 in
theorem sizeof_any (L : Nat) (hL : L ≤ 600) (dp : Nat) : ∀ (x : It) (A : Option Addr) (c : Nat) (S : Nat → Prop) (w : World), dp ≤ 40 → Lies w S x A c →
    Calls Try.prog 14 #[.agg #[.int .i64 x.kind, .int .u64 (x.num : Int), .string x.str, .slice A x.kids.length c], .int .i64 (L : Int), .int .i64 dp] w (Sized L x (140737488355400 + 601 * dp) w) := by
  induction dp with
  | zero =>
    intro x A c S w _ hl
    go_enter Try.func14, Try.ntmps14
    go_wp2_with fail
    go_ret
    exact ⟨(L : Int) + 1, by simp,  by omega, by omega, by omega, bel_alloc (Below.refl _ _) _⟩
  | succ dp ih =>
    intro x A c S w hd hl
    have IH := Lib.hid ih
    clear ih
    obtain ⟨b1, b2, b3, b4, b5, b6⟩ := hl.bounds
    rw [show ((dp + 1 : Nat) : Int) = (dp : Int) + 1 by omega]
    have hd0 : ((dp : Int) + 1 == 0) = false := by simp; omega
    have HL := Lib.hid hl
    clear hl
    go_enter Try.func14, Try.ntmps14
    go_wp2_with fail
    go_loopw [7, 8] (SizeRel L (w.alloc (.cells #[.int .i64 x.kind, .int .u64 (x.num : Int), .string x.str, .slice A x.kids.length c] 37)) x (140737488355400 + 601 * (dp + 1))) (fun _ i _ => x.kids.length - (intOf i).toNat)
    case atStart => exact ⟨0, _, Nat.zero_le _, rfl, rfl, by omega, by omega, fun _ => by simp [wts], Below.refl _ _⟩
    case round =>
      obtain ⟨k, r, hk, rfl, rfl, r0, r1, hr, hb⟩ := hrel
      have HR := Lib.hid hr
      clear hr
      have hc3 := ((Blk.new w _ _).bel hb).cell 3
      simp only [List.getElem?_toArray, List.getElem?_cons_succ, List.getElem?_cons_zero] at hc3
      have HB := Lib.hid hb
      clear hb
      by_cases hlt : k < x.kids.length
      · by_cases hr6 : r ≤ L
        · obtain ⟨ad, A', c', rfl, _, hblk, hsp, hl'⟩ := ((lies_eq _ _ _ _ _).1 HL.out).2.2 k hlt
          have hbw : Below w.heap.size w wr := (bel_alloc (Below.refl _ _) _).trans (HB.out.mono (by simp))
          obtain ⟨s0, s1, s2, s3⟩ := hsp.keep (w' := wr) fun p hp => hbw.cell (by rw [hp, add_block]; exact hblk)
          generalize hea : ad.add (k * 4) = ea at s0 s1 s2 s3
          have HSP := Lib.hid hsp
          clear hsp
          go_wp2_with fail
          refine (IH.out x.kids[k] A' c' S wr (by omega) ?_).mono ?_
          · exact (hl'.keep (w' := wr) _ (fun _ h _ => h) hbw.size fun p _ hp => hbw.cell hp)
          rintro e w1 ⟨r2, rfl, q0, q1, hq, hb1⟩
          have HQ := Lib.hid hq
          clear hq
          go_wp2_with fail
          refine ⟨⟨k + 1, r + r2, by omega, by simp, rfl, by omega, by omega, ?_, HB.out.trans (hb1.mono HB.out.size)⟩, by simp [intOf]; omega⟩
          intro h6
          have e1 := HR.out hr6
          have e2 := HQ.out (by omega)
          rw [List.take_add_one, List.getElem?_eq_getElem hlt, wts_append]
          simp only [Option.toList, wts_one]
          omega
        · go_wp2_with fail
          go_ret
          exact ⟨r, rfl, r0, by simpa using r1, fun h => by omega, (bel_alloc (Below.refl _ _) _).trans (HB.out.mono (by simp))⟩
      · obtain rfl : k = x.kids.length := by omega
        go_wp2_with fail
        go_ret
        refine ⟨r, rfl, r0, by simpa using r1, fun h => ?_, (bel_alloc (Below.refl _ _) _).trans (HB.out.mono (by simp))⟩
        have := HR.out h
        rw [List.take_length] at this
        rw [wt_eq]
        exact this
end Go.Proofs.Ytccbkpdkmdnmfaa
