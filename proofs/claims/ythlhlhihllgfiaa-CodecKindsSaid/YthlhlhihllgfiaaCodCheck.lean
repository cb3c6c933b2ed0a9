/-
  The document's check of any item: what is wrong with it, nested so deep.
-/
import Derived.Test.YthlhlhihllgfiaaCodForm
namespace Go.Proofs.Ythlhlhihllgfiaa
open Go.RowKit Mem Cod

/-- The ending: an int; what was there stays. -/
def Counts (r : Nat) (w : World) (e : Ending) (w' : World) : Prop := e = .returned (.int .i64 (r : Int)) ∧ Below w.heap.size w w'

theorem s_ne (s : ByteArray) (h : ¬ s.size = 0) : ¬ s.toList = [] ∧ s.toList.isEmpty = false := by
  have : ¬ s.toList = [] := fun e => h ((toList_nil s).1 e)
  exact ⟨this, by simpa using this⟩

set_option maxHeartbeats 2000000 in
theorem check_bad (x : It) (A : Option Addr) (c : Nat) (w : World) (d : Nat) (h : formed x = false) :
    Calls Try.prog 28 #[.agg #[.int .i64 x.kind, .int .u64 (x.num : Int), .string x.str, .slice A x.kids.length c], .int .i64 d] w (Counts 4 w) := by
  unfold formed at h
  generalize x.kind = k at h ⊢
  generalize x.num = n at h ⊢
  generalize x.str = s at h ⊢
  generalize x.kids.length = m at h ⊢
  by_cases h0 : k = 0
  · subst h0
    by_cases hs : s.size = 0
    · have hm : 0 < m := by
        rcases Nat.eq_zero_or_pos m with hm | hm
        · simp [hs, hm] at h
        · exact hm
      have hs2 := (toList_nil s).2 hs
      clear h hs
      go_enter Try.func28, Try.ntmps28
      go_wp2_with fail
      go_ret
      exact ⟨rfl, bel_alloc (Below.refl _ _) _⟩
    · obtain ⟨hs2, hs3⟩ := s_ne s hs
      clear h hs
      go_enter Try.func28, Try.ntmps28
      go_wp2_with fail
      go_ret
      exact ⟨rfl, bel_alloc (Below.refl _ _) _⟩
  · by_cases h1 : k = 1
    · subst h1
      by_cases hn : n = 0
      · have hm : 0 < m := by
          rcases Nat.eq_zero_or_pos m with hm | hm
          · simp [hn, hm] at h
          · exact hm
        subst hn
        clear h h0
        go_enter Try.func28, Try.ntmps28
        go_wp2_with fail
        go_ret
        exact ⟨rfl, bel_alloc (Below.refl _ _) _⟩
      · have hn2 : ((n : Int) != 0) = true := by rw [bne_iff_ne]; omega
        clear h h0
        go_enter Try.func28, Try.ntmps28
        go_wp2_with fail
        go_ret
        exact ⟨rfl, bel_alloc (Below.refl _ _) _⟩
    · by_cases h2 : k = 2
      · subst h2
        by_cases hn : n = 0
        · have hs : ¬ s.size = 0 := by intro hs; simp [hn, hs] at h
          obtain ⟨hs2, hs3⟩ := s_ne s hs
          subst hn
          clear h h0 h1 hs
          go_enter Try.func28, Try.ntmps28
          go_wp2_with fail
          go_ret
          exact ⟨rfl, bel_alloc (Below.refl _ _) _⟩
        · have hn2 : ((n : Int) != 0) = true := by rw [bne_iff_ne]; omega
          clear h h0 h1
          go_enter Try.func28, Try.ntmps28
          go_wp2_with fail
          go_ret
          exact ⟨rfl, bel_alloc (Below.refl _ _) _⟩
      · by_cases hl : k < 0
        · clear h h0 h1 h2
          go_enter Try.func28, Try.ntmps28
          go_wp2_with fail
          go_ret
          exact ⟨rfl, bel_alloc (Below.refl _ _) _⟩
        · have hg : 2 < k := by omega
          have hl' : ¬ k < 0 := hl
          clear h h0 h1 h2 hl
          go_enter Try.func28, Try.ntmps28
          go_wp2_with fail
          go_ret
          exact ⟨rfl, bel_alloc (Below.refl _ _) _⟩

def CheckRel (w0 : World) (l : List It) (d : Nat) (i : Value) (wr : World) : Prop :=
  ∃ k : Nat, k ≤ l.length ∧ i = .int .i64 k ∧ chks (l.take k) (d + 1) = 0 ∧ Below w0.heap.size w0 wr

theorem chks_stop {l : List It} {k d : Nat} (hk : k < l.length) (h0 : chks (l.take k) d = 0) (h1 : chk l[k] d ≠ 0) : chks l d = chk l[k] d := by
  conv => lhs; rw [← List.take_append_drop k l]
  rw [chks_append, if_pos h0, List.drop_eq_getElem_cons hk]
  simp only [chks]
  rw [if_neg h1]
theorem chks_go {l : List It} {k d : Nat} (hk : k < l.length) (h0 : chks (l.take k) d = 0) (h1 : chk l[k] d = 0) : chks (l.take (k + 1)) d = 0 := by
  rw [List.take_add_one, List.getElem?_eq_getElem hk, chks_append, if_pos h0]
  simpa [chks_one] using h1

set_option maxHeartbeats 4000000 in
/-- The walk of an item of a kind, with nothing that its kind doesn't have. -/
theorem check_good (x : It) (A : Option Addr) (c : Nat) (S : Nat → Prop) (w : World) (d : Nat) (hd : d ≤ 16) (hl : Lies w S x A c)
    (ih : ∀ (y : It) (A : Option Addr) (c : Nat) (S : Nat → Prop) (w : World), d ≤ 15 → y ∈ x.kids → Lies w S y A c →
      Calls Try.prog 28 #[.agg #[.int .i64 y.kind, .int .u64 (y.num : Int), .string y.str, .slice A y.kids.length c], .int .i64 ((d : Int) + 1)] w (Counts (chk y (d + 1)) w))
    (h : formed x ≠ false) (r : Nat) (hr : (if 15 < d then 12 else chks x.kids (d + 1)) = r) :
    Calls Try.prog 28 #[.agg #[.int .i64 x.kind, .int .u64 (x.num : Int), .string x.str, .slice A x.kids.length c], .int .i64 d] w (Counts r w) := by
  have he : ByteArray.empty.toList = [] := (toList_nil _).2 rfl
  have HL := Lib.hid hl
  have IH := Lib.hid ih
  have HR := Lib.hid hr
  clear hl ih hr
  obtain ⟨b1, b2, b3, b4, b5, b6⟩ := HL.out.bounds
  obtain ⟨k, n, s, l⟩ := x
  simp only [It.kind, It.num, It.str, It.kids] at b1 b2 b3 b4 b5 b6 ⊢
  have hc : (k = 0 ∧ s = ByteArray.empty ∧ ¬ 0 < l.length) ∨ (k = 1 ∧ n = 0 ∧ ¬ 0 < l.length) ∨ (k = 2 ∧ n = 0 ∧ s = ByteArray.empty) := by
    rcases formed_cases h with ⟨n', e⟩ | ⟨s', e⟩ | ⟨l', e⟩ <;> injection e with e1 e2 e3 e4
    · exact .inl ⟨e1, e3, by simp [e4]⟩
    · exact .inr (.inl ⟨e1, e2, by simp [e4]⟩)
    · exact .inr (.inr ⟨e1, e2, e3⟩)
  clear h
  by_cases h15 : 15 < (d : Int)
  · rcases hc with ⟨rfl, rfl, hm⟩ | ⟨rfl, rfl, hm⟩ | ⟨rfl, rfl, rfl⟩
    all_goals
      go_enter Try.func28, Try.ntmps28
      go_wp2_with fail
      go_ret
      have hr := HR.out
      rw [if_pos (by omega)] at hr
      subst hr
      exact ⟨rfl, bel_alloc (Below.refl _ _) _⟩
  · have h15' : (d : Int) ≤ 15 := by omega
    have hr := HR.out
    rw [if_neg (by omega)] at hr
    simp only [It.kids] at hr
    have HR' := Lib.hid hr
    clear hr HR
    rcases hc with ⟨rfl, rfl, hm⟩ | ⟨rfl, rfl, hm⟩ | ⟨rfl, rfl, rfl⟩
    all_goals
      go_enter Try.func28, Try.ntmps28
      go_wp2_with fail
      go_loopw [5] (CheckRel (w.alloc (.cells #[.int .i64 _, .int .u64 _, .string _, .slice A l.length c] 25)) l d) (fun i _ => l.length - (intOf i).toNat)
      case atStart => exact ⟨0, Nat.zero_le _, rfl, rfl, Below.refl _ _⟩
      case round =>
        obtain ⟨k, hk, rfl, hz, hb⟩ := hrel
        have HZ := Lib.hid hz
        clear hz
        have hc3 := ((Blk.new w _ _).bel hb).cell 3
        simp only [List.getElem?_toArray, List.getElem?_cons_succ, List.getElem?_cons_zero] at hc3
        have hbw : Below w.heap.size w wr := (bel_alloc (Below.refl _ _) _).trans (hb.mono (by simp))
        have HB := Lib.hid hb
        clear hb
        by_cases hlt : k < l.length
        · first
          | (exfalso; omega)
          | (
            obtain ⟨ad, A', c', rfl, _, hblk, hsp, hl'⟩ := ((lies_eq _ _ _ _ _).1 HL.out).2.2 k hlt
            simp only [It.kids] at hsp hl'
            obtain ⟨s0, s1, s2, s3⟩ := hsp.keep (w' := wr) fun p hp => hbw.cell (by rw [hp, add_block]; exact hblk)
            generalize hea : ad.add (k * 4) = ea at s0 s1 s2 s3
            have HSP := Lib.hid hsp
            have HL' := Lib.hid (hl'.keep (w' := wr) (S' := S) _ (fun _ h _ => h) hbw.size fun p _ hp => hbw.cell hp)
            clear hsp hl'
            go_wp2_with fail
            refine (IH.out l[k] A' c' S wr (by omega) (List.getElem_mem hlt) HL'.out).mono ?_
            rintro e w1 ⟨rfl, hb1⟩
            have hb2 := HB.out.trans (hb1.mono HB.out.size)
            by_cases h0 : chk l[k] (d + 1) = 0
            · have H0 := Lib.hid h0
              have e0 : ((chk l[k] (d + 1) : Nat) : Int) = 0 := by omega
              rw [e0]
              clear h0 e0
              go_wp2_with fail
              exact ⟨⟨k + 1, by omega, by simp, chks_go hlt HZ.out H0.out, hb2⟩, by simp [intOf]; omega⟩
            · have H0 := Lib.hid h0
              have e0 : (((chk l[k] (d + 1) : Nat) : Int) != 0) = true := by rw [bne_iff_ne]; omega
              generalize hv : chk l[k] (d + 1) = v at *
              have HV := Lib.hid hv
              clear h0 hv
              go_wp2_with fail
              go_ret
              refine ⟨?_, (bel_alloc (Below.refl _ _) _).trans (hb2.mono (by simp))⟩
              rw [← HR'.out, chks_stop hlt HZ.out (by rw [HV.out]; exact H0.out), HV.out]
              rfl)
        · obtain rfl : k = l.length := by omega
          go_wp2_with fail
          go_ret
          refine ⟨?_, (bel_alloc (Below.refl _ _) _).trans (HB.out.mono (by simp))⟩
          have := HZ.out
          rw [List.take_length] at this
          rw [← HR'.out, this]
          rfl

theorem check_any (x : It) : ∀ (A : Option Addr) (c : Nat) (S : Nat → Prop) (w : World) (d : Nat), d ≤ 16 → Lies w S x A c →
    Calls Try.prog 28 #[.agg #[.int .i64 x.kind, .int .u64 (x.num : Int), .string x.str, .slice A x.kids.length c], .int .i64 d] w (Counts (chk x d) w) := by
  induction x using It.ind with
  | h x ih =>
  intro A c S w d hd hl
  rw [chk_eq]
  by_cases hf : formed x = false
  · rw [if_pos hf]
    exact check_bad x A c w d hf
  · rw [if_neg hf]
    refine check_good x A c S w d hd hl (fun y A c S w hd hy hl => ?_) hf _ rfl
    have := ih y hy A c S w (d + 1) (by omega) hl
    rwa [show ((d + 1 : Nat) : Int) = (d : Int) + 1 by omega] at this
end Go.Proofs.Ythlhlhihllgfiaa
