/-
  The document's Same of any two items tells whether they are the same.
-/
import Derived.Test.YtccbkpdkmdnmfaaCodSame
import Derived.StillTailTactics
namespace Go.Proofs.Ytccbkpdkmdnmfaa
open Go.RowKit Mem Cod

def RSRel (w0 : World) (B : Nat) (l m : List It) (i : Value) (wr : World) : Prop :=
  ∃ k : Nat, k ≤ l.length ∧ i = .int .i64 k ∧ l.take k = m.take k ∧ Below B w0 wr

theorem take_eq_step {l m : List It} {k : Nat} (hl : k < l.length) (hm : k < m.length) (h : l.take k = m.take k) (e : l[k] = m[k]) : l.take (k + 1) = m.take (k + 1) := by
  rw [List.take_add_one, List.take_add_one, h, List.getElem?_eq_getElem hl, List.getElem?_eq_getElem hm, e]

set_option maxRecDepth 100000 in
set_option maxHeartbeats 4000000 in
theorem refsame_step (a b : It) (A1 A2 : Option Addr) (c1 c2 : Nat) (S : Nat → Prop) (w : World) (h1 : Lies w S a A1 c1) (h2 : Lies w S b A2 c2) (hS : ∀ b, S b → b < w.heap.size)
    (ih : ∀ (x y : It) (A1 A2 : Option Addr) (c1 c2 : Nat) (w : World), x ∈ a.kids → Lies w S x A1 c1 → Lies w S y A2 c2 → (∀ b, S b → b < w.heap.size) →
      Calls Try.prog 44 #[.agg #[.int .i64 x.kind, .int .u64 (x.num : Int), .string x.str, .slice A1 x.kids.length c1], .agg #[.int .i64 y.kind, .int .u64 (y.num : Int), .string y.str, .slice A2 y.kids.length c2]] w (Tells (same x y) w)) :
    Calls Try.prog 44 #[.agg #[.int .i64 a.kind, .int .u64 (a.num : Int), .string a.str, .slice A1 a.kids.length c1], .agg #[.int .i64 b.kind, .int .u64 (b.num : Int), .string b.str, .slice A2 b.kids.length c2]] w (Tells (same a b) w) := by
  have H1 := Lib.hid h1
  have H2 := Lib.hid h2
  have HS := Lib.hid hS
  have IH := Lib.hid ih
  obtain ⟨_, _, _, _, x5, x6⟩ := h1.bounds
  obtain ⟨_, _, _, _, y5, y6⟩ := h2.bounds
  clear h1 h2 hS ih
  have HT := Lib.hid (same_iff a b)
  generalize same a b = t at HT ⊢
  have fin : a ≠ b → ∀ w', Below w.heap.size w w' → Tells t w (.returned (.bool false)) w' := by
    intro h w' hb
    have : t = false := by
      rcases hb : t with _ | _
      · rfl
      · exact absurd (HT.out.1 hb) h
    rw [this]
    exact ⟨rfl, hb⟩
  have FIN := Lib.hid fin
  clear fin
  by_cases e1 : a.kind = b.kind
  · have f1 : (a.kind != b.kind) = false := by rw [bne_eq_false_iff_eq]; exact e1
    have E1 := Lib.hid e1
    clear e1
    by_cases e2 : a.num = b.num
    · have f2 : ((a.num : Int) != (b.num : Int)) = false := by rw [bne_eq_false_iff_eq]; omega
      have E2 := Lib.hid e2
      clear e2
      by_cases e3 : a.str = b.str
      · have f3 : a.str.toList = b.str.toList := by rw [e3]
        have f3' : (a.str.toList == b.str.toList) = true := by simp [f3]
        have E3 := Lib.hid e3
        clear e3
        by_cases e4 : a.kids.length = b.kids.length
        · have f4 : ((a.kids.length : Int) != (b.kids.length : Int)) = false := by rw [bne_eq_false_iff_eq]; omega
          have E4 := Lib.hid e4
          clear e4
          go_enter Try.func44, Try.ntmps44
          go_wp2_with fail
          go_loopw [5] (RSRel ((w.alloc (.cells #[.int .i64 a.kind, .int .u64 (a.num : Int), .string a.str, .slice A1 a.kids.length c1] 37)).alloc (.cells #[.int .i64 b.kind, .int .u64 (b.num : Int), .string b.str, .slice A2 b.kids.length c2] 37)) (w.heap.size + 2) a.kids b.kids) (fun i _ => a.kids.length - (intOf i).toNat)
          case atStart => exact ⟨0, Nat.zero_le _, rfl, rfl, Below.refl _ _⟩
          case round =>
            obtain ⟨k, hk, rfl, htk, hb⟩ := hrel
            have HTK := Lib.hid htk
            have hq1 := ((Blk.new w 37 #[.int .i64 a.kind, .int .u64 (a.num : Int), .string a.str, .slice A1 a.kids.length c1]).alloc (.cells #[.int .i64 b.kind, .int .u64 (b.num : Int), .string b.str, .slice A2 b.kids.length c2] 37)).below hb (by omega)
            have hq2 := (Blk.new (w.alloc (.cells #[.int .i64 a.kind, .int .u64 (a.num : Int), .string a.str, .slice A1 a.kids.length c1] 37)) 37 #[.int .i64 b.kind, .int .u64 (b.num : Int), .string b.str, .slice A2 b.kids.length c2]).below hb (by rw [size_alloc]; omega)
            rw [size_alloc] at hq2
            obtain ⟨_, _, _, hx3⟩ := blk4 hq1
            obtain ⟨_, _, _, hy3⟩ := blk4 hq2
            have hbw : Below w.heap.size w wr := (bel_alloc (bel_alloc (Below.refl _ _) _) _).trans (hb.mono (by omega))
            have HB := Lib.hid hb
            clear htk hq1 hq2 hb
            by_cases hlt : k < a.kids.length
            · have hltm : k < b.kids.length := by have := E4.out; omega
              obtain ⟨ad1, X1, d1, rfl, _, hl1, hsp1, hL1⟩ := H1.out.row.2.2 k a.kids[k] (List.getElem?_eq_getElem hlt)
              obtain ⟨ad2, X2, d2, rfl, _, hl2, hsp2, hL2⟩ := H2.out.row.2.2 k b.kids[k] (List.getElem?_eq_getElem hltm)
              obtain ⟨s0, s1, s2, s3⟩ := hsp1.keep (w' := wr) fun p hp => hbw.cell (by rw [hp, add_block]; exact hl1)
              obtain ⟨r0, r1, r2, r3⟩ := hsp2.keep (w' := wr) fun p hp => hbw.cell (by rw [hp, add_block]; exact hl2)
              generalize hea1 : ad1.add (k * 4) = ea1 at s0 s1 s2 s3
              generalize hea2 : ad2.add (k * 4) = ea2 at r0 r1 r2 r3
              have HL1 := Lib.hid (hL1.below hbw HS.out)
              have HL2 := Lib.hid (hL2.below hbw HS.out)
              clear hsp1 hsp2 hL1 hL2
              go_wp2_with fail
              go_still_tail 10, (by kernel_rfl)
              change wpList _ _ _ _ _ wr.drew
              go_wp2_with fail
              refine (IH.out a.kids[k] b.kids[k] X1 X2 d1 d2 wr.drew (List.getElem_mem hlt) (HL1.out.keep (w' := wr.drew) _ (fun _ h _ => h) (Nat.le_refl _) fun _ _ _ => rfl) (HL2.out.keep (w' := wr.drew) _ (fun _ h _ => h) (Nat.le_refl _) fun _ _ _ => rfl) (fun b hb => by have := HS.out b hb; have := hbw.size; show b < wr.heap.size; omega)).mono ?_
              rintro e w1 ⟨rfl, hb1⟩
              have hb2 : Below (w.heap.size + 2) ((w.alloc (.cells #[.int .i64 a.kind, .int .u64 (a.num : Int), .string a.str, .slice (some ad1) a.kids.length c1] 37)).alloc (.cells #[.int .i64 b.kind, .int .u64 (b.num : Int), .string b.str, .slice (some ad2) b.kids.length c2] 37)) w1 :=
                HB.out.drew.trans (hb1.mono (by have := HB.out.size; simp only [size_alloc] at this; show w.heap.size + 2 ≤ wr.heap.size; omega))
              have hb3 : Below w.heap.size w w1 := (bel_alloc (bel_alloc (Below.refl _ _) _) _).trans (hb2.mono (by omega))
              have HK := Lib.hid (same_iff a.kids[k] b.kids[k])
              rcases hst : same a.kids[k] b.kids[k] with _ | _
              · have HST := Lib.hid hst
                clear hst
                go_wp2_with fail
                go_ret
                refine FIN.out (fun h => ?_) _ hb3
                have : a.kids[k] = b.kids[k] := by simp [h]
                have := HK.out.2 this
                rw [HST.out] at this
                cases this
              · have HST := Lib.hid hst
                clear hst
                go_wp2_with fail
                exact ⟨⟨k + 1, by omega, by simp, take_eq_step hlt hltm HTK.out (HK.out.1 HST.out), hb2⟩, by simp [intOf]; omega⟩
            · obtain rfl : k = a.kids.length := by omega
              go_wp2_with fail
              go_ret
              have htk := HTK.out
              rw [List.take_length, E4.out, List.take_length] at htk
              have ht : t = true := HT.out.2 ((it_eq_iff a b).2 ⟨E1.out, E2.out, E3.out, htk⟩)
              rw [ht]
              exact ⟨rfl, hbw⟩
        · have f4 : ((a.kids.length : Int) != (b.kids.length : Int)) = true := by rw [bne_iff_ne]; omega
          have E4 := Lib.hid e4
          clear e4
          go_enter Try.func44, Try.ntmps44
          go_wp2_with fail
          go_ret
          exact FIN.out (fun h => E4.out (by rw [h])) _ (bel_alloc (bel_alloc (Below.refl _ _) _) _)
      · have f3 : ¬ a.str.toList = b.str.toList := fun h => e3 ((toList_inj _ _).1 h)
        have f3' : (a.str.toList == b.str.toList) = false := by simpa using f3
        have E3 := Lib.hid e3
        clear e3
        go_enter Try.func44, Try.ntmps44
        go_wp2_with fail
        go_ret
        exact FIN.out (fun h => E3.out (by rw [h])) _ (bel_alloc (bel_alloc (Below.refl _ _) _) _)
    · have f2 : ((a.num : Int) != (b.num : Int)) = true := by rw [bne_iff_ne]; omega
      have E2 := Lib.hid e2
      clear e2
      go_enter Try.func44, Try.ntmps44
      go_wp2_with fail
      go_ret
      exact FIN.out (fun h => E2.out (by rw [h])) _ (bel_alloc (bel_alloc (Below.refl _ _) _) _)
  · have f1 : (a.kind != b.kind) = true := by rw [bne_iff_ne]; exact e1
    have E1 := Lib.hid e1
    clear e1
    go_enter Try.func44, Try.ntmps44
    go_wp2_with fail
    go_ret
    exact FIN.out (fun h => E1.out (by rw [h])) _ (bel_alloc (bel_alloc (Below.refl _ _) _) _)

theorem refsame_item (a : It) : ∀ (b : It) (A1 A2 : Option Addr) (c1 c2 : Nat) (S : Nat → Prop) (w : World), Lies w S a A1 c1 → Lies w S b A2 c2 → (∀ b, S b → b < w.heap.size) →
    Calls Try.prog 44 #[.agg #[.int .i64 a.kind, .int .u64 (a.num : Int), .string a.str, .slice A1 a.kids.length c1], .agg #[.int .i64 b.kind, .int .u64 (b.num : Int), .string b.str, .slice A2 b.kids.length c2]] w (Tells (same a b) w) := by
  induction a using It.ind with
  | h a ih =>
  intro b A1 A2 c1 c2 S w h1 h2 hS
  exact refsame_step a b A1 A2 c1 c2 S w h1 h2 hS fun x y A1 A2 c1 c2 w hx l1 l2 hS => ih x hx y A1 A2 c1 c2 S w l1 l2 hS
end Go.Proofs.Ytccbkpdkmdnmfaa
