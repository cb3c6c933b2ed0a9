/-
  Texts of earlier layers, as one.
-/
import Derived.Test.YtpalmnjapiijaaaCompRefComps
/- What the laws ask of the program's functions; the document's example, by it. -/
namespace Go.Proofs.Ytpalmnjapiijaaa.Gr
open Go.RowKit Mem Dsk

/-- The program's Comps. -/
def HasComps : Prop := ∀ (A : Option Addr) (n c : Nat) (e : Graph) (w : World), Mat w A n c e → n ≤ 2000 → (∀ l ∈ e, l.length ≤ 17592186044416) → Calls Try.prog 10 #[.slice A n c] w (NewMat w (compsZ e))
/-- The program's Leads. -/
def HasLeads : Prop := ∀ (A : Option Addr) (n c : Nat) (e : Graph) (v : Int) (w : World), Mat w A n c e → n ≤ 2000 → (∀ l ∈ e, l.length ≤ 17592186044416) → (Lit.int .i64 v).wf = true → Calls Try.prog 13 #[.slice A n c, .int .i64 v] w (NewInts w (leadsZ e v))
theorem rw_lits {α : Type} (L : Lay α) (w : World) (xs : List α) (t : TypeId) (h : xs.length ≤ maxLen) : Rw L (w.alloc (.cells (L.flat xs).toArray t)) (some ⟨w.heap.size, 0, none⟩) xs.length xs.length xs :=
  Rw.own (L := L) (base := 0) (e := t) ⟨length_flat L xs, .inr ⟨w.heap.size, xs.length, (L.flat xs).toArray, rfl, Nat.zero_le _, heap_alloc_new _ _, Nat.le_refl _, h, by simp [length_flat], by simp [← length_flat L xs]⟩⟩
theorem comps_ex : compsZ [[1], [0], [0]] = [[0, 1], [2]] := by decide
set_option maxRecDepth 20000 in
set_option maxHeartbeats 8000000 in
theorem comp_awake (hC : HasComps) (w : World) : Calls Try.prog 9 #[] w (Tells true w) := by
  obtain ⟨W, hW⟩ : ∃ v, (((w.alloc (.cells #[.int .i64 1] 3)).alloc (.cells #[.int .i64 0] 3)).alloc (.cells #[.int .i64 0] 3)).alloc (.cells #[.slice (some ⟨w.heap.size, 0, none⟩) 1 1, .slice (some ⟨w.heap.size + 1, 0, none⟩) 1 1, .slice (some ⟨w.heap.size + 2, 0, none⟩) 1 1] 27) = v := ⟨_, rfl⟩
  have hb : Below w.heap.size w W := by rw [← hW]; exact bel_alloc (bel_alloc (bel_alloc (bel_alloc (Below.refl _ _) _) _) _) _
  have hm : Mat W (some ⟨w.heap.size + 3, 0, none⟩) 3 3 [[1], [0], [0]] := by
    rw [← hW]
    have e0 : Rw LN (w.alloc (.cells #[.int .i64 1] 3)) (some ⟨w.heap.size, 0, none⟩) 1 1 [1] := Rw.lit (L := LN) w 1 3
    have e1 : Rw LN ((w.alloc (.cells #[.int .i64 1] 3)).alloc (.cells #[.int .i64 0] 3)) (some ⟨w.heap.size + 1, 0, none⟩) 1 1 [0] := by
      have := Rw.lit (L := LN) (w.alloc (.cells #[.int .i64 1] 3)) 0 3
      rw [size_alloc] at this
      exact this
    have e2 : Rw LN (((w.alloc (.cells #[.int .i64 1] 3)).alloc (.cells #[.int .i64 0] 3)).alloc (.cells #[.int .i64 0] 3)) (some ⟨w.heap.size + 2, 0, none⟩) 1 1 [0] := by
      have := Rw.lit (L := LN) ((w.alloc (.cells #[.int .i64 1] 3)).alloc (.cells #[.int .i64 0] 3)) 0 3
      rw [size_alloc, size_alloc] at this
      exact this
    have e3 := rw_lits LS (((w.alloc (.cells #[.int .i64 1] 3)).alloc (.cells #[.int .i64 0] 3)).alloc (.cells #[.int .i64 0] 3)) [((some ⟨w.heap.size, 0, none⟩ : Option Addr), 1, 1), (some ⟨w.heap.size + 1, 0, none⟩, 1, 1), (some ⟨w.heap.size + 2, 0, none⟩, 1, 1)] 27 (by simp [maxLen])
    rw [size_alloc, size_alloc, size_alloc] at e3
    refine ⟨_, e3, rfl, fun j h l hj hl => ?_⟩
    match j, hj, hl with
    | 0, hj, hl =>
      simp at hj hl
      subst hj hl
      exact ((e0.alloc _).alloc _).alloc _
    | 1, hj, hl =>
      simp at hj hl
      subst hj hl
      exact (e1.alloc _).alloc _
    | 2, hj, hl =>
      simp at hj hl
      subst hj hl
      exact e2.alloc _
    | j + 3, hj, hl => simp at hl
  have hc := hC _ 3 3 [[1], [0], [0]] W hm (by omega) (fun l hl => by simp at hl; rcases hl with rfl | rfl | rfl <;> simp)
  rw [comps_ex] at hc
  have HC := Lib.hid (hc.mono (fun e v (h : NewMat W [[0, 1], [2]] e v) => show ∃ A c, e = .returned (.slice A 2 c) ∧ Mat v A 2 c [[0, 1], [2]] ∧ Below W.heap.size W v from h))
  have HW := Lib.hid hW
  have HB := Lib.hid hb
  clear hm hc hb hW
  go_enter Try.func9, Try.ntmps9
  go_wp2_with fail
  rw [HW.out]
  (with_reducible refine HC.out.mono ?_)
  rintro r u1 ⟨A1, c1, rfl, hm1, hb1⟩
  obtain ⟨g, o, R, rn, rc, l, rfl, hg, hl, o0, hr0⟩ := hm1.at_ (k := 0) (by omega)
  obtain ⟨g', o', R', rn', rc', l', e, hg', hl', o1, hr1⟩ := hm1.at_ (k := 1) (by omega)
  cases e
  simp at hl hl'
  subst hl hl'
  simp only [Nat.add_zero] at o0
  have hs0 := sameints_any [0, 1] [0, 1] R (some ⟨u1.heap.size, 0, none⟩) rn rc 2 2 (u1.alloc (.cells #[.int .i64 0, .int .i64 1] 3)) (hr0.alloc _) (rw_lits LN u1 [0, 1] 3 (by simp [maxLen]))
  rw [decide_eq_true rfl] at hs0
  have HS0 := Lib.hid hs0
  have HX := Lib.hid (And.intro hr1 (And.intro hb1 (And.intro hg o1)))
  clear hs0 hr0 hr1 hb1 hm1 hg hg' HC o1
  go_wp2_with fail
  (with_reducible refine HS0.out.mono ?_)
  rintro r u2 ⟨rfl, hb2⟩
  have hbu : Below u1.heap.size u1 u2 := (bel_alloc (Below.refl _ _) _).trans (hb2.mono (by simp))
  have o1 : u2.cell? ⟨g, o + 1, none⟩ = some (.slice R' rn' rc') := (hbu.cell HX.out.2.2.1).trans HX.out.2.2.2
  have hs1 := sameints_any [2] [2] R' (some ⟨u2.heap.size, 0, none⟩) rn' rc' 1 1 (u2.alloc (.cells #[.int .i64 2] 3)) ((HX.out.1.below hbu).alloc _) (rw_lits LN u2 [2] 3 (by simp [maxLen]))
  rw [decide_eq_true rfl] at hs1
  have HS1 := Lib.hid hs1
  have HBU := Lib.hid hbu
  clear hs1 hb2 hbu o0 HS0
  go_wp2_with fail
  (with_reducible refine HS1.out.mono ?_)
  rintro r u3 ⟨rfl, hb3⟩
  have HB3 := Lib.hid ((bel_alloc (Below.refl u2.heap.size u2) _).trans (hb3.mono (by simp)))
  clear hb3 o1 HS1
  go_wp2_with fail
  go_ret
  exact ⟨rfl, bel_trans (bel_trans (bel_trans HB.out HX.out.2.1) HBU.out) HB3.out⟩
end Go.Proofs.Ytpalmnjapiijaaa.Gr
