/-
  Texts of earlier layers, as one.
-/
import Derived.Test.YtldlcddmbgcfdaaRBase
/- Timers, of no program: their order, the document's lists of them in that order (one more, one out, how many are due). -/
namespace Go.Proofs.Ytldlcddmbgcfdaa.Wh
open Go.RowKit Mem

/-- A timer: an id and a tick. -/
structure Tm where
  i : Int × Int
  a : Int
def noTm : Tm := ⟨(0, 0), 0⟩
def ilt (x y : Int × Int) : Bool := decide (x.2 < y.2) || (decide (x.2 = y.2) && decide (x.1 < y.1))
def tlt (x y : Tm) : Bool := decide (x.a < y.a) || (decide (x.a = y.a) && ilt x.i y.i)
theorem tlt_iff (x y : Tm) : tlt x y = true ↔ (x.a < y.a ∨ x.a = y.a ∧ (x.i.2 < y.i.2 ∨ x.i.2 = y.i.2 ∧ x.i.1 < y.i.1)) := by simp [tlt, ilt]
theorem tlt_no (x y : Tm) : tlt x y = false ↔ ¬ (x.a < y.a ∨ x.a = y.a ∧ (x.i.2 < y.i.2 ∨ x.i.2 = y.i.2 ∧ x.i.1 < y.i.1)) := by
  rw [← tlt_iff]
  cases tlt x y <;> simp
theorem tlt_irr (x : Tm) : tlt x x = false := by rw [tlt_no]; omega
theorem tlt_trans {x y z : Tm} (h : tlt x y = true) (k : tlt y z = true) : tlt x z = true := by
  rw [tlt_iff] at *
  omega
/-- x isn't behind y. -/
def le (x y : Tm) : Prop := tlt y x = false
theorem le_refl (x : Tm) : le x x := tlt_irr x
theorem le_trans {x y z : Tm} (h : le x y) (k : le y z) : le x z := by
  unfold le at *
  rw [tlt_no] at *
  omega
theorem le_of {x y : Tm} (h : tlt x y = true) : le x y := by
  unfold le
  rw [tlt_no]
  rw [tlt_iff] at h
  omega
theorem tlt_tri {x y : Tm} (hne : x.i ≠ y.i) (h : tlt x y = false) : tlt y x = true := by
  rw [tlt_iff]
  rw [tlt_no] at h
  by_cases e : x.i.1 = y.i.1
  · by_cases e2 : x.i.2 = y.i.2
    · exact absurd (Prod.ext e e2) hne
    · omega
  · omega
/-- Timers in their order. -/
def Srt (l : List Tm) : Prop := l.Pairwise fun x y => tlt x y = true
/-- No two of one id. -/
def Uq (l : List Tm) : Prop := l.Pairwise fun x y => x.i ≠ y.i
theorem Uq.perm {l m : List Tm} (h : Uq l) (p : l.Perm m) : Uq m := List.Pairwise.perm (R := fun x y : Tm => x.i ≠ y.i) h p fun hne e => hne e.symm
def outR (l : List Tm) (i : Int × Int) : List Tm := l.filter fun t => decide (t.i ≠ i)
def insR (t : Tm) : List Tm → List Tm
  | [] => [t]
  | r :: l => if tlt t r = true then t :: r :: l else r :: insR t l
def setR (l : List Tm) (t : Tm) : List Tm := insR t (outR l t.i)
def dueR (l : List Tm) (now : Int) : Nat := (l.takeWhile fun r => decide (r.a ≤ now)).length
/-- Where an id's timer is. -/
def posR (l : List Tm) (i : Int × Int) : Option Nat := l.findIdx? fun t => decide (t.i = i)
theorem mem_outR {l : List Tm} {i : Int × Int} {x : Tm} : x ∈ outR l i ↔ x ∈ l ∧ x.i ≠ i := by simp [outR]
theorem Srt.out {l : List Tm} (h : Srt l) (i : Int × Int) : Srt (outR l i) := List.Pairwise.filter _ h
theorem Uq.out {l : List Tm} (h : Uq l) (i : Int × Int) : Uq (outR l i) := List.Pairwise.filter _ h
theorem ins_perm (t : Tm) : ∀ l : List Tm, (insR t l).Perm (t :: l)
  | [] => List.Perm.refl _
  | r :: l => by
    unfold insR
    split
    · exact List.Perm.refl _
    · exact ((ins_perm t l).cons r).trans (List.Perm.swap t r l)
theorem mem_ins {t x : Tm} {l : List Tm} : x ∈ insR t l ↔ x = t ∨ x ∈ l := by rw [(ins_perm t l).mem_iff, List.mem_cons]
theorem Srt.ins {t : Tm} : ∀ {l : List Tm}, Srt l → (∀ x ∈ l, x.i ≠ t.i) → Srt (insR t l)
  | [], _, _ => List.pairwise_singleton _ _
  | r :: l, h, hn => by
    unfold insR
    have h1 := List.pairwise_cons.1 h
    split
    · rename_i e
      refine List.pairwise_cons.2 ⟨fun y hy => ?_, h⟩
      rcases List.mem_cons.1 hy with rfl | hy
      · exact e
      · exact tlt_trans e (h1.1 y hy)
    · rename_i e
      refine List.pairwise_cons.2 ⟨fun y hy => ?_, Srt.ins h1.2 fun x hx => hn x (List.mem_cons_of_mem _ hx)⟩
      rcases mem_ins.1 hy with rfl | hy
      · exact tlt_tri (fun e' => hn r (List.mem_cons_self ..) e'.symm) (by simpa using e)
      · exact h1.1 y hy
theorem Srt.set {l : List Tm} (h : Srt l) (t : Tm) : Srt (setR l t) := (h.out t.i).ins fun _ hx => (mem_outR.1 hx).2
theorem set_perm (l : List Tm) (t : Tm) : (setR l t).Perm (t :: outR l t.i) := ins_perm t _
theorem Uq.set {l : List Tm} (h : Uq l) (t : Tm) : Uq (setR l t) := Uq.perm (List.pairwise_cons.2 ⟨fun _ hy => fun e => (mem_outR.1 hy).2 e.symm, h.out t.i⟩) (set_perm l t).symm
theorem Uq.eq {l : List Tm} (h : Uq l) {x y : Tm} (hx : x ∈ l) (hy : y ∈ l) (e : x.i = y.i) : x = y := by
  induction l with
  | nil => cases hx
  | cons r l ih =>
    have h1 := List.pairwise_cons.1 h
    rcases List.mem_cons.1 hx with ex | hx
    · rcases List.mem_cons.1 hy with ey | hy
      · rw [ex, ey]
      · exact absurd (ex ▸ e) (h1.1 y hy)
    · rcases List.mem_cons.1 hy with ey | hy
      · exact absurd (ey ▸ e.symm) (h1.1 x hx)
      · exact ih h1.2 hx hy
theorem Uq.at_ {l : List Tm} (h : Uq l) {j k : Nat} {x y : Tm} (hx : l[j]? = some x) (hy : l[k]? = some y) (e : x.i = y.i) : j = k := by
  have hl := (List.getElem?_eq_some_iff.1 hx)
  have hk := (List.getElem?_eq_some_iff.1 hy)
  obtain ⟨h1, rfl⟩ := hl
  obtain ⟨h2, rfl⟩ := hk
  have hp := List.pairwise_iff_getElem.1 h
  rcases Nat.lt_trichotomy j k with hlt | rfl | hgt
  · exact absurd e (hp j k h1 h2 hlt)
  · rfl
  · exact absurd e.symm (hp k j h2 h1 hgt)
theorem posR_some {l : List Tm} {i : Int × Int} {k : Nat} (h : posR l i = some k) : ∃ x, l[k]? = some x ∧ x.i = i := by
  obtain ⟨hk, h1, _⟩ := List.findIdx?_eq_some_iff_getElem.1 h
  exact ⟨l[k], List.getElem?_eq_getElem hk, by simpa using h1⟩
theorem posR_none {l : List Tm} {i : Int × Int} (h : posR l i = none) : ∀ x ∈ l, x.i ≠ i := by
  intro x hx
  have := List.findIdx?_eq_none_iff.1 h x hx
  simpa using this
theorem Uq.out0 {r : Tm} {l : List Tm} (u : Uq (r :: l)) : outR (r :: l) r.i = l := by
  unfold outR
  rw [List.filter_cons, if_neg (by simp)]
  refine List.filter_eq_self.2 fun x hx => ?_
  have := (List.pairwise_cons.1 u).1 x hx
  simpa using fun e => this e.symm
theorem out_perm {l m : List Tm} (p : l.Perm m) (i : Int × Int) : (outR l i).Perm (outR m i) := p.filter _
theorem out_none {l : List Tm} {i : Int × Int} (h : ∀ x ∈ l, x.i ≠ i) : outR l i = l := List.filter_eq_self.2 fun x hx => by simpa using h x hx
/-- Of a timer that is taken out, whatever list has the others. -/
theorem out_of {l m : List Tm} {t : Tm} (u : Uq l) (p : l.Perm (t :: m)) : m.Perm (outR l t.i) := by
  have u' := u.perm p
  have h1 := List.pairwise_cons.1 u'
  have h2 := out_perm p t.i
  have h3 : outR (t :: m) t.i = m := by
    unfold outR
    rw [List.filter_cons, if_neg (by simp)]
    refine List.filter_eq_self.2 fun x hx => ?_
    simpa using fun e => h1.1 x hx e.symm
  rw [h3] at h2
  exact h2.symm
end Go.Proofs.Ytldlcddmbgcfdaa.Wh
