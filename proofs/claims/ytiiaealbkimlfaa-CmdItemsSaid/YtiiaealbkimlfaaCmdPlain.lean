/-
  Commands, plainly: what is wrong with one, whether it writes, whether two meet, and its item.
-/
import Derived.Test.YtiiaealbkimlfaaRunSmall
import Derived.Test.YtiiaealbkimlfaaCodPlain
namespace Go.Proofs.Ytiiaealbkimlfaa.Cmd
open Mem Run

/-- A command. -/
structure Cm where
  kd : Int
  cl : Int
  sq : Int
  ky : ByteArray
  vl : ByteArray
  rv : Int

theorem Cm.ext_iff' {a b : Cm} : a = b ↔ a.kd = b.kd ∧ a.cl = b.cl ∧ a.sq = b.sq ∧ a.ky = b.ky ∧ a.vl = b.vl ∧ a.rv = b.rv := by
  cases a; cases b; simp

/-- Whether two are the same. -/
def eqv (a b : Cm) : Bool := a.kd == b.kd && a.cl == b.cl && a.sq == b.sq && decide (bts a.ky = bts b.ky) && decide (bts a.vl = bts b.vl) && a.rv == b.rv
theorem eqv_iff {a b : Cm} : eqv a b = true ↔ a = b := by
  rw [Cm.ext_iff']
  simp only [eqv, Bool.and_eq_true, beq_iff_eq, decide_eq_true_eq, and_assoc]
  constructor
  · rintro ⟨h1, h2, h3, h4, h5, h6⟩
    exact ⟨h1, h2, h3, bts_inj h4, bts_inj h5, h6⟩
  · rintro ⟨h1, h2, h3, h4, h5, h6⟩
    exact ⟨h1, h2, h3, by rw [h4], by rw [h5], h6⟩
theorem eqv_refl (a : Cm) : eqv a a = true := eqv_iff.2 rfl

def zeroCm : Cm := ⟨0, 0, 0, ⟨#[]⟩, ⟨#[]⟩, 0⟩

/-- Without what its kind names. -/
def un (c : Cm) : Cm :=
  if c.kd = 4 then zeroCm
  else if c.kd = 2 then { zeroCm with rv := c.rv }
  else if c.kd = 1 ∨ c.kd = 3 ∨ c.kd = 5 then { zeroCm with vl := c.vl, rv := c.rv }
  else if c.kd = 0 ∨ c.kd = 6 then { c with kd := 0 }
  else c

def client (k : Int) : Bool := k != 0 && k != 6
def writes (k : Int) : Bool := k == 2 || k == 3 || k == 4

/-- It has no such kind, or what its kind does not name, or a zero where it may not be. -/
def unformed (c : Cm) : Bool :=
  decide (c.kd < 0) || decide (c.kd > 6) || (!client c.kd && (c.cl != 0 || c.sq != 0 || !decide (bts c.ky = []))) || (client c.kd && (c.cl == 0 || c.sq == 0)) ||
    (c.kd != 2 && c.kd != 4 && !decide (bts c.vl = [])) || (c.kd != 4 && c.rv != 0)
def out (v most : Int) : Bool := decide (v < 0) || decide (v > most)
def far (c : Cm) : Bool := out c.cl 1048576 || out c.sq 1099511627776 || out c.rv 1099511627776

/-- What is wrong with it: an error's number. -/
def chk (c : Cm) : Int :=
  if unformed c then 4
  else if far c then 6
  else if decide ((c.vl.size : Int) > 1024) then 12
  else if c.kd == 5 then begRet (beg (bts c.ky))
  else if client c.kd then begRet (key (bts c.ky))
  else 0

theorem nil_of_bts {s : ByteArray} (h : bts s = []) : s = ⟨#[]⟩ := bts_inj (h.trans rfl)
theorem bts_nil_iff {s : ByteArray} : bts s = [] ↔ s = ⟨#[]⟩ := ⟨nil_of_bts, fun h => by rw [h]; rfl⟩

theorem bz : bts ⟨#[]⟩ = [] := rfl

/-- The first test of Check. -/
theorem unformed_un (c : Cm) : unformed c = (!eqv (un c) zeroCm || (client c.kd && (c.cl == 0 || c.sq == 0))) := by
  obtain ⟨kd, cl, sq, ky, vl, rv⟩ := c
  simp only [unformed, un, client]
  by_cases h4 : kd = 4
  · subst h4
    simp [eqv_refl]
  by_cases h2 : kd = 2
  · subst h2
    simp [zeroCm, eqv, Bool.or_comm, bne]
  by_cases h1 : kd = 1 ∨ kd = 3 ∨ kd = 5
  · rw [if_neg h4, if_neg h2, if_pos h1]
    have e0 : (kd != 0) = true := by simp; omega
    have e6 : (kd != 6) = true := by simp; omega
    have e2 : (kd != 2) = true := by simpa using h2
    have e4 : (kd != 4) = true := by simpa using h4
    have e7 : decide (kd < 0) = false := by simp; omega
    have e8 : decide (kd > 6) = false := by simp; omega
    simp only [e0, e6, e2, e4, e7, e8, zeroCm, eqv, bz]
    by_cases p : bts vl = [] <;> by_cases q : rv = 0 <;> simp [p, q, bne, Bool.or_comm]
  by_cases h0 : kd = 0 ∨ kd = 6
  · rw [if_neg h4, if_neg h2, if_neg h1, if_pos h0]
    have e0 : (kd != 0 && kd != 6) = false := by rcases h0 with rfl | rfl <;> rfl
    have e2 : (kd != 2) = true := by simpa using h2
    have e4 : (kd != 4) = true := by simpa using h4
    have e7 : decide (kd < 0) = false := by simp; omega
    have e8 : decide (kd > 6) = false := by simp; omega
    simp only [e0, e2, e4, e7, e8, zeroCm, eqv, bz]
    by_cases a : cl = 0 <;> by_cases b : sq = 0 <;> by_cases c : bts ky = [] <;> by_cases p : bts vl = [] <;> by_cases q : rv = 0 <;> simp [a, b, c, p, q, bne]
  · rw [if_neg h4, if_neg h2, if_neg h1, if_neg h0]
    have hz : ¬ ((⟨kd, cl, sq, ky, vl, rv⟩ : Cm) = zeroCm) := fun h => h0 (.inl (by have := (Cm.ext_iff'.1 h).1; exact this))
    have hz' : eqv ⟨kd, cl, sq, ky, vl, rv⟩ zeroCm = false := by
      cases h : eqv ⟨kd, cl, sq, ky, vl, rv⟩ zeroCm with
      | false => rfl
      | true => exact absurd (eqv_iff.1 h) hz
    rw [hz']
    have : decide (kd < 0) = true ∨ decide (kd > 6) = true := by simp; omega
    rcases this with h | h <;> simp [h]

/-- The key of b is one that a asks for. -/
def covers (a b : Cm) : Bool := decide (bts a.ky = bts b.ky) || (a.kd == 5 && decide (bts a.ky <+: bts b.ky))
def meet (a b : Cm) : Bool :=
  if a.kd = 0 ∨ b.kd = 0 then false
  else if a.kd = 6 ∨ b.kd = 6 ∨ a.cl = b.cl then true
  else (writes a.kd || writes b.kd) && (covers a b || covers b a)

theorem meet_comm (a b : Cm) : meet a b = meet b a := by
  unfold meet
  have e1 : (a.kd = 0 ∨ b.kd = 0) ↔ (b.kd = 0 ∨ a.kd = 0) := Or.comm
  have e2 : (a.kd = 6 ∨ b.kd = 6 ∨ a.cl = b.cl) ↔ (b.kd = 6 ∨ a.kd = 6 ∨ b.cl = a.cl) := by
    constructor <;> (intro h; rcases h with h | h | h <;> simp [h])
  simp only [e1, e2, Bool.or_comm (writes a.kd), Bool.or_comm (covers a b)]

def great (c : Cm) : Bool := decide ((c.ky.size : Int) > 200) || decide ((c.vl.size : Int) > 2000)
end Go.Proofs.Ytiiaealbkimlfaa.Cmd
