/-
  Commands as items, of no program: the item of a command, the command that an item's parts say, when an item is a right command's.
-/
import Derived.Test.YtiiaealbkimlfaaCmdPlain
namespace Go.Proofs.Ytiiaealbkimlfaa.Cmd
open Cod Mem Run

def numIt (v : Int) : It := .mk 0 v.toNat ByteArray.empty []
def textIt (s : ByteArray) : It := .mk 1 0 s []
def parts (c : Cm) : List It := [numIt c.kd, numIt c.cl, numIt c.sq, textIt c.ky, textIt c.vl, numIt c.rv]
def cmIt (c : Cm) : It := .mk 2 0 ByteArray.empty (parts c)
def zeroIt : It := .mk 0 0 ByteArray.empty []
def itemOf (c : Cm) : It := if Cmd.chk c = 0 then cmIt c else zeroIt

theorem bytes_le (l : List Nat) : l.length ≤ 4 * (pieces l).length := by
  have h : ∀ ps : List Pc, (ps.flatMap Pc.bytes).length ≤ 4 * ps.length := by
    intro ps
    induction ps with
    | nil => simp
    | cons p ps ih =>
      have := (bytes_len p).2
      simp only [List.flatMap_cons, List.length_append, List.length_cons]
      omega
  have := h (pieces l)
  rwa [join_pieces] at this

theorem beg_len {l : List Nat} (h : beg l = true) : l.length ≤ 128 := by
  have h1 := bytes_le l
  simp only [beg, Bool.and_eq_true, decide_eq_true_eq] at h
  omega
theorem key_beg {l : List Nat} (h : key l = true) : beg l = true := by
  simp only [key, Bool.and_eq_true] at h
  exact h.2

/-- What a right command is. -/
theorem chk_right {c : Cm} (h : Cmd.chk c = 0) : (0 ≤ c.kd ∧ c.kd ≤ 6) ∧ (0 ≤ c.cl ∧ c.cl ≤ 1048576) ∧ (0 ≤ c.sq ∧ c.sq ≤ 1099511627776) ∧ (0 ≤ c.rv ∧ c.rv ≤ 1099511627776) ∧ c.vl.size ≤ 1024 ∧ c.ky.size ≤ 128 := by
  unfold Cmd.chk at h
  split at h
  · cases h
  rename_i h1
  split at h
  · cases h
  rename_i h2
  split at h
  · cases h
  rename_i h3
  have e1 : 0 ≤ c.kd ∧ c.kd ≤ 6 := by
    simp only [unformed, Bool.or_eq_true, not_or, decide_eq_true_eq] at h1
    omega
  simp only [far, out, Bool.or_eq_true, not_or, decide_eq_true_eq] at h2
  simp only [decide_eq_true_eq] at h3
  refine ⟨e1, by omega, by omega, by omega, by omega, ?_⟩
  rw [← Mem.length_bts]
  by_cases hk : client c.kd = true
  · split at h
    · rename_i h5
      refine beg_len ?_
      cases hb : beg (Mem.bts c.ky) with
      | true => rfl
      | false => rw [hb] at h; cases h
    · refine beg_len (key_beg ?_)
      cases hb : key (Mem.bts c.ky) with
      | true => rfl
      | false => rw [hb] at h; cases h
  · have hk' : client c.kd = false := by simpa using hk
    simp only [unformed, Bool.or_eq_true, not_or, hk', Bool.not_false, Bool.true_and, decide_eq_true_eq, Bool.not_eq_true', decide_eq_false_iff_not, Classical.not_not] at h1
    have hn : Mem.bts c.ky = [] := h1.1.1.1.2.2
    rw [hn]
    exact Nat.zero_le _

theorem wts_parts (c : Cm) : wts (parts c) = 6 + c.ky.size + c.vl.size := by
  simp [parts, numIt, textIt, wts, wt]
  omega
theorem wt_item (c : Cm) : wt (itemOf c) ≤ 2000 := by
  unfold itemOf
  split
  · rename_i h
    obtain ⟨_, _, _, _, h5, h6⟩ := chk_right h
    show 1 + ByteArray.empty.size + wts (parts c) ≤ _
    rw [wts_parts]
    simp
    omega
  · decide

/-- A number as an int. -/
def w64 (n : Nat) : Int := IntKind.i64.wrap (n : Int)
theorem w64_small {n : Nat} (h : n ≤ 9223372036854775807) : w64 n = n := by
  unfold w64
  simp [IntKind.wrap, IntKind.bits, IntKind.signed]
  omega
def kid (x : It) (i : Nat) : It := x.kids.getD i zeroIt
/-- The command that an item's parts say. -/
def cmOf (x : It) : Cm := ⟨w64 (kid x 0).num, w64 (kid x 1).num, w64 (kid x 2).num, (kid x 3).str, (kid x 4).str, w64 (kid x 5).num⟩
def takeOf (x : It) : Option Cm := if x.kids.length = 6 ∧ same (itemOf (cmOf x)) x = true then some (cmOf x) else none

theorem cm_back {c : Cm} (h : Cmd.chk c = 0) : cmOf (cmIt c) = c := by
  obtain ⟨h1, h2, h3, h4, _, _⟩ := chk_right h
  obtain ⟨kd, cl, sq, ky, vl, rv⟩ := c
  simp only at h1 h2 h3 h4
  have e : ∀ v : Int, 0 ≤ v → v ≤ 1099511627776 → w64 v.toNat = v := fun v a b => by rw [w64_small (by omega)]; omega
  show (⟨w64 kd.toNat, w64 cl.toNat, w64 sq.toNat, ky, vl, w64 rv.toNat⟩ : Cm) = _
  rw [e kd (by omega) (by omega), e cl (by omega) (by omega), e sq (by omega) (by omega), e rv (by omega) (by omega)]
theorem take_cm {c : Cm} (h : Cmd.chk c = 0) : takeOf (cmIt c) = some c := by
  rw [takeOf, cm_back h, if_pos ⟨rfl, (same_iff _ _).2 (by rw [itemOf, if_pos h])⟩]

theorem zero_ne {x : It} (h : x.kids.length = 6) : zeroIt ≠ x := by
  intro e
  rw [← e] at h
  cases h

/-- .. as the document takes it: numbers above 2^62 as 2^62. -/
def cap (n : Nat) : Int := if n > 4611686018427387904 then 4611686018427387904 else w64 n
theorem cap_in (n : Nat) : -9223372036854775808 ≤ cap n ∧ cap n ≤ 9223372036854775807 := by
  unfold cap
  split
  · omega
  · rw [w64_small (by omega)]
    omega
def capOf (x : It) : Cm := ⟨cap (kid x 0).num, cap (kid x 1).num, cap (kid x 2).num, (kid x 3).str, (kid x 4).str, cap (kid x 5).num⟩

theorem cap_eq {n : Nat} (h : cap n ≤ 1099511627776) : cap n = w64 n ∧ w64 n = n := by
  unfold cap at *
  split at h
  · omega
  · rename_i h1
    rw [if_neg h1]
    exact ⟨rfl, w64_small (by omega)⟩

theorem take_cap (x : It) (hx : x.kids.length = 6) : takeOf x = if Cmd.chk (capOf x) = 0 ∧ same x (cmIt (capOf x)) = true then some (capOf x) else none := by
  by_cases h : Cmd.chk (capOf x) = 0
  · obtain ⟨h1, h2, h3, h4, _, _⟩ := chk_right h
    have e : capOf x = cmOf x := by
      unfold capOf cmOf
      simp only [capOf] at h1 h2 h3 h4
      rw [(cap_eq (n := (kid x 0).num) (by omega)).1, (cap_eq (n := (kid x 1).num) (by omega)).1, (cap_eq (n := (kid x 2).num) (by omega)).1, (cap_eq (n := (kid x 5).num) (by omega)).1]
    rw [e] at h ⊢
    rw [takeOf, itemOf, if_pos h]
    have es : same (cmIt (cmOf x)) x = same x (cmIt (cmOf x)) := by
      by_cases q : cmIt (cmOf x) = x
      · rw [(same_iff _ _).2 q, (same_iff _ _).2 q.symm]
      · rw [Bool.eq_false_iff.2 fun h' => q ((same_iff _ _).1 h'), Bool.eq_false_iff.2 fun h' => q ((same_iff _ _).1 h').symm]
    simp only [hx, h, true_and, es]
  · rw [if_neg fun h' => h h'.1, takeOf, if_neg]
    rintro ⟨_, h2⟩
    replace h2 := (same_iff _ _).1 h2
    unfold itemOf at h2
    split at h2
    · rename_i h3
      apply h
      obtain ⟨b1, b2, b3, b4, _, _⟩ := chk_right h3
      have hk : x.kids = parts (cmOf x) := congrArg It.kids h2.symm
      have e : ∀ {n : Nat} {v : Int}, n = v.toNat → 0 ≤ v → v ≤ 1099511627776 → cap n = w64 n := by
        intro n v hn h0 h1
        rw [cap, if_neg (by omega)]
      have k0 : (kid x 0).num = (cmOf x).kd.toNat := by rw [kid, hk]; rfl
      have k1 : (kid x 1).num = (cmOf x).cl.toNat := by rw [kid, hk]; rfl
      have k2 : (kid x 2).num = (cmOf x).sq.toNat := by rw [kid, hk]; rfl
      have k5 : (kid x 5).num = (cmOf x).rv.toNat := by rw [kid, hk]; rfl
      have ec : capOf x = cmOf x := by
        unfold capOf
        rw [e k0 (by omega) (by omega), e k1 (by omega) (by omega), e k2 (by omega) (by omega), e k5 (by omega) (by omega)]
        rfl
      rw [ec]
      exact h3
    · exact zero_ne hx h2
end Go.Proofs.Ytiiaealbkimlfaa.Cmd
