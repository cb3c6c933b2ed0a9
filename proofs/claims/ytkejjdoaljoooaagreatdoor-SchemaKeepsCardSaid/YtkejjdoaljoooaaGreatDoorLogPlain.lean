/-
  Texts of earlier layers, as one.
-/
import Derived.Test.YtkejjdoaljoooaaGreatDoorRCrc
import Derived.Test.YtkejjdoaljoooaaGreatDoorRNum
import Derived.Deep.Cut
/- Records and their forms, plainly: a form, the forms of a row of records, what bytes begin with; how the bytes of forms are read back; plain mathematics, of no program. -/
namespace Go.Proofs.YtkejjdoaljoooaaGreatDoor.Lg
open Lib (hid)
def be (s : Nat) : List Nat := [s / 16777216 % 256, s / 65536 % 256, s / 256 % 256, s % 256]
def mark (p number : List Nat) : List Nat := be (Crc.sum (p ++ number))
def form (p : List Nat) : List Nat := Num.put p.length ++ (mark p (Num.put p.length) ++ p)
def forms : List (List Nat) → List Nat
 | [] => []
 | p :: r => form p ++ forms r
def first (b : List Nat) : Option (List Nat) :=
 if (Num.take b).2.2 ≠ 0 ∨ b.length < (Num.take b).2.1 + 4 ∨ min (b.length - ((Num.take b).2.1 + 4)) 1048576 < (Num.take b).1 then none
 else if mark ((b.drop ((Num.take b).2.1 + 4)).take (Num.take b).1) (b.take (Num.take b).2.1) = (b.drop (Num.take b).2.1).take 4 then some ((b.drop ((Num.take b).2.1 + 4)).take (Num.take b).1)
 else none
theorem length_mark (p n : List Nat) : (mark p n).length = 4 := rfl
theorem length_form (p : List Nat) : (form p).length = Num.size p.length + 4 + p.length := by
 unfold form;rw [List.length_append, List.length_append, length_mark, Num.length_put];omega
theorem form_pos (p : List Nat) : 5 ≤ (form p).length := by
 have := Num.size_pos p.length;rw [length_form];omega
theorem be_lt (s : Nat) : ∀ b ∈ be s, b < 256 := by
 intro b hb;unfold be at hb;simp only [List.mem_cons, List.not_mem_nil, or_false] at hb;rcases hb with rfl | rfl | rfl | rfl <;> exact Nat.mod_lt _ (by decide)
theorem form_lt {p : List Nat} (hp : p.length < 2 ^ 64) (h : ∀ b ∈ p, b < 256) : ∀ b ∈ form p, b < 256 := by
 intro b hb;unfold form at hb;rcases List.mem_append.1 hb with hb | hb
 · exact Num.put_lt _ hp b hb
 rcases List.mem_append.1 hb with hb | hb
 · exact be_lt _ b hb
 · exact h b hb
theorem forms_append (a b : List (List Nat)) : forms (a ++ b) = forms a ++ forms b := by
 induction a with
 | nil => rfl
 | cons p r ih => rw [List.cons_append, forms, ih, forms, List.append_assoc]
theorem forms_snoc (a : List (List Nat)) (p : List Nat) : forms (a ++ [p]) = forms a ++ form p := by
 rw [forms_append];simp [forms]
theorem forms_lt {l : List (List Nat)} (h : ∀ p ∈ l, p.length < 2 ^ 64 ∧ ∀ b ∈ p, b < 256) : ∀ b ∈ forms l, b < 256 := by
 induction l with
 | nil => intro b hb; cases hb
 | cons p r ih =>
   intro b hb;rcases List.mem_append.1 hb with hb | hb
   · exact form_lt (h p (by simp)).1 (h p (by simp)).2 b hb
   · exact ih (fun q hq => h q (by simp [hq])) b hb
theorem first_form {p : List Nat} (hp : p.length ≤ 1048576) (r : List Nat) : first (form p ++ r) = some p := by
 have h64 : p.length < 2 ^ 64 := by omega
 have e0 : form p ++ r = Num.put p.length ++ (mark p (Num.put p.length) ++ p ++ r) := by unfold form; simp only [List.append_assoc]
 have ht : Num.take (form p ++ r) = (p.length, Num.size p.length, 0) := by rw [e0]; exact Num.take_put _ h64 _
 have hl : (form p ++ r).length = Num.size p.length + 4 + p.length + r.length := by rw [List.length_append, length_form]
 have a1 : (form p ++ r).take (Num.size p.length) = Num.put p.length := by rw [e0, List.take_append_of_le_length (by rw [Num.length_put]; exact Nat.le_refl _), List.take_of_length_le (by rw [Num.length_put]; exact Nat.le_refl _)]
 have a2 : (form p ++ r).drop (Num.size p.length) = mark p (Num.put p.length) ++ p ++ r := by rw [e0, List.drop_append_of_le_length (by rw [Num.length_put]; exact Nat.le_refl _), List.drop_of_length_le (by rw [Num.length_put]; exact Nat.le_refl _), List.nil_append]
 have a3 : (form p ++ r).drop (Num.size p.length + 4) = p ++ r := by rw [← List.drop_drop, a2, List.append_assoc]; rfl
 have a4 : (p ++ r).take p.length = p := List.take_left' rfl;have a5 : (mark p (Num.put p.length) ++ p ++ r).take 4 = mark p (Num.put p.length) := rfl;unfold first
 rw [ht];simp only [a1, a2, a3, a4, a5, if_true];rw [if_neg];omega
theorem take_is {b : List Nat} (hb : ∀ x ∈ b, x < 256) (h : (Num.take b).2.2 = 0) : (Num.take b).1 < 2 ^ 64 ∧ (Num.take b).2.1 = Num.size (Num.take b).1 ∧ b.take (Num.take b).2.1 = Num.put (Num.take b).1 ∧ (Num.take b).2.1 ≤ b.length := by
 cases b with
 | nil => simp [Num.take] at h
 | cons x r =>
   have hx := hb x (by simp);have hr : ∀ y ∈ r, y < 256 := fun y hy => hb y (by simp [hy]);unfold Num.take at h ⊢;simp only at h ⊢;by_cases h1 : x < 248
   · simp only [h1, if_true]
     refine ⟨(by show x < 18446744073709551616; omega), by unfold Num.size; rw [if_pos h1], by unfold Num.put; rw [if_pos h1]; rfl, Nat.succ_le_succ (Nat.zero_le _)⟩
   · rw [if_neg h1] at h ⊢
     by_cases h2 : r.length < x - 247
     · rw [if_pos h2] at h; simp at h
     · rw [if_neg h2] at h ⊢
       by_cases h3 : Num.size (Num.val (r.take (x - 247))) ≠ 1 + (x - 247)
       · rw [if_pos h3] at h; simp at h
       · rw [if_neg h3]
         have h3' : Num.size (Num.val (r.take (x - 247))) = 1 + (x - 247) := (by omega);have hlen : (r.take (x - 247)).length = x - 247 := (by rw [List.length_take]; omega);have hv := Num.take_val_lt r (x - 247) hr;rw [hlen] at hv;have h8 : (256 : Nat) ^ (x - 247) ≤ 256 ^ 8 := Nat.pow_le_pow_right (by decide) (by omega);have h4 := ((Num.put_same x r (by omega) hx (by omega) hr).2 h3').symm;simp only [List.length_cons];refine ⟨?_, ?_, h4, by omega⟩
         rotate_left
         · rw [h3']
         have : (256 : Nat) ^ 8 = 2 ^ 64 := (by decide);omega
theorem first_some {b p : List Nat} (hb : ∀ x ∈ b, x < 256) (h : first b = some p) : p.length ≤ 1048576 ∧ ∃ r, b = form p ++ r := by
 unfold first at h
 split at h
 · cases h
 rename_i hc;simp only [not_or, Nat.not_lt] at hc;obtain ⟨h0, h1, h2⟩ := hc;have h0' : (Num.take b).2.2 = 0 := by omega
 obtain ⟨t1, t2, t3, t4⟩ := take_is hb h0';generalize (Num.take b).1 = v at *;generalize (Num.take b).2.1 = n at *;split at h
 · rename_i hm
   injection h with h;have hpl : p.length = v := (by rw [← h, List.length_take, List.length_drop]; omega);refine ⟨by omega, b.drop (n + 4 + v), ?_⟩;unfold form;rw [hpl, ← t3, ← h, hm];have e1 : b = b.take n ++ b.drop n := (List.take_append_drop n b).symm;have e2 : b.drop n = (b.drop n).take 4 ++ b.drop (n + 4) := (by rw [← List.drop_drop]; exact (List.take_append_drop 4 _).symm);have e3 : b.drop (n + 4) = (b.drop (n + 4)).take v ++ b.drop (n + 4 + v) := by rw [← List.drop_drop (i := v)]; exact (List.take_append_drop v _).symm
   conv => lhs; rw [e1, e2, e3]
   simp only [List.append_assoc]
 · cases h
theorem form_inj {p q r s : List Nat} (hp : p.length ≤ 1048576) (hq : q.length ≤ 1048576) (h : form p ++ r = form q ++ s) : p = q ∧ r = s := by
 have a := first_form hp r;rw [h, first_form hq s] at a;injection a with a;subst a;exact ⟨rfl, List.append_cancel_left h⟩
theorem first_cut {p : List Nat} (hp : p.length ≤ 1048576) (hb : ∀ x ∈ p, x < 256) {k : Nat} (hk : k < (form p).length) : first ((form p).take k) = none := by
 rcases hf : first ((form p).take k) with _ | q
 · rfl
 · exfalso
   obtain ⟨hq, r, hr⟩ := first_some (fun x hx => form_lt (by omega) hb x (List.mem_of_mem_take hx)) hf;have e : form p ++ [] = form q ++ (r ++ (form p).drop k) := (by rw [← List.append_assoc, ← hr, List.take_append_drop, List.append_nil]);obtain ⟨rfl, h2⟩ := form_inj hp hq e;have := congrArg List.length h2;rw [List.length_append, List.length_drop, List.length_nil] at this;omega
def Ok (l : List (List Nat)) : Prop := ∀ p ∈ l, p.length ≤ 1048576 ∧ ∀ b ∈ p, b < 256
theorem Ok.tail {p : List Nat} {l : List (List Nat)} (h : Ok (p :: l)) : Ok l := fun q hq => h q (by simp [hq])
theorem Ok.append {a b : List (List Nat)} (ha : Ok a) (hb : Ok b) : Ok (a ++ b) := fun p hp => (List.mem_append.1 hp).elim (ha p) (hb p)
theorem Ok.take {a : List (List Nat)} (ha : Ok a) (k : Nat) : Ok (a.take k) := fun p hp => ha p (List.mem_of_mem_take hp)
theorem Ok.lt {l : List (List Nat)} (h : Ok l) : ∀ b ∈ forms l, b < 256 := forms_lt fun p hp => ⟨by have := (h p hp).1; omega, (h p hp).2⟩
structure Reads (b : List Nat) (l : List (List Nat)) (r : List Nat) : Prop where
 eq : b = forms l ++ r
 ok : ∀ p ∈ l, p.length ≤ 1048576
 no : first r = none
theorem first_nil : first [] = none := rfl
theorem reads_forms {l : List (List Nat)} (h : Ok l) : Reads (forms l) l [] := ⟨(List.append_nil _).symm, fun p hp => (h p hp).1, first_nil⟩
theorem Reads.behind {b : List Nat} {l m : List (List Nat)} {r : List Nat} (h : Reads b l r) (hm : ∀ p ∈ m, p.length ≤ 1048576) : Reads (forms m ++ b) (m ++ l) r :=
 ⟨by rw [forms_append, List.append_assoc, ← h.eq], fun p hp => (List.mem_append.1 hp).elim (hm p) (h.ok p), h.no⟩
theorem reads_cut {l : List (List Nat)} (h : Ok l) (k : Nat) : ∃ j r, j ≤ l.length ∧ Reads ((forms l).take k) (l.take j) r := by
 induction l generalizing k with
 | nil => exact ⟨0, [], Nat.le_refl _, by simpa [forms] using reads_forms (l := []) (fun _ h => (by cases h))⟩
 | cons p l ih =>
   by_cases hk : k < (form p).length
   · refine ⟨0, (form p).take k, Nat.zero_le _, ?_, fun _ h => by simp at h, first_cut (h p (by simp)).1 (h p (by simp)).2 hk⟩
     rw [forms, List.take_append_of_le_length (by omega)];rfl
   · obtain ⟨j, r, hj, hr⟩ := ih h.tail (k - (form p).length)
     refine ⟨j + 1, r, by simp only [List.length_cons]; omega, ?_⟩;rw [forms, List.take_append, List.take_of_length_le (by omega), List.take_succ_cons];have := hr.behind (m := [p]) fun q hq => (by rw [List.mem_singleton.1 hq]; exact (h p (by simp)).1);simpa [forms] using this
theorem reads_flushed {a b : List (List Nat)} (ha : Ok a) (hb : Ok b) (k : Nat) : ∃ j r, j ≤ b.length ∧ Reads (forms a ++ (forms b).take k) (a ++ b.take j) r := by
 obtain ⟨j, r, hj, hr⟩ := reads_cut hb k;exact ⟨j, r, hj, hr.behind fun p hp => (ha p hp).1⟩
end Go.Proofs.YtkejjdoaljoooaaGreatDoor.Lg
/- The program's sum of a record and of its number's form, as an array of four bytes. -/
namespace Go.Proofs.YtkejjdoaljoooaaGreatDoor.Lg
open Lib (hid)
open Go.RowKit Mem
def arr (l : List Nat) : Value := .agg (cs l).toArray
def SumArr (s : Nat) (w : World) (e : Ending) (w' : World) : Prop := e = .returned (arr (be s)) ∧ Below w.heap.size w w'
theorem lmark_lt {p q : List Nat} (hp : ∀ b ∈ p, b < 256) (hq : ∀ b ∈ q, b < 256) : ∀ b ∈ p ++ q, b < 256 := fun b hb => (List.mem_append.1 hb).elim (hp b) (hq b)
set_option maxRecDepth 20000 in
set_option maxHeartbeats 2000000 in
theorem lsum_any (A : Option Addr) (n c : Nat) (p : List Nat) (B : Option Addr) (m d : Nat) (q : List Nat) (w : World) (ht : Cr.Tab w) (hp : Rd w A n c (cs p)) (lp : ∀ b ∈ p, b < 256) (hq : Rd w B m d (cs q)) (lq : ∀ b ∈ q, b < 256) :
 Calls Tryz.prog 79 #[.slice A n c, .slice B m d] w (SumArr (Crc.sum (p ++ q)) w) := by
 have hb1 := bel_alloc (Below.refl w.heap.size w) (.cells #[.int .u8 0, .int .u8 0, .int .u8 0, .int .u8 0] 151);have hblk := Blk.new w 151 #[.int .u8 0, .int .u8 0, .int .u8 0, .int .u8 0];have hsz1 := size_alloc w (.cells #[.int .u8 0, .int .u8 0, .int .u8 0, .int .u8 0] 151);obtain ⟨W, hW⟩ : ∃ W, w.alloc (.cells #[.int .u8 0, .int .u8 0, .int .u8 0, .int .u8 0] 151) = W := ⟨_, rfl⟩
 rw [hW] at hb1 hblk hsz1
 have hm := Cr.Mat.lit W [⟨A, n, c, p⟩, ⟨B, m, d, q⟩] 71 2 rfl (by simp [maxLen]) (by
  intro x hx;simp only [List.mem_cons, List.not_mem_nil, or_false] at hx;rcases hx with rfl | rfl
  · exact ⟨hp.below hb1, lp⟩
  · exact ⟨hq.below hb1, lq⟩)
 have hs := Cr.sum_any _ 2 2 _ _ ((ht.below hb1).alloc _) hm;have e : Cr.bytes [⟨A, n, c, p⟩, ⟨B, m, d, q⟩] = p ++ q := by simp [Cr.bytes]
 rw [e] at hs;have hlt := Crc.sum_lt (p ++ q) (lmark_lt lp lq);generalize Crc.sum (p ++ q) = s at hs hlt ⊢;have hb2 := bel_alloc hb1 (.cells #[.slice A n c, .slice B m d] 71);have hblk2 := hblk.alloc (.cells #[.slice A n c, .slice B m d] 71);have hs' : Calls Tryz.prog 130 #[.slice (some ⟨W.heap.size, 0, none⟩) 2 2] (W.alloc (.cells #[.slice A n c, .slice B m d] 71)) (Cr.SumIs s (W.alloc (.cells #[.slice A n c, .slice B m d] 71))) := hs;rw [hsz1] at hs';have HS := hid hs';have HB := hid hb2;have HW := hid hW;have HK := hid hblk2;clear hs hs' hb1 hb2 hblk hblk2 hm e ht hp lp hq lq hW hsz1;go_enter Tryz.func79, Tryz.ntmps79
 go_wp2_with fail
 rw [HW.out];refine HS.out.mono ?_;rintro e w2 ⟨rfl, rfl⟩;go_wp2_with (first | fail | ((with_reducible refine wpList_store_blk rfl 151 _ _ rfl w.heap.size 151 _ #[.int .u8 ((s : Int) / 16777216), .int .u8 ((s : Int) / 65536 % 256), .int .u8 ((s : Int) / 256 % 256), .int .u8 ((s : Int) % 256)] ?_ ?_ HK.out ?_ ?_ ?_ ?_); (focus rfl); (focus rfl); (focus kernel_rfl); (focus rfl); (focus kernel_rfl); intro w3 hb3 hg3))
 refine bodyPost_ret (v := .agg _) (results_blk Tryz.results79 _ _ w.heap.size 151 _ _ rfl hb3 Tryz.underlying151 rfl (by kernel_rfl)) rfl ?_;refine ⟨?_, ?_⟩
 · have e1 : s / 16777216 % 256 = s / 16777216 := by omega
   simp [arr, be, cs, e1]
 · exact HB.out.grown hg3 HB.out.size fun k e => by cases e; exact Nat.le_refl _
end Go.Proofs.YtkejjdoaljoooaaGreatDoor.Lg
