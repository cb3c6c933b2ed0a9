/-
  Texts of earlier layers, as one.
-/
import GoSem.Core.Utf8
import Derived.Test.YtkejjdoaljoooaaGreatDoorRBase
import Derived.Test.YtkejjdoaljoooaaGreatDoorShelf
import Derived.WalkLawsBesides
import Derived.Lib.OthersKept
/- Plain mathematics of layer 4 (runes), without any program: the pieces of a text (right runes, and bytes that stand alone), how they stand in quotes, digits to the base 16, and how these are read; what a text's pieces tell of two texts one behind the other. -/
namespace Go.Proofs.YtkejjdoaljoooaaGreatDoor.Run
open Lib (hid)
inductive Pc where
 | lone (b : Nat)
 | rune (c : Nat)
 deriving DecidableEq
def enc (c : Nat) : List Nat :=
 if c < 128 then [c] else if c < 2048 then [192 + c / 64, 128 + c % 64]
 else if c < 65536 then [224 + c / 4096, 128 + c / 64 % 64, 128 + c % 64]
 else [240 + c / 262144, 128 + c / 4096 % 64, 128 + c / 64 % 64, 128 + c % 64]
def fit (c : Nat) : Bool := c < 55296 || (57344 ≤ c && c ≤ 1114111)
namespace Pc
def bytes : Pc → List Nat | lone b => [b] | rune c => enc c
def num : Pc → Nat | lone _ => 65533 | rune c => c
def alone : Pc → Bool | lone _ => true | rune _ => false
def good : Pc → Prop | lone b => 128 ≤ b ∧ b < 256 | rune c => fit c = true
def fine : Pc → Bool | lone _ => false | rune c => !decide (c < 32) && !decide (c = 127)
end Pc
def tl (b : Nat) : Bool := 128 ≤ b && b < 192
def first4 (a b c d : Nat) : Pc :=
 if a < 128 then .rune a
 else if 194 ≤ a && a < 224 && tl b then .rune ((a - 192) * 64 + (b - 128))
 else if 224 ≤ a && a < 240 && tl b && tl c && 2048 ≤ (a - 224) * 4096 + (b - 128) * 64 + (c - 128) && fit ((a - 224) * 4096 + (b - 128) * 64 + (c - 128)) then .rune ((a - 224) * 4096 + (b - 128) * 64 + (c - 128))
 else if 240 ≤ a && a < 245 && tl b && tl c && tl d && 65536 ≤ (a - 240) * 262144 + (b - 128) * 4096 + (c - 128) * 64 + (d - 128) && fit ((a - 240) * 262144 + (b - 128) * 4096 + (c - 128) * 64 + (d - 128)) then .rune ((a - 240) * 262144 + (b - 128) * 4096 + (c - 128) * 64 + (d - 128))
 else .lone a
def first (l : List Nat) : Pc := first4 (l.getD 0 0) (l.getD 1 0) (l.getD 2 0) (l.getD 3 0)
theorem enc_one {c : Nat} (h : c < 128) : enc c = [c] := by simp [enc, h]
theorem enc_two {c : Nat} (h : 128 ≤ c) (h' : c < 2048) : enc c = [192 + c / 64, 128 + c % 64] := by
 simp [enc, show ¬ c < 128 by omega, h']
theorem enc_three {c : Nat} (h : 2048 ≤ c) (h' : c < 65536) : enc c = [224 + c / 4096, 128 + c / 64 % 64, 128 + c % 64] := by
 simp [enc, show ¬ c < 128 by omega, show ¬ c < 2048 by omega, h']
theorem enc_four {c : Nat} (h : 65536 ≤ c) : enc c = [240 + c / 262144, 128 + c / 4096 % 64, 128 + c / 64 % 64, 128 + c % 64] := by
 simp [enc, show ¬ c < 128 by omega, show ¬ c < 2048 by omega, show ¬ c < 65536 by omega]
theorem enc_len (c : Nat) : 1 ≤ (enc c).length ∧ (enc c).length ≤ 4 := by
 unfold enc;split
 · simp
 · split
   · simp
   · split <;> simp
theorem bytes_len (p : Pc) : 1 ≤ p.bytes.length ∧ p.bytes.length ≤ 4 := by
 cases p with
 | lone b => simp [Pc.bytes]
 | rune c => exact enc_len c
theorem fit_iff (c : Nat) : fit c = true ↔ c < 55296 ∨ (57344 ≤ c ∧ c ≤ 1114111) := by simp [fit]
theorem tl_iff (b : Nat) : tl b = true ↔ 128 ≤ b ∧ b < 192 := by simp [tl]
theorem first_enc {c : Nat} (h : fit c = true) (t : List Nat) : first (enc c ++ t) = .rune c := by
 rw [fit_iff] at h;by_cases h1 : c < 128
 · rw [enc_one h1]
   simp [first, first4, h1]
 by_cases h2 : c < 2048
 · rw [enc_two (by omega) h2]
   simp only [first, first4, List.cons_append, List.nil_append, List.getD_cons_zero, List.getD_cons_succ];rw [if_neg (by omega), if_pos (by simp [tl]; omega)];exact congrArg Pc.rune (by omega)
 by_cases h3 : c < 65536
 · rw [enc_three (by omega) h3]
   simp only [first, first4, List.cons_append, List.nil_append, List.getD_cons_zero, List.getD_cons_succ];have e : (224 + c / 4096 - 224) * 4096 + (128 + c / 64 % 64 - 128) * 64 + (128 + c % 64 - 128) = c := (by omega);rw [e, if_neg (by omega), if_neg (by simp [tl]; omega), if_pos];simp [tl, fit];omega
 · rw [enc_four (by omega)]
   simp only [first, first4, List.cons_append, List.nil_append, List.getD_cons_zero, List.getD_cons_succ];have e : (240 + c / 262144 - 240) * 262144 + (128 + c / 4096 % 64 - 128) * 4096 + (128 + c / 64 % 64 - 128) * 64 + (128 + c % 64 - 128) = c := (by omega);rw [e, if_neg (by omega), if_neg (by simp [tl]; omega), if_neg (by simp [tl]; omega), if_pos];simp [tl, fit];omega
theorem getD_tail {l : List Nat} {k : Nat} (h : l.getD k 0 ≠ 0) : k < l.length := by
 rcases Nat.lt_or_ge k l.length with h' | h'
 · exact h'
 · exact absurd (by simp [List.getD, h']) h
theorem four {l : List Nat} {n : Nat} (h : n ≤ l.length) : l.take n = (List.range n).map fun k => l.getD k 0 := by
 apply List.ext_getElem
 · simp; omega
 · intro i h1 h2
   simp at h1 h2;simp [List.getD, show i < l.length by omega]
theorem first_bytes {l : List Nat} (h0 : l ≠ []) : (first l).bytes = l.take (first l).bytes.length := by
 have hlen : 0 < l.length := List.length_pos_iff.2 h0;unfold first first4
 split
 · rename_i h1
   rw [Pc.bytes, enc_one h1];rw [four (by simp; omega)];simp
 · split
   · rename_i h1 h2
     simp [tl] at h2;have h3 := getD_tail (l := l) (k := 1) (by simp [List.getD]; omega);rw [Pc.bytes, enc_two (by simp [List.getD]; omega) (by simp [List.getD]; omega)];rw [four (by simp; omega)];simp [List.range_succ, List.getD];omega
   · split
     · rename_i h2 h3
       simp [tl] at h3;have h4 := getD_tail (l := l) (k := 2) (by simp [List.getD]; omega);rw [Pc.bytes, enc_three (by simp [List.getD]; omega) (by simp [List.getD]; omega)];rw [four (by simp; omega)];simp [List.range_succ, List.getD];omega
     · split
       · rename_i h2 h3 h4
         simp [tl] at h4;have h5 := getD_tail (l := l) (k := 3) (by simp [List.getD]; omega);rw [Pc.bytes, enc_four (by simp [List.getD]; omega)];rw [four (by simp; omega)];simp [List.range_succ, List.getD];omega
       · rw [Pc.bytes, four (by simp; omega)]
         simp
theorem first_split {l : List Nat} (h0 : l ≠ []) : l = (first l).bytes ++ l.drop (first l).bytes.length := by
 have := first_bytes h0
 conv => lhs; rw [← List.take_append_drop (first l).bytes.length l]
 rw [← this]
theorem first_le {l : List Nat} (h0 : l ≠ []) : (first l).bytes.length ≤ l.length := by
 have := congrArg List.length (first_bytes h0);rw [List.length_take] at this;omega
def pcs : Nat → List Nat → List Pc
 | 0, _ => []
 | _ + 1, [] => []
 | f + 1, a :: l => first (a :: l) :: pcs f ((a :: l).drop (first (a :: l)).bytes.length)
def pieces (l : List Nat) : List Pc := pcs l.length l
theorem pcs_fuel : ∀ (f g : Nat) (l : List Nat), l.length ≤ f → l.length ≤ g → pcs f l = pcs g l
 | 0, g, l, hf, _ => by
   have : l = [] := List.eq_nil_of_length_eq_zero (by omega);subst this;cases g <;> rfl
 | f + 1, 0, l, _, hg => by
   have : l = [] := List.eq_nil_of_length_eq_zero (by omega);subst this;rfl
 | f + 1, g + 1, [], _, _ => rfl
 | f + 1, g + 1, a :: l, hf, hg => by
   have h1 := bytes_len (first (a :: l));simp only [pcs];rw [pcs_fuel f g _ (by simp at *; omega) (by simp at *; omega)]
theorem pieces_nil : pieces [] = [] := rfl
theorem pieces_cons {l : List Nat} (h : l ≠ []) : pieces l = first l :: pieces (l.drop (first l).bytes.length) := by
 cases l with
 | nil => exact absurd rfl h
 | cons a l =>
   have h1 := bytes_len (first (a :: l));simp only [pieces, List.length_cons, pcs];rw [pcs_fuel l.length _ _ (by simp; omega) (Nat.le_refl _)]
theorem by_pieces {M : List Nat → Prop} (h0 : M []) (h1 : ∀ l, l ≠ [] → M (l.drop (first l).bytes.length) → M l) : ∀ l, M l := by
 intro l;induction hn : l.length using Nat.strongRecOn generalizing l with
 | _ n ih =>
   by_cases h : l = []
   · rw [h]; exact h0
   · have hl : 0 < l.length := List.length_pos_iff.2 h
     have hb := bytes_len (first l);exact h1 l h (ih _ (by rw [List.length_drop]; omega) _ rfl)
theorem join_pieces : ∀ l : List Nat, (pieces l).flatMap Pc.bytes = l :=
 by_pieces (by simp [pieces_nil]) fun l h ih => by
  rw [pieces_cons h, List.flatMap_cons, ih];exact (first_split h).symm
theorem alone_tell {l : List Nat} (h : l ≠ []) : (first l).alone = (decide ((first l).num = 65533) && !decide ([239, 191, 189] <+: l)) := by
 have e : enc 65533 = [239, 191, 189] := by decide
 have hs := first_split h;cases hp : first l with
 | lone b =>
   simp only [Pc.alone, Pc.num, decide_true, Bool.true_and];by_cases hx : [239, 191, 189] <+: l
   · obtain ⟨x, hx⟩ := hx
     rw [← e] at hx;rw [← hx, first_enc (by decide)] at hp;cases hp
   · simp [hx]
 | rune c =>
   simp only [Pc.alone, Pc.num];by_cases hc : c = 65533
   · subst hc
     rw [hp] at hs;have : [239, 191, 189] <+: l := (by rw [hs, Pc.bytes, e]; exact List.prefix_append _ _);simp [this]
   · simp [hc]
def beg (l : List Nat) : Bool := decide ((pieces l).length ≤ 32) && (pieces l).all Pc.fine
/- ! ### Digits -/
/- ! ### In quotes -/
end Go.Proofs.YtkejjdoaljoooaaGreatDoor.Run
/- What a range over a text tells at a place (the model's own reading) is the piece with which the bytes from there on begin. -/
namespace Go.Proofs.YtkejjdoaljoooaaGreatDoor.Run
open Lib (hid)
open Mem
theorem cont_tl {s : ByteArray} {i : Nat} : (decide (i < s.size) && ((s.get! i).toNat / 64 == 2)) = tl ((bts s).getD i 0) := by
 rw [get_bts];by_cases h : i < s.size
 · rw [Bool.eq_iff_iff]
   simp only [h, decide_true, Bool.true_and, beq_iff_eq, tl_iff];omega
 · have e : (bts s).getD i 0 = 0 := by simp [List.getD, length_bts, Nat.le_of_not_lt h]
   rw [e];simp [h, tl]
theorem valid_fit (c : Nat) : Utf8.valid (c : Int) = fit c := by
 rw [Bool.eq_iff_iff, fit_iff];simp only [Utf8.valid, Bool.or_eq_true, Bool.and_eq_true, decide_eq_true_eq];omega
theorem decode_first4 (s : ByteArray) (i : Nat) (a b c d : Nat) (ha : (bts s).getD i 0 = a) (hb : (bts s).getD (i + 1) 0 = b) (hc : (bts s).getD (i + 2) 0 = c) (hd : (bts s).getD (i + 3) 0 = d) (ha' : a < 256) (hb' : b < 256) (hc' : c < 256) (hd' : d < 256) :
 Utf8.decode s i = ((first4 a b c d).num, (first4 a b c d).bytes.length) := by
 unfold Utf8.decode;simp only [cont_tl];simp only [get_bts, Nat.add_zero, ha, hb, hc, hd, valid_fit];by_cases h1 : a < 128
 · simp [first4, h1, Pc.num, Pc.bytes, enc_one h1]
 rw [if_neg h1];by_cases h2 : a < 192
 · rw [if_neg (by simp; omega), if_neg (by simp; omega), if_neg (by simp; omega)]
   have e : first4 a b c d = .lone a := by
    unfold first4;rw [if_neg h1, if_neg (by simp; omega), if_neg (by simp; omega), if_neg (by simp; omega)]
   rw [e];rfl
 by_cases h3 : a < 224
 · by_cases ht : tl b = true
   · rw [if_pos (by simp [ht]; omega)]
     rw [tl_iff] at ht;by_cases h4 : a < 194
     · rw [if_neg (by omega)]
       have e : first4 a b c d = .lone a := by
        unfold first4;rw [if_neg h1, if_neg (by simp; omega), if_neg (by simp; omega), if_neg (by simp; omega)]
       rw [e];rfl
     · rw [if_pos (by omega)]
       have e : first4 a b c d = .rune ((a - 192) * 64 + (b - 128)) := by
        unfold first4;rw [if_neg h1, if_pos (by simp [tl]; omega)]
       rw [e];simp only [Pc.num, Pc.bytes];rw [enc_two (by omega) (by omega)];exact Prod.ext (by show _ = _; omega) rfl
   · rw [if_neg (by simp [ht]), if_neg (by simp; omega), if_neg (by simp; omega)]
     have e : first4 a b c d = .lone a := by
      unfold first4;rw [if_neg h1, if_neg (by simp [ht]), if_neg (by simp [ht]), if_neg (by simp [ht])]
     rw [e];rfl
 rw [if_neg (by simp; omega)];by_cases h4 : a < 240
 · by_cases ht : tl b = true ∧ tl c = true
   · rw [if_pos (by simp [ht]; omega)]
     have e2 : a % 16 * 4096 + b % 64 * 64 + c % 64 = (a - 224) * 4096 + (b - 128) * 64 + (c - 128) := by
      have h5 := (tl_iff _).1 ht.1;have h6 := (tl_iff _).1 ht.2;omega
     rw [e2];by_cases h7 : 2048 ≤ (a - 224) * 4096 + (b - 128) * 64 + (c - 128) ∧ fit ((a - 224) * 4096 + (b - 128) * 64 + (c - 128)) = true
     · rw [if_pos (by simp only [ge_iff_le, h7.1, h7.2, decide_true, Bool.and_self])]
       have h5 := (tl_iff _).1 ht.1;have h6 := (tl_iff _).1 ht.2
       have e : first4 a b c d = .rune ((a - 224) * 4096 + (b - 128) * 64 + (c - 128)) := by
        unfold first4;rw [if_neg h1, if_neg (by simp; omega), if_pos (by simp only [h7.1, h7.2, ht.1, ht.2, h4, decide_true, Bool.and_true]; simp; omega)]
       rw [e];simp only [Pc.num, Pc.bytes];rw [enc_three h7.1 (by omega)];rfl
     · have h8 : (decide (2048 ≤ (a - 224) * 4096 + (b - 128) * 64 + (c - 128)) && fit ((a - 224) * 4096 + (b - 128) * 64 + (c - 128))) = false := by
        rw [Bool.eq_false_iff];simpa using h7
       rw [if_neg (by simp only [ge_iff_le, h8]; simp)]
       have e : first4 a b c d = .lone a := by
        unfold first4;rw [if_neg h1, if_neg (by simp; omega), if_neg (by rw [Bool.and_assoc, h8]; simp), if_neg (by simp; omega)]
       rw [e];rfl
   · have ht' : (tl b && tl c) = false := by
      rw [Bool.eq_false_iff];simpa using ht
     rw [if_neg (by rw [Bool.and_assoc, ht']; simp), if_neg (by simp; omega)]
     have e : first4 a b c d = .lone a := by
      unfold first4;rw [if_neg h1, if_neg (by simp; omega), if_neg (by simp only [Bool.and_eq_true]; simp at ht'; simp; intro _ _ h5; simp [ht' h5]), if_neg (by simp; omega)]
     rw [e];rfl
 rw [if_neg (by simp; omega)];by_cases ht : a < 248 ∧ tl b = true ∧ tl c = true ∧ tl d = true
 · rw [if_pos (by simp [ht]; omega)]
   have h5 := (tl_iff _).1 ht.2.1;have h6 := (tl_iff _).1 ht.2.2.1;have h7 := (tl_iff _).1 ht.2.2.2;have e2 : a % 8 * 262144 + b % 64 * 4096 + c % 64 * 64 + d % 64 = (a - 240) * 262144 + (b - 128) * 4096 + (c - 128) * 64 + (d - 128) := (by omega);rw [e2];by_cases h8 : 65536 ≤ (a - 240) * 262144 + (b - 128) * 4096 + (c - 128) * 64 + (d - 128) ∧ fit ((a - 240) * 262144 + (b - 128) * 4096 + (c - 128) * 64 + (d - 128)) = true
   · rw [if_pos (by simp only [ge_iff_le, h8.1, h8.2, decide_true, Bool.and_self])]
     have h9 := (fit_iff _).1 h8.2
     have e : first4 a b c d = .rune ((a - 240) * 262144 + (b - 128) * 4096 + (c - 128) * 64 + (d - 128)) := by
      unfold first4;rw [if_neg h1, if_neg (by simp; omega), if_neg (by simp; omega), if_pos (by simp only [h8.1, h8.2, ht.2.1, ht.2.2.1, ht.2.2.2, decide_true, Bool.and_true]; simp; omega)]
     rw [e];simp only [Pc.num, Pc.bytes];rw [enc_four h8.1];rfl
   · have h9 : (decide (65536 ≤ (a - 240) * 262144 + (b - 128) * 4096 + (c - 128) * 64 + (d - 128)) && fit ((a - 240) * 262144 + (b - 128) * 4096 + (c - 128) * 64 + (d - 128))) = false := by
      rw [Bool.eq_false_iff];simpa using h8
     rw [if_neg (by simp only [ge_iff_le, h9]; simp)]
     have e : first4 a b c d = .lone a := by
      unfold first4;rw [if_neg h1, if_neg (by simp; omega), if_neg (by simp; omega), if_neg (by rw [Bool.and_assoc, h9]; simp)]
     rw [e];rfl
 · rw [if_neg (by simp only [Bool.and_eq_true, beq_iff_eq]; rintro ⟨⟨⟨h5, h6⟩, h7⟩, h8⟩; exact ht ⟨by omega, h6, h7, h8⟩)]
   have e : first4 a b c d = .lone a := by
    unfold first4;rw [if_neg h1, if_neg (by simp; omega), if_neg (by simp; omega), if_neg];simp only [Bool.and_eq_true, decide_eq_true_eq];rintro ⟨⟨⟨⟨⟨⟨_, h5⟩, h6⟩, h7⟩, h8⟩, _⟩, _⟩;exact ht ⟨by omega, h6, h7, h8⟩
   rw [e];rfl
theorem getD_lt (s : ByteArray) (k : Nat) : (bts s).getD k 0 < 256 := by
 rw [← get_bts];exact UInt8.toNat_lt _
theorem getD_drop (l : List Nat) (i k : Nat) : (l.drop i).getD k 0 = l.getD (i + k) 0 := by
 simp [List.getD]
theorem decode_first (s : ByteArray) (i : Nat) : Utf8.decode s i = ((first ((bts s).drop i)).num, (first ((bts s).drop i)).bytes.length) := by
 rw [decode_first4 s i _ _ _ _ rfl rfl rfl rfl (getD_lt _ _) (getD_lt _ _) (getD_lt _ _) (getD_lt _ _)];simp only [first, getD_drop, Nat.add_zero]
theorem drop_ne {s : ByteArray} {i : Nat} (h : i < s.size) : (bts s).drop i ≠ [] := by
 intro e;have := congrArg List.length e;rw [List.length_drop, length_bts] at this;simp at this;omega
theorem drop_all {s : ByteArray} {i : Nat} (h : ¬ i < s.size) : (bts s).drop i = [] := by
 apply List.drop_eq_nil_of_le;rw [length_bts];omega
def rest (s : ByteArray) (i : Nat) : List Pc := pieces ((bts s).drop i)
theorem rest_zero (s : ByteArray) : rest s 0 = pieces (bts s) := rfl
theorem rest_end {s : ByteArray} {i : Nat} (h : ¬ i < s.size) : rest s i = [] := by rw [rest, drop_all h]; rfl
theorem rest_more {s : ByteArray} {i : Nat} (h : i < s.size) : rest s i = first ((bts s).drop i) :: rest s (i + (first ((bts s).drop i)).bytes.length) := by
 rw [rest, pieces_cons (drop_ne h), List.drop_drop];rfl
theorem rest_le {s : ByteArray} {i : Nat} (h : i < s.size) : i + (first ((bts s).drop i)).bytes.length ≤ s.size := by
 have := first_le (drop_ne h);rw [List.length_drop, length_bts] at this;omega
end Go.Proofs.YtkejjdoaljoooaaGreatDoor.Run
/- runes.alone, Count, Beginning, Key, Begins: what they answer, in words of the text's pieces; what was there stays. -/
namespace Go.Proofs.YtkejjdoaljoooaaGreatDoor
open Lib (hid)
open Go.RowKit Mem Run
theorem prefix_tell (s p : ByteArray) : Lib.hasPrefix s.data.toList p.data.toList = decide (bts p <+: bts s) := by
 rw [Bool.eq_iff_iff];simp only [Lib.hasPrefix, decide_eq_true_eq, List.isPrefixOf_iff_prefix];constructor
 · rintro ⟨t, ht⟩
   exact ⟨t.map (·.toNat), by simp only [bts, ← ht, List.map_append]⟩
 · rintro ⟨t, ht⟩
   have h1 : (bts s).take p.size = bts p := (by rw [← ht, ← length_bts]; exact List.take_left);have h2 : bts (s.extract 0 p.size) = bts p := (by rw [bts_extract, List.drop_zero, Nat.sub_zero, h1]);have h3 := bts_inj h2;rw [← h3, Lib.extract_data, List.drop_zero];exact List.take_prefix _ _
theorem hasp_any (s p : ByteArray) (w : World) : Calls Tryz.prog 199 #[.string s, .string p] w fun e w' => e = .returned (.bool (decide (bts p <+: bts s))) ∧ w = w' := by
 refine (Tryz.strings_HasPrefix s p w).mono ?_;rintro e w' ⟨rfl, rfl⟩;exact ⟨by rw [prefix_tell], rfl⟩
theorem ret_int {k : IntKind} {a b : Int} (h : a = b) : Ending.returned (.int k a) = .returned (.int k b) := by rw [h]
theorem ret_bool {a b : Bool} (h : a = b) : Ending.returned (.bool a) = .returned (.bool b) := by rw [h]
def fffd (s : ByteArray) : Bool := decide ([239, 191, 189] <+: bts s)
theorem alone_any (r : Int) (s : ByteArray) (w : World) : Calls Tryz.prog 193 #[.int .i32 r, .string s] w fun e w' => e = .returned (.bool (r == 65533 && !fffd s)) ∧ w = w' := by
 have hx : Calls Tryz.prog 199 #[.string s, .string ⟨#[239, 191, 189]⟩] w fun e w' => e = .returned (.bool (fffd s)) ∧ w = w' := hasp_any s ⟨#[239, 191, 189]⟩ w;have HX := hid hx;clear hx;by_cases h : r = 65533
 · subst h
   go_enter Tryz.func193, Tryz.ntmps193
   go_wp2_with (go_at_call 199; refine HX.out.mono ?_; rintro e w' ⟨rfl, rfl⟩)
   go_ret;exact ⟨rfl, rfl⟩
 · have hb : (r == 65533) = false := by simpa using h
   go_enter Tryz.func193, Tryz.ntmps193
   go_wp2_with (go_at_call 199; refine HX.out.mono ?_; rintro e w' ⟨rfl, rfl⟩)
   go_ret;exact ⟨ret_bool (by rw [hb]; rfl), rfl⟩
theorem alone_first {s : ByteArray} {i : Nat} (h : i < s.size) : ((((first ((bts s).drop i)).num : Nat) : Int) == 65533 && !fffd (s.extract i s.size)) = (first ((bts s).drop i)).alone := by
 rw [alone_tell (drop_ne h), fffd, bts_tail]
 congr 1
 rw [Bool.eq_iff_iff];simp;omega
theorem below_iter (w : World) (s : ByteArray) (pos : Nat) : Below w.heap.size w (w.iter s pos) := (Below.refl _ w).alloc (Nat.le_refl _) _
theorem next_any {w : World} {s : ByteArray} {pos r k : Nat} (h : pos < s.size) (hr : (first ((bts s).drop pos)).num = r) (hk : (first ((bts s).drop pos)).bytes.length = k) (ty : TypeId) :
 (Instr.next (.pointer (some ⟨w.heap.size, 0, none⟩)) true ty).run Tryz.prog (w.iter s pos) = .ok (.tuple #[.bool true, .int .i64 pos, .int .i32 r]) (w.iter s (pos + k)) := by
 rw [run_next_any w s pos ty h, decode_first, hr, hk]
def begRet (b : Bool) : Int := if b then 0 else 11
theorem fine_first {p : Pc} : p.fine = (!decide (p.num < 32) && !decide (p.num = 127) && !p.alone) := by
 cases p with
 | lone b => simp [Pc.fine, Pc.alone]
 | rune c =>
   show _ = ((!decide (c < 32) && !decide (c = 127)) && !false);rw [Bool.not_false, Bool.and_true];rfl
theorem begin_any (s : ByteArray) (w : World) :
 Calls Tryz.prog 171 #[.string s] w fun e w' => e = .returned (.int .i64 (begRet (beg (bts s)))) ∧ Below w.heap.size w w' := by
 go_enter Tryz.func171, Tryz.ntmps171
 go_wp2
 go_loopw [3] (fun n w' => ∃ (pos k : Nat), w' = w.iter s pos ∧ n = .int .i64 k ∧ beg (bts s) = (decide (k + (rest s pos).length ≤ 32) && (rest s pos).all Pc.fine) ∧ k ≤ 32 ∧ pos ≤ s.size) (fun _ w' => s.size - w'.iterPos w.heap.size)
 case atStart => exact ⟨0, 0, rfl, rfl, by rw [rest_zero, Nat.zero_add]; rfl, by omega, Nat.zero_le _⟩
 case round =>
  obtain ⟨pos, k, rfl, rfl, hc, hkp, hps⟩ := hrel;by_cases hp : pos < s.size
  · obtain ⟨r, hr⟩ : ∃ r, (first ((bts s).drop pos)).num = r := ⟨_, rfl⟩
    obtain ⟨m, hm⟩ : ∃ m, (first ((bts s).drop pos)).bytes.length = m := ⟨_, rfl⟩
    obtain ⟨al, hal⟩ : ∃ al, (first ((bts s).drop pos)).alone = al := ⟨_, rfl⟩
    have hnx := fun ty => next_any (w := w) hp hr hm ty;have hm1 := bytes_len (first ((bts s).drop pos));have hle := rest_le hp;have hrm := rest_more hp;have hfi := fine_first (p := first ((bts s).drop pos));have hcall := alone_any (r : Int) (s.extract pos s.size) (w.iter s (pos + m));have hfir := alone_first hp;rw [hr, hal] at hfir;rw [hfir] at hcall;rw [hm] at hm1 hle hrm;rw [hr, hal] at hfi;rw [hrm, List.all_cons, hfi, List.length_cons] at hc;have HH := hid hc;have HC := hid hcall;clear hc hrm hr hm hfi hfir hcall hal;by_cases h1 : k + 1 ≤ 32
    · have b1 : decide ((k : Int) + 1 > 32) = false := by simp; omega
      by_cases h2 : r < 32
      · have b2 : decide ((r : Int) < 32) = true := by simp; omega
        have hfin : begRet (beg (bts s)) = 11 := (by rw [HH.out]; simp [h2, begRet]);have HF := hid hfin;clear hfin;go_wp2_with (go_at_call 193; refine HC.out.mono ?_; rintro e w' ⟨rfl, rfl⟩)
        go_ret;exact ⟨ret_int HF.out.symm, below_iter _ _ _⟩
      · have b2 : decide ((r : Int) < 32) = false := by simp; omega
        by_cases h3 : r = 127
        · have b3 : ((r : Int) == 127) = true := by simp; omega
          have hfin : begRet (beg (bts s)) = 11 := (by rw [HH.out]; simp [h3, begRet]);have HF := hid hfin;clear hfin h3;go_wp2_with (go_at_call 193; refine HC.out.mono ?_; rintro e w' ⟨rfl, rfl⟩)
          go_ret;exact ⟨ret_int HF.out.symm, below_iter _ _ _⟩
        · have b3 : ((r : Int) == 127) = false := by simp; omega
          cases al with
          | true =>
            have hfin : begRet (beg (bts s)) = 11 := (by rw [HH.out]; simp [begRet]);have HF := hid hfin;clear hfin;go_wp2_with (go_at_call 193; refine HC.out.mono ?_; rintro e w' ⟨rfl, rfl⟩)
            go_ret;exact ⟨ret_int HF.out.symm, below_iter _ _ _⟩
          | false =>
            go_wp2_with (go_at_call 193; refine HC.out.mono ?_; rintro e w' ⟨rfl, rfl⟩)
            go_roundw
            case rel =>
             refine ⟨pos + m, k + 1, rfl, by simp, ?_, by omega, by omega⟩;have e : k + ((rest s (pos + m)).length + 1) = k + 1 + (rest s (pos + m)).length := (by omega);rw [HH.out, e];simp [h2, h3]
            case measure =>
             simp;omega
    · have b1 : decide ((k : Int) + 1 > 32) = true := by simp; omega
      have hfin : begRet (beg (bts s)) = 11 := by
       rw [HH.out];have : ¬ (k + ((rest s (pos + m)).length + 1) ≤ 32) := (by omega);simp [this, begRet]
      have HF := hid hfin;clear hfin;go_wp2_with (go_at_call 193; refine HC.out.mono ?_; rintro e w' ⟨rfl, rfl⟩)
      go_ret;exact ⟨ret_int HF.out.symm, below_iter _ _ _⟩
  · have hnx : ∀ ty, (Instr.next (.pointer (some ⟨w.heap.size, 0, none⟩)) true ty).run Tryz.prog (w.iter s pos) = _ := fun ty => run_next_end w s pos ty hp
    rw [rest_end hp] at hc;have hfin : begRet (beg (bts s)) = 0 := (by rw [hc]; simp [begRet, hkp]);have HF := hid hfin;clear hc hfin
    go_wp2
    go_ret;exact ⟨ret_int HF.out.symm, below_iter _ _ _⟩
def key (l : List Nat) : Bool := !l.isEmpty && beg l
theorem empty_tell (s : ByteArray) : s.toList.isEmpty = (bts s).isEmpty := by
 rw [Lib.toList_data, bts];cases s.data.toList <;> rfl
theorem key_any (s : ByteArray) (w : World) : Calls Tryz.prog 172 #[.string s] w fun e w' => e = .returned (.int .i64 (begRet (key (bts s)))) ∧ Below w.heap.size w w' := by
 have hb := begin_any s w;have HB := hid hb;clear hb;cases h : s.toList.isEmpty with
 | true =>
   have hk : begRet (key (bts s)) = 11 := by
    rw [empty_tell] at h;simp [key, h, begRet]
   have HK := hid hk;clear hk;go_enter Tryz.func172, Tryz.ntmps172
   go_wp2
   go_ret;exact ⟨ret_int HK.out.symm, Below.refl _ _⟩
 | false =>
   have hk : begRet (key (bts s)) = begRet (beg (bts s)) := by
    rw [empty_tell] at h;simp [key, h]
   rw [hk];clear hk;go_enter Tryz.func172, Tryz.ntmps172
   go_wp2_with (go_at_call 171; refine HB.out.mono ?_; rintro e w' ⟨rfl, hw⟩)
   go_ret;exact ⟨rfl, hw⟩
end Go.Proofs.YtkejjdoaljoooaaGreatDoor
/- A text's byte, and what else the document's runes need; of no function of runes alone. -/
namespace Go.Proofs.YtkejjdoaljoooaaGreatDoor
open Lib (hid)
open Go.RowKit Mem Run
end Go.Proofs.YtkejjdoaljoooaaGreatDoor
