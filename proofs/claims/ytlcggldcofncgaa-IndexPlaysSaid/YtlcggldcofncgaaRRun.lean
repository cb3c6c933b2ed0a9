/-
  Texts of earlier layers, as one.
-/
import Derived.Test.YtlcggldcofncgaaRBase
import Derived.Lib.ConvBytes
import Derived.Lib.AppendStr
import Derived.Laws.BytesArg
import Derived.Lib.Strings
import GoSem.Core.Utf8
import Derived.Test.YtlcggldcofncgaaShelf
import Derived.WalkKit
import Derived.WalkLawsBesides
import Derived.Lib.OthersKept
/- Texts as lists of bytes, of no program: what is joined, cut, compared and turned of a text, in words of its bytes. -/
namespace Go.Proofs.Ytlcggldcofncgaa.Mem
open Go.RowKit

/-- The bytes of a text; a text of bytes. -/
def bts (s : ByteArray) : List Nat := s.data.toList.map (·.toNat)
def txt (l : List Nat) : ByteArray := ⟨(l.map UInt8.ofNat).toArray⟩
theorem length_bts (s : ByteArray) : (bts s).length = s.size := by simp [bts]
theorem size_txt (l : List Nat) : (txt l).size = l.length := by
  show (txt l).data.size = _
  simp [txt]
theorem bts_lt (s : ByteArray) : ∀ b ∈ bts s, b < 256 := by
  intro b hb
  obtain ⟨u, _, rfl⟩ := List.mem_map.1 hb
  exact u.toNat_lt
theorem txt_bts (s : ByteArray) : txt (bts s) = s := by
  cases s with
  | mk d =>
    have e : ((UInt8.ofNat ∘ fun x : UInt8 => x.toNat) : UInt8 → UInt8) = id := by funext u; simp [Function.comp]
    simp only [txt, bts, List.map_map]
    rw [e, List.map_id]
theorem bts_txt (l : List Nat) (h : ∀ b ∈ l, b < 256) : bts (txt l) = l := by
  simp only [bts, txt, List.map_map]
  conv => rhs; rw [← List.map_id l]
  refine List.map_congr_left fun b hb => ?_
  have := h b hb
  simp [Function.comp, UInt8.toNat_ofNat', Nat.mod_eq_of_lt this]
theorem bts_inj {a b : ByteArray} (h : bts a = bts b) : a = b := by rw [← txt_bts a, ← txt_bts b, h]
theorem bts_append (a b : ByteArray) : bts (a ++ b) = bts a ++ bts b := by
  simp [bts, ByteArray.data_append]
theorem bts_extract (s : ByteArray) (i j : Nat) : bts (s.extract i j) = ((bts s).drop i).take (j - i) := by
  simp only [bts, Lib.extract_data, List.map_take, List.map_drop]
theorem bts_tail (s : ByteArray) (i : Nat) : bts (s.extract i s.size) = (bts s).drop i := by
  rw [bts_extract, List.take_of_length_le]
  rw [List.length_drop, length_bts]
  exact Nat.le_refl _
theorem eq_tell (a b : ByteArray) : (a.toList == b.toList) = decide (bts a = bts b) := by
  rw [Lib.toList_data, Lib.toList_data]
  by_cases h : bts a = bts b
  · cases bts_inj h
    simp
  · simp only [h, decide_false]
    rw [beq_eq_false_iff_ne]
    intro e
    exact h (by simp only [bts, e])
theorem size_bts {s : ByteArray} {l : List Nat} (h : bts s = l) : s.size = l.length := by rw [← h, length_bts]
theorem at_bts (s : ByteArray) (i : Nat) (h : i < s.size) : (s[i]'h).toNat = (bts s).getD i 0 := by
  have h' : i < s.data.size := h
  have e : s.data[i]? = some s.data[i] := Array.getElem?_eq_getElem h'
  simp [bts, List.getD, ByteArray.getElem_eq_getElem_data, e]
theorem get_bts (s : ByteArray) (i : Nat) : (s.get! i).toNat = (bts s).getD i 0 := by
  by_cases h : i < s.size
  · rw [← at_bts s i h]
    simp [ByteArray.get!, getElem!_pos, h]
    rfl
  · simp [ByteArray.get!, bts, List.getD, getElem!_neg, h]
    rfl
theorem strCells_bts (s : ByteArray) : Lib.strCells s = cs (bts s) := by
  simp [Lib.strCells, cs, bts, List.map_map, Function.comp_def]

/-- '[]byte(s)': what it reads as, and that all else stays. -/
theorem Rd.ofText (w : World) (e : TypeId) (s : ByteArray) (hs : s.size ≤ maxLen) : Rd (Lib.bytesWorld w e s) (some ⟨w.heap.size, 0, none⟩) s.size (grownCap w s.size 0 e) (cs (bts s)) := by
  refine ⟨by rw [length_cs, length_bts], grownCap_ge _ _ _ _, grownCap_le_maxLen _ _ _ _ hs, (fun e => by cases e), fun _ => ⟨_, rfl, by rw [Lib.bytesWorld_size]; exact Nat.lt_succ_self _, fun j u hu => ?_⟩⟩
  have hj : j < s.size := by
    have := (List.getElem?_eq_some_iff.1 hu).1
    rwa [length_cs, length_bts] at this
  rw [Addr.add_lit, Nat.zero_add, Lib.bytesWorld_cell w e s j hj]
  simp only [cs, bts, List.map_map, List.getElem?_map, Option.map_eq_some_iff] at hu
  obtain ⟨b, hb, rfl⟩ := hu
  simp [List.getD, hb]
theorem below_ofText (w : World) (e : TypeId) (s : ByteArray) : Below w.heap.size w (Lib.bytesWorld w e s) :=
  ⟨rfl, rfl, rfl, by rw [Lib.bytesWorld_size]; omega, fun i hi => Lib.bytesWorld_at_old w e s i hi⟩

/-- 'string(b)'. -/
theorem run_text {P : Program} {w : World} (src dst e : TypeId) (hs : P.underlying src = some (.slice e)) (he : P.underlying e = some (.int .u8)) (hd : P.underlying dst = some .string)
    {A : Option Addr} {n c : Nat} {bs : List Nat} (hr : Rd w A n c (cs bs)) : (convert src dst (.slice A n c)).run P w = .ok (.string (txt bs)) w := by
  have hl := hr.len
  rw [length_cs] at hl
  rcases A with _ | ad
  · have h0 := hr.none0 rfl
    have hb : bs = [] := List.eq_nil_of_length_eq_zero (by omega)
    subst hb
    rw [run_convert_bytes_nil w src e hs he _ _ dst hd]
    rfl
  · have hcs : cs bs = (bs.map fun b => ((b : Nat) : Int)).map (Value.int .u8) := by simp [cs, List.map_map, Function.comp_def]
    have h1 := run_loadCells_list (P := P) w ad (cs bs) (hr.cells ad rfl)
    rw [length_cs, hl, hcs] at h1
    rw [run_convert_bytes_string w src dst e _ n c hs he hd, run_bytesToString w _ n c _ h1, foldl_push_bytes]
    simp [txt, List.map_map, Function.comp_def, ByteArray.empty, ByteArray.emptyWithCapacity]
    rfl

end Go.Proofs.Ytlcggldcofncgaa.Mem
/- Plain mathematics of layer 4 (runes), without any program: the pieces of a text (right runes, and bytes that stand alone), how they stand in quotes, digits to the base 16, and how these are read; what a text's pieces tell of two texts one behind the other. -/
namespace Go.Proofs.Ytlcggldcofncgaa.Run

/-- A piece of a text: a byte that stands alone, or a right rune. -/
inductive Pc where
  | lone (b : Nat)
  | rune (c : Nat)
  deriving DecidableEq

/-- A rune's bytes. -/
def enc (c : Nat) : List Nat :=
  if c < 128 then [c] else if c < 2048 then [192 + c / 64, 128 + c % 64]
  else if c < 65536 then [224 + c / 4096, 128 + c / 64 % 64, 128 + c % 64]
  else [240 + c / 262144, 128 + c / 4096 % 64, 128 + c / 64 % 64, 128 + c % 64]
/-- Right runes. -/
def fit (c : Nat) : Bool := c < 55296 || (57344 ≤ c && c ≤ 1114111)

namespace Pc
def bytes : Pc → List Nat | lone b => [b] | rune c => enc c
/-- What a range tells. -/
def num : Pc → Nat | lone _ => 65533 | rune c => c
/-- What the document's answer tells. -/
def val : Pc → Int | lone _ => -1 | rune c => c
def alone : Pc → Bool | lone _ => true | rune _ => false
/-- It can stand in a text. -/
def good : Pc → Prop | lone b => 128 ≤ b ∧ b < 256 | rune c => fit c = true
/-- It can stand in a key. -/
def fine : Pc → Bool | lone _ => false | rune c => !decide (c < 32) && !decide (c = 127)
end Pc

def tl (b : Nat) : Bool := 128 ≤ b && b < 192
/-- The piece with which four bytes begin (0: there is none any more). -/
def first4 (a b c d : Nat) : Pc :=
  if a < 128 then .rune a
  else if 194 ≤ a && a < 224 && tl b then .rune ((a - 192) * 64 + (b - 128))
  else if 224 ≤ a && a < 240 && tl b && tl c && 2048 ≤ (a - 224) * 4096 + (b - 128) * 64 + (c - 128) && fit ((a - 224) * 4096 + (b - 128) * 64 + (c - 128)) then .rune ((a - 224) * 4096 + (b - 128) * 64 + (c - 128))
  else if 240 ≤ a && a < 245 && tl b && tl c && tl d && 65536 ≤ (a - 240) * 262144 + (b - 128) * 4096 + (c - 128) * 64 + (d - 128) && fit ((a - 240) * 262144 + (b - 128) * 4096 + (c - 128) * 64 + (d - 128)) then .rune ((a - 240) * 262144 + (b - 128) * 4096 + (c - 128) * 64 + (d - 128))
  else .lone a
def first (l : List Nat) : Pc := first4 (l.getD 0 0) (l.getD 1 0) (l.getD 2 0) (l.getD 3 0)

theorem enc_one {c : Nat} (h : c < 128) : enc c = [c] := by simp [enc, h]
theorem enc_two {c : Nat} (h : 128 ≤ c) (h' : c < 2048) : enc c = [192 + c / 64, 128 + c % 64] := by
  simp [enc, show ¬ c < 128 by omega, h']
theorem enc_three {c : Nat} (h : 2048 ≤ c) (h' : c < 65536) : enc c = [224 + c / 4096, 128 + c / 64 % 64, 128 + c % 64] := by
  simp [enc, show ¬ c < 128 by omega, show ¬ c < 2048 by omega, h']
theorem enc_four {c : Nat} (h : 65536 ≤ c) : enc c = [240 + c / 262144, 128 + c / 4096 % 64, 128 + c / 64 % 64, 128 + c % 64] := by
  simp [enc, show ¬ c < 128 by omega, show ¬ c < 2048 by omega, show ¬ c < 65536 by omega]
theorem enc_len (c : Nat) : 1 ≤ (enc c).length ∧ (enc c).length ≤ 4 := by
  unfold enc
  split
  · simp
  · split
    · simp
    · split <;> simp
theorem bytes_len (p : Pc) : 1 ≤ p.bytes.length ∧ p.bytes.length ≤ 4 := by
  cases p with
  | lone b => simp [Pc.bytes]
  | rune c => exact enc_len c
theorem fit_iff (c : Nat) : fit c = true ↔ c < 55296 ∨ (57344 ≤ c ∧ c ≤ 1114111) := by simp [fit]
theorem tl_iff (b : Nat) : tl b = true ↔ 128 ≤ b ∧ b < 192 := by simp [tl]

theorem first_enc {c : Nat} (h : fit c = true) (t : List Nat) : first (enc c ++ t) = .rune c := by
  rw [fit_iff] at h
  by_cases h1 : c < 128
  · rw [enc_one h1]
    simp [first, first4, h1]
  by_cases h2 : c < 2048
  · rw [enc_two (by omega) h2]
    simp only [first, first4, List.cons_append, List.nil_append, List.getD_cons_zero, List.getD_cons_succ]
    rw [if_neg (by omega), if_pos (by simp [tl]; omega)]
    exact congrArg Pc.rune (by omega)
  by_cases h3 : c < 65536
  · rw [enc_three (by omega) h3]
    simp only [first, first4, List.cons_append, List.nil_append, List.getD_cons_zero, List.getD_cons_succ]
    have e : (224 + c / 4096 - 224) * 4096 + (128 + c / 64 % 64 - 128) * 64 + (128 + c % 64 - 128) = c := by omega
    rw [e, if_neg (by omega), if_neg (by simp [tl]; omega), if_pos]
    simp [tl, fit]
    omega
  · rw [enc_four (by omega)]
    simp only [first, first4, List.cons_append, List.nil_append, List.getD_cons_zero, List.getD_cons_succ]
    have e : (240 + c / 262144 - 240) * 262144 + (128 + c / 4096 % 64 - 128) * 4096 + (128 + c / 64 % 64 - 128) * 64 + (128 + c % 64 - 128) = c := by omega
    rw [e, if_neg (by omega), if_neg (by simp [tl]; omega), if_neg (by simp [tl]; omega), if_pos]
    simp [tl, fit]
    omega

theorem getD_tail {l : List Nat} {k : Nat} (h : l.getD k 0 ≠ 0) : k < l.length := by
  rcases Nat.lt_or_ge k l.length with h' | h'
  · exact h'
  · exact absurd (by simp [List.getD, h']) h
theorem four {l : List Nat} {n : Nat} (h : n ≤ l.length) : l.take n = (List.range n).map fun k => l.getD k 0 := by
  apply List.ext_getElem
  · simp; omega
  · intro i h1 h2
    simp at h1 h2
    simp [List.getD, show i < l.length by omega]

/-- What a text begins with, and that it is good. -/
theorem first_good {l : List Nat} (h0 : l ≠ []) (hb : ∀ b ∈ l, b < 256) : (first l).good := by
  have hlen : 0 < l.length := List.length_pos_iff.2 h0
  have hm : l.getD 0 0 ∈ l := by simp [List.getD, hlen]
  have hm' := hb _ hm
  unfold first first4
  split
  · exact (fit_iff _).2 (by omega)
  · split
    · rename_i h1 h2
      simp only [tl, Bool.and_eq_true, decide_eq_true_eq] at h2
      exact (fit_iff _).2 (by omega)
    · split
      · rename_i h3
        simp only [Bool.and_eq_true] at h3
        exact h3.2
      · split
        · rename_i h4
          simp only [Bool.and_eq_true] at h4
          exact h4.2
        · exact ⟨by omega, hm'⟩

theorem first_bytes {l : List Nat} (h0 : l ≠ []) : (first l).bytes = l.take (first l).bytes.length := by
  have hlen : 0 < l.length := List.length_pos_iff.2 h0
  unfold first first4
  split
  · rename_i h1
    rw [Pc.bytes, enc_one h1]
    rw [four (by simp; omega)]
    simp
  · split
    · rename_i h1 h2
      simp [tl] at h2
      have h3 := getD_tail (l := l) (k := 1) (by simp [List.getD]; omega)
      rw [Pc.bytes, enc_two (by simp [List.getD]; omega) (by simp [List.getD]; omega)]
      rw [four (by simp; omega)]
      simp [List.range_succ, List.getD]
      omega
    · split
      · rename_i h2 h3
        simp [tl] at h3
        have h4 := getD_tail (l := l) (k := 2) (by simp [List.getD]; omega)
        rw [Pc.bytes, enc_three (by simp [List.getD]; omega) (by simp [List.getD]; omega)]
        rw [four (by simp; omega)]
        simp [List.range_succ, List.getD]
        omega
      · split
        · rename_i h2 h3 h4
          simp [tl] at h4
          have h5 := getD_tail (l := l) (k := 3) (by simp [List.getD]; omega)
          rw [Pc.bytes, enc_four (by simp [List.getD]; omega)]
          rw [four (by simp; omega)]
          simp [List.range_succ, List.getD]
          omega
        · rw [Pc.bytes, four (by simp; omega)]
          simp
theorem first_split {l : List Nat} (h0 : l ≠ []) : l = (first l).bytes ++ l.drop (first l).bytes.length := by
  have := first_bytes h0
  conv => lhs; rw [← List.take_append_drop (first l).bytes.length l]
  rw [← this]
theorem first_le {l : List Nat} (h0 : l ≠ []) : (first l).bytes.length ≤ l.length := by
  have := congrArg List.length (first_bytes h0)
  rw [List.length_take] at this
  omega

/-- The pieces of a text. -/
def pcs : Nat → List Nat → List Pc
  | 0, _ => []
  | _ + 1, [] => []
  | f + 1, a :: l => first (a :: l) :: pcs f ((a :: l).drop (first (a :: l)).bytes.length)
def pieces (l : List Nat) : List Pc := pcs l.length l
theorem pcs_fuel : ∀ (f g : Nat) (l : List Nat), l.length ≤ f → l.length ≤ g → pcs f l = pcs g l
  | 0, g, l, hf, _ => by
    have : l = [] := List.eq_nil_of_length_eq_zero (by omega)
    subst this
    cases g <;> rfl
  | f + 1, 0, l, _, hg => by
    have : l = [] := List.eq_nil_of_length_eq_zero (by omega)
    subst this
    rfl
  | f + 1, g + 1, [], _, _ => rfl
  | f + 1, g + 1, a :: l, hf, hg => by
    have h1 := bytes_len (first (a :: l))
    simp only [pcs]
    rw [pcs_fuel f g _ (by simp at *; omega) (by simp at *; omega)]
theorem pieces_nil : pieces [] = [] := rfl
theorem pieces_cons {l : List Nat} (h : l ≠ []) : pieces l = first l :: pieces (l.drop (first l).bytes.length) := by
  cases l with
  | nil => exact absurd rfl h
  | cons a l =>
    have h1 := bytes_len (first (a :: l))
    simp only [pieces, List.length_cons, pcs]
    rw [pcs_fuel l.length _ _ (by simp; omega) (Nat.le_refl _)]

theorem by_pieces {M : List Nat → Prop} (h0 : M []) (h1 : ∀ l, l ≠ [] → M (l.drop (first l).bytes.length) → M l) : ∀ l, M l := by
  intro l
  induction hn : l.length using Nat.strongRecOn generalizing l with
  | _ n ih =>
    by_cases h : l = []
    · rw [h]; exact h0
    · have hl : 0 < l.length := List.length_pos_iff.2 h
      have hb := bytes_len (first l)
      exact h1 l h (ih _ (by rw [List.length_drop]; omega) _ rfl)
theorem join_pieces : ∀ l : List Nat, (pieces l).flatMap Pc.bytes = l :=
  by_pieces (by simp [pieces_nil]) fun l h ih => by
    rw [pieces_cons h, List.flatMap_cons, ih]
    exact (first_split h).symm
theorem pieces_good : ∀ l : List Nat, (∀ b ∈ l, b < 256) → ∀ p ∈ pieces l, p.good :=
  by_pieces (by simp [pieces_nil]) fun l h ih hb p hp => by
    rw [pieces_cons h] at hp
    rcases List.mem_cons.1 hp with rfl | hp
    · exact first_good h hb
    · exact ih (fun b hb' => hb b (List.mem_of_mem_drop hb')) p hp
theorem pieces_le : ∀ l : List Nat, (pieces l).length ≤ l.length :=
  by_pieces (by simp [pieces_nil]) fun l h ih => by
    have h1 := bytes_len (first l)
    have h2 := first_le h
    rw [pieces_cons h, List.length_cons]
    rw [List.length_drop] at ih
    omega

/-- Behind right runes what follows stands as if alone. -/
theorem pieces_append : ∀ l : List Nat, (∀ b ∈ l, b < 256) → (∀ p ∈ pieces l, p.alone = false) → ∀ t, pieces (l ++ t) = pieces l ++ pieces t :=
  by_pieces (by simp [pieces_nil]) fun l h ih hb ha t => by
    have hg := first_good h hb
    have hf := ha (first l) (by rw [pieces_cons h]; exact List.mem_cons_self)
    have hs := first_split h
    cases hp : first l with
    | lone b => rw [hp] at hf; cases hf
    | rune c =>
      rw [hp] at hg hs
      have e : first (l ++ t) = .rune c := by
        rw [hs, List.append_assoc]
        exact first_enc hg _
      have hne : l ++ t ≠ [] := by simp [h]
      have hle := first_le h
      rw [hp] at hle
      rw [pieces_cons hne, pieces_cons h, e, hp, List.drop_append_of_le_length hle]
      rw [hp] at ih
      rw [ih (fun b hb' => hb b (List.mem_of_mem_drop hb')) (fun p hp' => ha p (by rw [pieces_cons h, hp]; exact List.mem_cons_of_mem _ hp')) t]
      rfl

theorem begins_pieces (s t : List Nat) (ht : ∀ b ∈ t, b < 256) (ha : ∀ p ∈ pieces t, p.alone = false) : t <+: s ↔ pieces t <+: pieces s := by
  constructor
  · rintro ⟨x, rfl⟩
    rw [pieces_append t ht ha]
    exact List.prefix_append _ _
  · rintro ⟨x, hx⟩
    rw [← join_pieces t, ← join_pieces s, ← hx, List.flatMap_append]
    exact List.prefix_append _ _

/-- A byte that stands alone is told from the rune fffd. -/
theorem alone_tell {l : List Nat} (h : l ≠ []) : (first l).alone = (decide ((first l).num = 65533) && !decide ([239, 191, 189] <+: l)) := by
  have e : enc 65533 = [239, 191, 189] := by decide
  have hs := first_split h
  cases hp : first l with
  | lone b =>
    simp only [Pc.alone, Pc.num, decide_true, Bool.true_and]
    by_cases hx : [239, 191, 189] <+: l
    · obtain ⟨x, hx⟩ := hx
      rw [← e] at hx
      rw [← hx, first_enc (by decide)] at hp
      cases hp
    · simp [hx]
  | rune c =>
    simp only [Pc.alone, Pc.num]
    by_cases hc : c = 65533
    · subst hc
      rw [hp] at hs
      have : [239, 191, 189] <+: l := by rw [hs, Pc.bytes, e]; exact List.prefix_append _ _
      simp [this]
    · simp [hc]

/-- Whether it is a beginning. -/
def beg (l : List Nat) : Bool := decide ((pieces l).length ≤ 32) && (pieces l).all Pc.fine
theorem fine_alone {p : Pc} (h : p.fine = true) : p.alone = false := by cases p <;> simp_all [Pc.fine, Pc.alone]
theorem beg_alone {l : List Nat} (h : beg l = true) : ∀ p ∈ pieces l, p.alone = false := by
  simp only [beg, Bool.and_eq_true, List.all_eq_true] at h
  exact fun p hp => fine_alone (h.2 p hp)

/- ! ### Digits -/
def dg (n : Nat) : Nat := if n < 10 then 48 + n else 87 + n
def hexd (n : Nat) : List Nat := if _h : n < 16 then [dg n] else hexd (n / 16) ++ [dg (n % 16)]
termination_by n
decreasing_by omega
theorem hexd_low {n : Nat} (h : n < 16) : hexd n = [dg n] := by rw [hexd]; simp [h]
theorem hexd_more {n : Nat} (h : ¬ n < 16) : hexd n = hexd (n / 16) ++ [dg (n % 16)] := by rw [hexd]; simp [h]
theorem hexd_len : ∀ (k n : Nat), n < 16 ^ (k + 1) → 1 ≤ (hexd n).length ∧ (hexd n).length ≤ k + 1
  | 0, n, h => by rw [hexd_low (by simpa using h)]; simp
  | k + 1, n, h => by
    by_cases h1 : n < 16
    · rw [hexd_low h1]; simp
    · have := hexd_len k (n / 16) (by rw [Nat.pow_succ] at h; omega)
      rw [hexd_more h1]
      simp
      omega
theorem hexd_two {b : Nat} (h : 16 ≤ b) (h' : b < 256) : hexd b = [dg (b / 16), dg (b % 16)] := by
  rw [hexd_more (by omega), hexd_low (by omega)]
  rfl
def isdg (c : Nat) : Prop := (48 ≤ c ∧ c ≤ 57) ∨ (97 ≤ c ∧ c ≤ 102)
theorem dg_is {n : Nat} (h : n < 16) : isdg (dg n) := by unfold isdg dg; split <;> omega
theorem hexd_is (n : Nat) : ∀ c ∈ hexd n, isdg c := by
  induction n using Nat.strongRecOn with
  | _ n ih =>
    by_cases h : n < 16
    · rw [hexd_low h]
      intro c hc
      cases List.mem_singleton.1 hc
      exact dg_is h
    · rw [hexd_more h]
      intro c hc
      rcases List.mem_append.1 hc with hc | hc
      · exact ih _ (by omega) c hc
      · cases List.mem_singleton.1 hc
        exact dg_is (Nat.mod_lt _ (by omega))
/-- A digit's number, and a row of digits'. -/
def dv (c : Nat) : Option Nat := if 48 ≤ c ∧ c ≤ 57 then some (c - 48) else if 97 ≤ c ∧ c ≤ 102 then some (c - 87) else if 65 ≤ c ∧ c ≤ 70 then some (c - 55) else none
def pu (mx : Nat) : Nat → List Nat → Option Nat
  | n, [] => some n
  | n, c :: r => match dv c with | none => none | some d => if n * 16 + d ≤ mx then pu mx (n * 16 + d) r else none
theorem dv_dg {n : Nat} (h : n < 16) : dv (dg n) = some n := by
  unfold dg
  split
  · simp only [dv]
    rw [if_pos (by omega)]
    congr 1
    omega
  · simp only [dv]
    rw [if_neg (by omega), if_pos (by omega)]
    congr 1
    omega
theorem pu_append (mx : Nat) : ∀ (a b : List Nat) (n : Nat), pu mx n (a ++ b) = (pu mx n a).bind fun m => pu mx m b
  | [], _, _ => rfl
  | c :: a, b, n => by
    simp only [List.cons_append, pu]
    split
    · rfl
    · split
      · exact pu_append mx a b _
      · rfl
theorem pu_hexd (mx : Nat) (n : Nat) (h : n ≤ mx) : pu mx 0 (hexd n) = some n := by
  induction n using Nat.strongRecOn with
  | _ n ih =>
    by_cases h1 : n < 16
    · rw [hexd_low h1]
      simp [pu, dv_dg h1, h]
    · rw [hexd_more h1, pu_append, ih _ (by omega) (by omega)]
      have e : n / 16 * 16 + n % 16 = n := by omega
      simp [pu, dv_dg (Nat.mod_lt n (show 16 > 0 by omega)), e, h]

/- ! ### In quotes -/
def form : Pc → List Nat
  | .lone b => [92, 120] ++ hexd b
  | .rune c => if c = 34 ∨ c = 92 then [92, c] else if 32 ≤ c ∧ c ≤ 126 then [c] else [92, 117] ++ hexd c ++ [46]
def forms (ps : List Pc) : List Nat := ps.flatMap form
def quote (l : List Nat) : List Nat := 34 :: forms (pieces l) ++ [34]
theorem dg_lt {c : Nat} (h : isdg c) : c < 256 := by unfold isdg at h; omega
theorem form_lt {p : Pc} : p.good → ∀ b ∈ form p, b < 256 := by
  intro hg b hb
  cases p with
  | lone x =>
    simp only [form, List.cons_append, List.nil_append, List.mem_cons] at hb
    rcases hb with rfl | rfl | hb
    · omega
    · omega
    · exact dg_lt (hexd_is _ _ hb)
  | rune c =>
    simp only [form] at hb
    split at hb
    · rename_i h
      simp at hb
      rcases hb with rfl | rfl
      · omega
      · omega
    · split at hb
      · simp at hb
        omega
      · simp only [List.cons_append, List.nil_append, List.mem_cons, List.mem_append, List.not_mem_nil, or_false] at hb
        rcases hb with rfl | rfl | hb | rfl
        · omega
        · omega
        · exact dg_lt (hexd_is _ _ hb)
        · omega
theorem forms_lt {ps : List Pc} (h : ∀ p ∈ ps, p.good) : ∀ b ∈ forms ps, b < 256 := by
  intro b hb
  obtain ⟨p, hp, hb⟩ := List.mem_flatMap.1 hb
  exact form_lt (h p hp) b hb
theorem quote_lt {l : List Nat} (h : ∀ b ∈ l, b < 256) : ∀ b ∈ quote l, b < 256 := by
  intro b hb
  simp only [quote, List.cons_append, List.mem_cons, List.mem_append, List.not_mem_nil, or_false] at hb
  rcases hb with rfl | hb | rfl
  · omega
  · exact forms_lt (pieces_good l h) b hb
  · omega
theorem form_len {p : Pc} (h : p.good) : 1 ≤ (form p).length ∧ (form p).length ≤ 9 := by
  cases p with
  | lone b =>
    have := hexd_len 5 b (by simp [Pc.good] at h; omega)
    simp [form]; omega
  | rune c =>
    have hc : c ≤ 1114111 := by
      have := (fit_iff c).1 h
      omega
    have := hexd_len 5 c (by omega)
    simp only [form]
    split
    · simp
    · split
      · simp
      · simp; omega
theorem forms_len {ps : List Pc} (h : ∀ p ∈ ps, p.good) : ps.length ≤ (forms ps).length ∧ (forms ps).length ≤ 9 * ps.length := by
  induction ps with
  | nil => simp [forms]
  | cons p ps ih =>
    have h1 := form_len (h p List.mem_cons_self)
    have h2 := ih fun q hq => h q (List.mem_cons_of_mem _ hq)
    simp only [forms, List.flatMap_cons, List.length_append, List.length_cons] at *
    omega
theorem quote_len {l : List Nat} (h : ∀ b ∈ l, b < 256) : (quote l).length ≤ 9 * l.length + 2 := by
  have h1 := forms_len (pieces_good l h)
  have h2 := pieces_le l
  simp [quote]
  omega
theorem quote_append {s t : List Nat} (hs : ∀ b ∈ s, b < 256) (ha : ∀ p ∈ pieces s, p.alone = false) : quote (s ++ t) = (quote s).take ((quote s).length - 1) ++ (quote t).drop 1 := by
  have e : (quote s).take ((quote s).length - 1) = 34 :: forms (pieces s) := by
    rw [quote, List.length_append]
    exact List.take_left
  rw [e]
  simp [quote, pieces_append s hs ha, forms]

end Go.Proofs.Ytlcggldcofncgaa.Run
/- What a range over a text tells at a place (the model's own reading) is the piece with which the bytes from there on begin. -/
namespace Go.Proofs.Ytlcggldcofncgaa.Run
open Mem

theorem cont_tl {s : ByteArray} {i : Nat} : (decide (i < s.size) && ((s.get! i).toNat / 64 == 2)) = tl ((bts s).getD i 0) := by
  rw [get_bts]
  by_cases h : i < s.size
  · rw [Bool.eq_iff_iff]
    simp only [h, decide_true, Bool.true_and, beq_iff_eq, tl_iff]
    omega
  · have e : (bts s).getD i 0 = 0 := by simp [List.getD, length_bts, Nat.le_of_not_lt h]
    rw [e]
    simp [h, tl]

theorem valid_fit (c : Nat) : Utf8.valid (c : Int) = fit c := by
  rw [Bool.eq_iff_iff, fit_iff]
  simp only [Utf8.valid, Bool.or_eq_true, Bool.and_eq_true, decide_eq_true_eq]
  omega

theorem decode_first4 (s : ByteArray) (i : Nat) (a b c d : Nat) (ha : (bts s).getD i 0 = a) (hb : (bts s).getD (i + 1) 0 = b) (hc : (bts s).getD (i + 2) 0 = c) (hd : (bts s).getD (i + 3) 0 = d) (ha' : a < 256) (hb' : b < 256) (hc' : c < 256) (hd' : d < 256) :
    Utf8.decode s i = ((first4 a b c d).num, (first4 a b c d).bytes.length) := by
  unfold Utf8.decode
  simp only [cont_tl]
  simp only [get_bts, Nat.add_zero, ha, hb, hc, hd, valid_fit]
  by_cases h1 : a < 128
  · simp [first4, h1, Pc.num, Pc.bytes, enc_one h1]
  rw [if_neg h1]
  by_cases h2 : a < 192
  · rw [if_neg (by simp; omega), if_neg (by simp; omega), if_neg (by simp; omega)]
    have e : first4 a b c d = .lone a := by
      unfold first4
      rw [if_neg h1, if_neg (by simp; omega), if_neg (by simp; omega), if_neg (by simp; omega)]
    rw [e]
    rfl
  by_cases h3 : a < 224
  · by_cases ht : tl b = true
    · rw [if_pos (by simp [ht]; omega)]
      rw [tl_iff] at ht
      by_cases h4 : a < 194
      · rw [if_neg (by omega)]
        have e : first4 a b c d = .lone a := by
          unfold first4
          rw [if_neg h1, if_neg (by simp; omega), if_neg (by simp; omega), if_neg (by simp; omega)]
        rw [e]
        rfl
      · rw [if_pos (by omega)]
        have e : first4 a b c d = .rune ((a - 192) * 64 + (b - 128)) := by
          unfold first4
          rw [if_neg h1, if_pos (by simp [tl]; omega)]
        rw [e]
        simp only [Pc.num, Pc.bytes]
        rw [enc_two (by omega) (by omega)]
        exact Prod.ext (by show _ = _; omega) rfl
    · rw [if_neg (by simp [ht]), if_neg (by simp; omega), if_neg (by simp; omega)]
      have e : first4 a b c d = .lone a := by
        unfold first4
        rw [if_neg h1, if_neg (by simp [ht]), if_neg (by simp [ht]), if_neg (by simp [ht])]
      rw [e]
      rfl
  rw [if_neg (by simp; omega)]
  by_cases h4 : a < 240
  · by_cases ht : tl b = true ∧ tl c = true
    · rw [if_pos (by simp [ht]; omega)]
      have e2 : a % 16 * 4096 + b % 64 * 64 + c % 64 = (a - 224) * 4096 + (b - 128) * 64 + (c - 128) := by
        have h5 := (tl_iff _).1 ht.1
        have h6 := (tl_iff _).1 ht.2
        omega
      rw [e2]
      by_cases h7 : 2048 ≤ (a - 224) * 4096 + (b - 128) * 64 + (c - 128) ∧ fit ((a - 224) * 4096 + (b - 128) * 64 + (c - 128)) = true
      · rw [if_pos (by simp only [ge_iff_le, h7.1, h7.2, decide_true, Bool.and_self])]
        have h5 := (tl_iff _).1 ht.1
        have h6 := (tl_iff _).1 ht.2
        have e : first4 a b c d = .rune ((a - 224) * 4096 + (b - 128) * 64 + (c - 128)) := by
          unfold first4
          rw [if_neg h1, if_neg (by simp; omega), if_pos (by simp only [h7.1, h7.2, ht.1, ht.2, h4, decide_true, Bool.and_true]; simp; omega)]
        rw [e]
        simp only [Pc.num, Pc.bytes]
        rw [enc_three h7.1 (by omega)]
        rfl
      · have h8 : (decide (2048 ≤ (a - 224) * 4096 + (b - 128) * 64 + (c - 128)) && fit ((a - 224) * 4096 + (b - 128) * 64 + (c - 128))) = false := by
          rw [Bool.eq_false_iff]
          simpa using h7
        rw [if_neg (by simp only [ge_iff_le, h8]; simp)]
        have e : first4 a b c d = .lone a := by
          unfold first4
          rw [if_neg h1, if_neg (by simp; omega), if_neg (by rw [Bool.and_assoc, h8]; simp), if_neg (by simp; omega)]
        rw [e]
        rfl
    · have ht' : (tl b && tl c) = false := by
        rw [Bool.eq_false_iff]
        simpa using ht
      rw [if_neg (by rw [Bool.and_assoc, ht']; simp), if_neg (by simp; omega)]
      have e : first4 a b c d = .lone a := by
        unfold first4
        rw [if_neg h1, if_neg (by simp; omega), if_neg (by simp only [Bool.and_eq_true]; simp at ht'; simp; intro _ _ h5; simp [ht' h5]), if_neg (by simp; omega)]
      rw [e]
      rfl
  rw [if_neg (by simp; omega)]
  by_cases ht : a < 248 ∧ tl b = true ∧ tl c = true ∧ tl d = true
  · rw [if_pos (by simp [ht]; omega)]
    have h5 := (tl_iff _).1 ht.2.1
    have h6 := (tl_iff _).1 ht.2.2.1
    have h7 := (tl_iff _).1 ht.2.2.2
    have e2 : a % 8 * 262144 + b % 64 * 4096 + c % 64 * 64 + d % 64 = (a - 240) * 262144 + (b - 128) * 4096 + (c - 128) * 64 + (d - 128) := by omega
    rw [e2]
    by_cases h8 : 65536 ≤ (a - 240) * 262144 + (b - 128) * 4096 + (c - 128) * 64 + (d - 128) ∧ fit ((a - 240) * 262144 + (b - 128) * 4096 + (c - 128) * 64 + (d - 128)) = true
    · rw [if_pos (by simp only [ge_iff_le, h8.1, h8.2, decide_true, Bool.and_self])]
      have h9 := (fit_iff _).1 h8.2
      have e : first4 a b c d = .rune ((a - 240) * 262144 + (b - 128) * 4096 + (c - 128) * 64 + (d - 128)) := by
        unfold first4
        rw [if_neg h1, if_neg (by simp; omega), if_neg (by simp; omega), if_pos (by simp only [h8.1, h8.2, ht.2.1, ht.2.2.1, ht.2.2.2, decide_true, Bool.and_true]; simp; omega)]
      rw [e]
      simp only [Pc.num, Pc.bytes]
      rw [enc_four h8.1]
      rfl
    · have h9 : (decide (65536 ≤ (a - 240) * 262144 + (b - 128) * 4096 + (c - 128) * 64 + (d - 128)) && fit ((a - 240) * 262144 + (b - 128) * 4096 + (c - 128) * 64 + (d - 128))) = false := by
        rw [Bool.eq_false_iff]
        simpa using h8
      rw [if_neg (by simp only [ge_iff_le, h9]; simp)]
      have e : first4 a b c d = .lone a := by
        unfold first4
        rw [if_neg h1, if_neg (by simp; omega), if_neg (by simp; omega), if_neg (by rw [Bool.and_assoc, h9]; simp)]
      rw [e]
      rfl
  · rw [if_neg (by simp only [Bool.and_eq_true, beq_iff_eq]; rintro ⟨⟨⟨h5, h6⟩, h7⟩, h8⟩; exact ht ⟨by omega, h6, h7, h8⟩)]
    have e : first4 a b c d = .lone a := by
      unfold first4
      rw [if_neg h1, if_neg (by simp; omega), if_neg (by simp; omega), if_neg]
      simp only [Bool.and_eq_true, decide_eq_true_eq]
      rintro ⟨⟨⟨⟨⟨⟨_, h5⟩, h6⟩, h7⟩, h8⟩, _⟩, _⟩
      exact ht ⟨by omega, h6, h7, h8⟩
    rw [e]
    rfl

theorem getD_lt (s : ByteArray) (k : Nat) : (bts s).getD k 0 < 256 := by
  rw [← get_bts]
  exact UInt8.toNat_lt _
theorem getD_drop (l : List Nat) (i k : Nat) : (l.drop i).getD k 0 = l.getD (i + k) 0 := by
  simp [List.getD]
theorem decode_first (s : ByteArray) (i : Nat) : Utf8.decode s i = ((first ((bts s).drop i)).num, (first ((bts s).drop i)).bytes.length) := by
  rw [decode_first4 s i _ _ _ _ rfl rfl rfl rfl (getD_lt _ _) (getD_lt _ _) (getD_lt _ _) (getD_lt _ _)]
  simp only [first, getD_drop, Nat.add_zero]
theorem drop_ne {s : ByteArray} {i : Nat} (h : i < s.size) : (bts s).drop i ≠ [] := by
  intro e
  have := congrArg List.length e
  rw [List.length_drop, length_bts] at this
  simp at this
  omega
theorem drop_all {s : ByteArray} {i : Nat} (h : ¬ i < s.size) : (bts s).drop i = [] := by
  apply List.drop_eq_nil_of_le
  rw [length_bts]
  omega
theorem drop_lt (s : ByteArray) (i : Nat) : ∀ b ∈ (bts s).drop i, b < 256 := fun b hb => bts_lt s b (List.mem_of_mem_drop hb)

/-- The rest of the pieces behind a place. -/
def rest (s : ByteArray) (i : Nat) : List Pc := pieces ((bts s).drop i)
theorem rest_zero (s : ByteArray) : rest s 0 = pieces (bts s) := rfl
theorem rest_end {s : ByteArray} {i : Nat} (h : ¬ i < s.size) : rest s i = [] := by rw [rest, drop_all h]; rfl
theorem rest_more {s : ByteArray} {i : Nat} (h : i < s.size) : rest s i = first ((bts s).drop i) :: rest s (i + (first ((bts s).drop i)).bytes.length) := by
  rw [rest, pieces_cons (drop_ne h), List.drop_drop]
  rfl
theorem rest_le {s : ByteArray} {i : Nat} (h : i < s.size) : i + (first ((bts s).drop i)).bytes.length ≤ s.size := by
  have := first_le (drop_ne h)
  rw [List.length_drop, length_bts] at this
  omega
end Go.Proofs.Ytlcggldcofncgaa.Run
/- runes.alone, Count, Beginning, Key, Begins: what they answer, in words of the text's pieces; what was there stays. -/
namespace Go.Proofs.Ytlcggldcofncgaa
open Go.RowKit Mem Run

theorem prefix_tell (s p : ByteArray) : Lib.hasPrefix s.data.toList p.data.toList = decide (bts p <+: bts s) := by
  rw [Bool.eq_iff_iff]
  simp only [Lib.hasPrefix, decide_eq_true_eq, List.isPrefixOf_iff_prefix]
  constructor
  · rintro ⟨t, ht⟩
    exact ⟨t.map (·.toNat), by simp only [bts, ← ht, List.map_append]⟩
  · rintro ⟨t, ht⟩
    have h1 : (bts s).take p.size = bts p := by rw [← ht, ← length_bts]; exact List.take_left
    have h2 : bts (s.extract 0 p.size) = bts p := by rw [bts_extract, List.drop_zero, Nat.sub_zero, h1]
    have h3 := bts_inj h2
    rw [← h3, Lib.extract_data, List.drop_zero]
    exact List.take_prefix _ _
theorem hasp_any (s p : ByteArray) (w : World) : Calls Try.prog 57 #[.string s, .string p] w fun e w' => e = .returned (.bool (decide (bts p <+: bts s))) ∧ w = w' := by
  refine (Try.strings_HasPrefix s p w).mono ?_
  rintro e w' ⟨rfl, rfl⟩
  exact ⟨by rw [prefix_tell], rfl⟩

theorem ret_int {k : IntKind} {a b : Int} (h : a = b) : Ending.returned (.int k a) = .returned (.int k b) := by rw [h]
theorem ret_bool {a b : Bool} (h : a = b) : Ending.returned (.bool a) = .returned (.bool b) := by rw [h]

/-- The bytes of the rune fffd. -/
def fffd (s : ByteArray) : Bool := decide ([239, 191, 189] <+: bts s)
theorem alone_first {s : ByteArray} {i : Nat} (h : i < s.size) : ((((first ((bts s).drop i)).num : Nat) : Int) == 65533 && !fffd (s.extract i s.size)) = (first ((bts s).drop i)).alone := by
  rw [alone_tell (drop_ne h), fffd, bts_tail]
  congr 1
  rw [Bool.eq_iff_iff]
  simp
  omega

theorem below_iter (w : World) (s : ByteArray) (pos : Nat) : Below w.heap.size w (w.iter s pos) := (Below.refl _ w).alloc (Nat.le_refl _) _
theorem next_any {w : World} {s : ByteArray} {pos r k : Nat} (h : pos < s.size) (hr : (first ((bts s).drop pos)).num = r) (hk : (first ((bts s).drop pos)).bytes.length = k) (ty : TypeId) :
    (Instr.next (.pointer (some ⟨w.heap.size, 0, none⟩)) true ty).run Try.prog (w.iter s pos) = .ok (.tuple #[.bool true, .int .i64 pos, .int .i32 r]) (w.iter s (pos + k)) := by
  rw [run_next_any w s pos ty h, decode_first, hr, hk]

/-- Beginning. -/
def begRet (b : Bool) : Int := if b then 0 else 11
theorem fine_first {p : Pc} : p.fine = (!decide (p.num < 32) && !decide (p.num = 127) && !p.alone) := by
  cases p with
  | lone b => simp [Pc.fine, Pc.alone]
  | rune c =>
    show _ = ((!decide (c < 32) && !decide (c = 127)) && !false)
    rw [Bool.not_false, Bool.and_true]
    rfl
/-- Key. -/
def key (l : List Nat) : Bool := !l.isEmpty && beg l
theorem empty_tell (s : ByteArray) : s.toList.isEmpty = (bts s).isEmpty := by
  rw [Lib.toList_data, bts]
  cases s.data.toList <;> rfl
/-- Begins. -/
theorem begins_any (s t : ByteArray) (w : World) : Calls Try.prog 48 #[.string s, .string t] w fun e w' => e = .returned (.bool (decide (bts t <+: bts s))) ∧ w = w' := by
  have hb := hasp_any s t w
  have HB := Lib.hid hb
  clear hb
  go_enter Try.func48, Try.ntmps48
  go_wp2_with (go_at_call 57; refine HB.out.mono ?_; rintro e w' ⟨rfl, rfl⟩)
  go_ret
  exact ⟨rfl, rfl⟩
end Go.Proofs.Ytlcggldcofncgaa
/- A text's byte, and what else the document's runes need; of no function of runes alone. -/
namespace Go.Proofs.Ytlcggldcofncgaa
open Go.RowKit Mem Run

/-- A text's byte. -/
theorem byte_at (s : ByteArray) (k : IntKind) (i : Nat) {b : Nat} (h : i < s.size) (hb : (bts s).getD i 0 = b) (w : World) : (Instr.index 9 (.string s) (.int k (i : Int))).run Try.prog w = .ok (.int .u8 (b : Int)) w := by
  rw [run_index_string w 9 _ k (i : Int) Try.underlying9, dif_pos (by omega), at_bts]
  rw [Int.toNat_natCast, hb]

theorem u8_ofNat (b : Nat) (h : b < 256) : IntKind.u8.wrap (b : Int) = (b : Int) := by rw [IntKind.wrap_u8]; omega

theorem own_len {w : World} {base : Nat} {v : Value} {n : Nat} {bs : List Nat} (h : w.ownsRow base 5 1 v n (cs bs)) : bs.length = n := by
  have := h.1
  rwa [length_cs, Nat.mul_one] at this

end Go.Proofs.Ytlcggldcofncgaa
