/-
  Texts as lists of bytes, of no program: what is joined, cut, compared and turned of a text, in words of its bytes.
-/
import Derived.Test.YtccbkpdkmdnmfaaMem
import Derived.Lib.ConvBytes
import Derived.Lib.AppendStr
import Derived.Laws.BytesArg
import Derived.Lib.Strings
namespace Go.Proofs.Ytccbkpdkmdnmfaa.Mem
open Go.RowKit

/-- The bytes of a text; a text of bytes. -/
def bts (s : ByteArray) : List Nat := s.data.toList.map (·.toNat)
def txt (l : List Nat) : ByteArray := ⟨(l.map UInt8.ofNat).toArray⟩
theorem length_bts (s : ByteArray) : (bts s).length = s.size := by simp [bts]
theorem size_txt (l : List Nat) : (txt l).size = l.length := by
  show (txt l).data.size = _
  simp [txt]
theorem bts_lt (s : ByteArray) : ∀ b ∈ bts s, b < 256 := by
  intro b hb
  obtain ⟨u, _, rfl⟩ := List.mem_map.1 hb
  exact u.toNat_lt
theorem txt_bts (s : ByteArray) : txt (bts s) = s := by
  cases s with
  | mk d =>
    have e : ((UInt8.ofNat ∘ fun x : UInt8 => x.toNat) : UInt8 → UInt8) = id := by funext u; simp [Function.comp]
    simp only [txt, bts, List.map_map]
    rw [e, List.map_id]
theorem bts_txt (l : List Nat) (h : ∀ b ∈ l, b < 256) : bts (txt l) = l := by
  simp only [bts, txt, List.map_map]
  conv => rhs; rw [← List.map_id l]
  refine List.map_congr_left fun b hb => ?_
  have := h b hb
  simp [Function.comp, UInt8.toNat_ofNat', Nat.mod_eq_of_lt this]
theorem bts_inj {a b : ByteArray} (h : bts a = bts b) : a = b := by rw [← txt_bts a, ← txt_bts b, h]
theorem bts_append (a b : ByteArray) : bts (a ++ b) = bts a ++ bts b := by
  simp [bts, ByteArray.data_append]
theorem bts_extract (s : ByteArray) (i j : Nat) : bts (s.extract i j) = ((bts s).drop i).take (j - i) := by
  simp only [bts, Lib.extract_data, List.map_take, List.map_drop]
theorem bts_tail (s : ByteArray) (i : Nat) : bts (s.extract i s.size) = (bts s).drop i := by
  rw [bts_extract, List.take_of_length_le]
  rw [List.length_drop, length_bts]
  exact Nat.le_refl _
theorem eq_tell (a b : ByteArray) : (a.toList == b.toList) = decide (bts a = bts b) := by
  rw [Lib.toList_data, Lib.toList_data]
  by_cases h : bts a = bts b
  · cases bts_inj h
    simp
  · simp only [h, decide_false]
    rw [beq_eq_false_iff_ne]
    intro e
    exact h (by simp only [bts, e])
theorem size_bts {s : ByteArray} {l : List Nat} (h : bts s = l) : s.size = l.length := by rw [← h, length_bts]
theorem at_bts (s : ByteArray) (i : Nat) (h : i < s.size) : (s[i]'h).toNat = (bts s).getD i 0 := by
  have h' : i < s.data.size := h
  have e : s.data[i]? = some s.data[i] := Array.getElem?_eq_getElem h'
  simp [bts, List.getD, ByteArray.getElem_eq_getElem_data, e]
theorem get_bts (s : ByteArray) (i : Nat) : (s.get! i).toNat = (bts s).getD i 0 := by
  by_cases h : i < s.size
  · rw [← at_bts s i h]
    simp [ByteArray.get!, getElem!_pos, h]
    rfl
  · simp [ByteArray.get!, bts, List.getD, getElem!_neg, h]
    rfl
theorem strCells_bts (s : ByteArray) : Lib.strCells s = cs (bts s) := by
  simp [Lib.strCells, cs, bts, List.map_map, Function.comp_def]

/-- '[]byte(s)': what it reads as, and that all else stays. -/
theorem Rd.ofText (w : World) (e : TypeId) (s : ByteArray) (hs : s.size ≤ maxLen) : Rd (Lib.bytesWorld w e s) (some ⟨w.heap.size, 0, none⟩) s.size (grownCap w s.size 0 e) (cs (bts s)) := by
  refine ⟨by rw [length_cs, length_bts], grownCap_ge _ _ _ _, grownCap_le_maxLen _ _ _ _ hs, (fun e => by cases e), fun _ => ⟨_, rfl, by rw [Lib.bytesWorld_size]; exact Nat.lt_succ_self _, fun j u hu => ?_⟩⟩
  have hj : j < s.size := by
    have := (List.getElem?_eq_some_iff.1 hu).1
    rwa [length_cs, length_bts] at this
  rw [Addr.add_lit, Nat.zero_add, Lib.bytesWorld_cell w e s j hj]
  simp only [cs, bts, List.map_map, List.getElem?_map, Option.map_eq_some_iff] at hu
  obtain ⟨b, hb, rfl⟩ := hu
  simp [List.getD, hb]
theorem below_ofText (w : World) (e : TypeId) (s : ByteArray) : Below w.heap.size w (Lib.bytesWorld w e s) :=
  ⟨rfl, rfl, rfl, by rw [Lib.bytesWorld_size]; omega, fun i hi => Lib.bytesWorld_at_old w e s i hi⟩

/-- 'string(b)'. -/
theorem run_text {P : Program} {w : World} (src dst e : TypeId) (hs : P.underlying src = some (.slice e)) (he : P.underlying e = some (.int .u8)) (hd : P.underlying dst = some .string)
    {A : Option Addr} {n c : Nat} {bs : List Nat} (hr : Rd w A n c (cs bs)) : (convert src dst (.slice A n c)).run P w = .ok (.string (txt bs)) w := by
  have hl := hr.len
  rw [length_cs] at hl
  rcases A with _ | ad
  · have h0 := hr.none0 rfl
    have hb : bs = [] := List.eq_nil_of_length_eq_zero (by omega)
    subst hb
    rw [run_convert_bytes_nil w src e hs he _ _ dst hd]
    rfl
  · have hcs : cs bs = (bs.map fun b => ((b : Nat) : Int)).map (Value.int .u8) := by simp [cs, List.map_map, Function.comp_def]
    have h1 := run_loadCells_list (P := P) w ad (cs bs) (hr.cells ad rfl)
    rw [length_cs, hl, hcs] at h1
    rw [run_convert_bytes_string w src dst e _ n c hs he hd, run_bytesToString w _ n c _ h1, foldl_push_bytes]
    simp [txt, List.map_map, Function.comp_def, ByteArray.empty, ByteArray.emptyWithCapacity]
    rfl

end Go.Proofs.Ytccbkpdkmdnmfaa.Mem
