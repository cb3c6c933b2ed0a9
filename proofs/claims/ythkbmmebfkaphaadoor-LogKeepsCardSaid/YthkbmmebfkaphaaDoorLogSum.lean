/-
  Texts of earlier layers, as one.
-/
import Derived.Test.YthkbmmebfkaphaaDoorRBase
import Derived.Test.YthkbmmebfkaphaaDoorRNum
import Derived.Test.YthkbmmebfkaphaaDoorRCrc
import Derived.Test.YthkbmmebfkaphaaDoorLogPlain
import Derived.Deep.Cut
/- The program's sum of a record and of its number's form, as an array of four bytes. -/
namespace Go.Proofs.YthkbmmebfkaphaaDoor.Lg
open Go.RowKit Mem

/-- Four bytes as an array's value. -/
def arr (l : List Nat) : Value := .agg (cs l).toArray
def SumArr (s : Nat) (w : World) (e : Ending) (w' : World) : Prop := e = .returned (arr (be s)) ∧ Below w.heap.size w w'
theorem lmark_lt {p q : List Nat} (hp : ∀ b ∈ p, b < 256) (hq : ∀ b ∈ q, b < 256) : ∀ b ∈ p ++ q, b < 256 := fun b hb => (List.mem_append.1 hb).elim (hp b) (hq b)

set_option maxRecDepth 20000 in
set_option maxHeartbeats 2000000 in
theorem lsum_any (A : Option Addr) (n c : Nat) (p : List Nat) (B : Option Addr) (m d : Nat) (q : List Nat) (w : World) (ht : Cr.Tab w) (hp : Rd w A n c (cs p)) (lp : ∀ b ∈ p, b < 256) (hq : Rd w B m d (cs q)) (lq : ∀ b ∈ q, b < 256) :
    Calls Tryd.prog 32 #[.slice A n c, .slice B m d] w (SumArr (Crc.sum (p ++ q)) w) := by
  have hb1 := bel_alloc (Below.refl w.heap.size w) (.cells #[.int .u8 0, .int .u8 0, .int .u8 0, .int .u8 0] 68)
  have hblk := Blk.new w 68 #[.int .u8 0, .int .u8 0, .int .u8 0, .int .u8 0]
  have hsz1 := size_alloc w (.cells #[.int .u8 0, .int .u8 0, .int .u8 0, .int .u8 0] 68)
  obtain ⟨W, hW⟩ : ∃ W, w.alloc (.cells #[.int .u8 0, .int .u8 0, .int .u8 0, .int .u8 0] 68) = W := ⟨_, rfl⟩
  rw [hW] at hb1 hblk hsz1
  have hm := Cr.Mat.lit W [⟨A, n, c, p⟩, ⟨B, m, d, q⟩] 32 2 rfl (by simp [maxLen]) (by
    intro x hx
    simp only [List.mem_cons, List.not_mem_nil, or_false] at hx
    rcases hx with rfl | rfl
    · exact ⟨hp.below hb1, lp⟩
    · exact ⟨hq.below hb1, lq⟩)
  have hs := Cr.sum_any _ 2 2 _ _ ((ht.below hb1).alloc _) hm
  have e : Cr.bytes [⟨A, n, c, p⟩, ⟨B, m, d, q⟩] = p ++ q := by simp [Cr.bytes]
  rw [e] at hs
  have hlt := Crc.sum_lt (p ++ q) (lmark_lt lp lq)
  generalize Crc.sum (p ++ q) = s at hs hlt ⊢
  have hb2 := bel_alloc hb1 (.cells #[.slice A n c, .slice B m d] 32)
  have hblk2 := hblk.alloc (.cells #[.slice A n c, .slice B m d] 32)
  have hs' : Calls Tryd.prog 52 #[.slice (some ⟨W.heap.size, 0, none⟩) 2 2] (W.alloc (.cells #[.slice A n c, .slice B m d] 32)) (Cr.SumIs s (W.alloc (.cells #[.slice A n c, .slice B m d] 32))) := hs
  rw [hsz1] at hs'
  have HS := Lib.hid hs'
  have HB := Lib.hid hb2
  have HW := Lib.hid hW
  have HK := Lib.hid hblk2
  clear hs hs' hb1 hb2 hblk hblk2 hm e ht hp lp hq lq hW hsz1
  go_enter Tryd.func32, Tryd.ntmps32
  go_wp2_with fail
  rw [HW.out]
  refine HS.out.mono ?_
  rintro e w2 ⟨rfl, rfl⟩
  go_wp2_with (first | fail | ((with_reducible refine wpList_store_blk rfl 68 _ _ rfl w.heap.size 68 #[.int .u8 0, .int .u8 0, .int .u8 0, .int .u8 0] #[.int .u8 ((s : Int) / 16777216), .int .u8 ((s : Int) / 65536 % 256), .int .u8 ((s : Int) / 256 % 256), .int .u8 ((s : Int) % 256)] ?_ ?_ HK.out ?_ ?_ ?_ ?_); (focus rfl); (focus rfl); (focus kernel_rfl); (focus rfl); (focus kernel_rfl); intro w3 hb3 hg3))
  refine bodyPost_ret (v := .agg #[.int .u8 ((s : Int) / 16777216), .int .u8 ((s : Int) / 65536 % 256), .int .u8 ((s : Int) / 256 % 256), .int .u8 ((s : Int) % 256)]) (results_blk Tryd.results32 _ _ w.heap.size 68 _ _ rfl hb3 Tryd.underlying68 rfl (by kernel_rfl)) rfl ?_
  refine ⟨?_, ?_⟩
  · have e1 : s / 16777216 % 256 = s / 16777216 := by omega
    simp [arr, be, cs, e1]
  · exact HB.out.grown hg3 HB.out.size fun k e => by cases e; exact Nat.le_refl _
end Go.Proofs.YthkbmmebfkaphaaDoor.Lg
