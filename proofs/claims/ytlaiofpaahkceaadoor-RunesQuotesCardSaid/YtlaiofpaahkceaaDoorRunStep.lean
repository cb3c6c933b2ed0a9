/-
  An append onto the call's own bytes, at a step of a region that draws its order.
-/
import Derived.Test.YtlaiofpaahkceaaDoorRunHex
import Derived.Deep.RegionLaw
namespace Go.Proofs.YtlaiofpaahkceaaDoor
open Go.RowKit Mem Run

theorem wp_append_kept {w : World} {o : Oper} {a : Act} {K : Act → World → Prop} {Q : Exit → Act → World → Prop} (s x : Operand)
    (ho : o.op = .call { callee := .builtin .append, args := #[s, x], argTypes := #[35, 35] })
    (base : Nat) (V : Option Addr) (n cv : Nat) (bs : List Nat) (hs : a.eval s = .slice V n cv) (hown : w.ownsRow base 5 1 (.slice V n cv) n (cs bs))
    (ad : Addr) (m c : Nat) (news : List Nat) (hx : a.eval x = .slice (some ad) m c) (hr : Rd w (some ad) m c (cs news))
    (h63 : n + m ≤ 70368744177664) (hbase : base ≤ w.heap.size)
    (h : ∀ V' c' w', w'.ownsRow base 5 1 (.slice V' (n + m) c') (n + m) (cs (bs ++ news)) → Kept base w w' → K (a.put o.dst (.slice V' (n + m) c')) w') : o.wp Tryd.prog a w K Q := by
  obtain ⟨i0, hi, hz0, hz1, hz2⟩ := info_parts info5
  refine wp_append_own w s x 35 ho base 5 i0 _ 1 1 Tryd.underlying35 hi hz0 hz1 hz2 rfl (by omega) _ n (cs bs) hs hown ad m c (cs news) hx (by rw [hr.len, Nat.mul_one]) (hr.cells _ rfl) (cs_one _) (by unfold maxLen; omega) (by omega) hbase
    fun v' w' hown' hg _ => ?_
  obtain ⟨V', c', rfl, _⟩ := Rd.of_own hown'
  rw [← cs_append] at hown'
  exact h V' c' w' hown' ⟨(Below.refl _ _).grown hg hbase fun k hk => (hown.lt k hk).1, (Lib.OthersKept.refl _ _ _).grown hg (own_cells hown)⟩
theorem step_append_kept {w : World} {ops : Array Oper} {o : Oper} {a : Act} {K : Act → World → Prop} {Q : Exit → Act → World → Prop} {E : Prop} (hgd : o.guard = none) (s x : Operand)
    (ho : o.op = .call { callee := .builtin .append, args := #[s, x], argTypes := #[35, 35] })
    (base : Nat) (V : Option Addr) (n cv : Nat) (bs : List Nat) (hs : a.eval s = .slice V n cv) (hown : w.ownsRow base 5 1 (.slice V n cv) n (cs bs))
    (ad : Addr) (m c : Nat) (news : List Nat) (hx : a.eval x = .slice (some ad) m c) (hr : Rd w (some ad) m c (cs news))
    (h63 : n + m ≤ 70368744177664) (hbase : base ≤ w.heap.size)
    (h : ∀ V' c' w', w'.ownsRow base 5 1 (.slice V' (n + m) c') (n + m) (cs (bs ++ news)) → Kept base w w' → K (a.put o.dst (.slice V' (n + m) c')) w') :
    if Region.wanted o (yielded ops a.tmps) = true then Oper.wp Tryd.prog o a w K Q else E := by
  have hw : Region.wanted o (yielded ops a.tmps) = true := by simp [Region.wanted, hgd]
  rw [if_pos hw]
  exact wp_append_kept s x ho base V n cv bs hs hown ad m c news hx hr h63 hbase h

/-- A text's byte. -/
theorem byte_at (s : ByteArray) (k : IntKind) (i : Nat) {b : Nat} (h : i < s.size) (hb : (bts s).getD i 0 = b) (w : World) : (Instr.index 9 (.string s) (.int k (i : Int))).run Tryd.prog w = .ok (.int .u8 (b : Int)) w := by
  rw [run_index_string w 9 _ k (i : Int) Tryd.underlying9, dif_pos (by omega), at_bts]
  rw [Int.toNat_natCast, hb]

theorem u8_ofNat (b : Nat) (h : b < 256) : IntKind.u8.wrap (b : Int) = (b : Int) := by rw [IntKind.wrap_u8]; omega

theorem own_len {w : World} {base : Nat} {v : Value} {n : Nat} {bs : List Nat} (h : w.ownsRow base 5 1 v n (cs bs)) : bs.length = n := by
  have := h.1
  rwa [length_cs, Nat.mul_one] at this

def Unq (base : Nat) (bs : List Nat) (w : World) (t : ByteArray) (ok : Bool) (e : Ending) (w' : World) : Prop :=
  ∃ V c, e = .returned (.tuple #[.slice V bs.length c, .string t, .bool ok]) ∧ w'.ownsRow base 5 1 (.slice V bs.length c) bs.length (cs bs) ∧ Below base w w'

theorem unq_plain (base n : Nat) (V : Option Addr) (c : Nat) (bs : List Nat) (s : ByteArray) (b : Nat) (w : World) (hown : w.ownsRow base 5 1 (.slice V n c) n (cs bs)) (hb : base ≤ w.heap.size) (hn : n ≤ 1099511627776) (h0 : 0 < s.size) (hb0 : (bts s).getD 0 0 = b) (h92 : b ≠ 92) :
    Calls Tryd.prog 25 #[.slice V n c, .string s] w (Unq base (bs ++ [b]) w (s.extract 1 s.size) true) := by
  have hix := byte_at s .i64 0 h0 hb0
  rw [show ((0 : Nat) : Int) = 0 from rfl] at hix
  have hne : ((b : Int) != 92) = true := by simp; omega
  have h1 : (1 : Int) ≤ (s.size : Int) := by omega
  have HO := Lib.hid hown
  have HB := Lib.hid hb0
  clear hown hb0
  go_enter Tryd.func25, Tryd.ntmps25
  go_wp2
  go_region_law (refine step_append_kept rfl (.tmp 18) (.tmp 21) rfl base V n c bs (by simp [Act.eval]) (HO.out.alloc _) ⟨w.heap.size, 0, none⟩ 1 1 [b] (by simp [Act.eval]) (Rd.few _ [b] _ _ rfl 1 rfl (by omega)).drew (by omega) (by simp; omega) ?_; intro V2 c2 w2 hown2 hk2)
  go_wp2
  go_ret3
  have e : (bs ++ [b]).length = n + 1 := by rw [List.length_append, own_len HO.out]; rfl
  refine ⟨V2, c2, by rw [e]; rfl, by rw [e]; exact hown2, (((Below.refl _ w).alloc hb _).drew).trans hk2.1⟩
end Go.Proofs.YtlaiofpaahkceaaDoor
