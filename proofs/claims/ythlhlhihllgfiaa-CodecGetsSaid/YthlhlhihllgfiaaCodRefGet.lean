/-
  The document's Get: the item that bytes are, or an error and its place.
-/
import Derived.Test.YthlhlhihllgfiaaCodRefTake
namespace Go.Proofs.Ythlhlhihllgfiaa
open Go.RowKit Mem Cod

theorem get_end {b : List Nat} {w w1 : World} {x : It} {A : Option Addr} {c er p : Nat} (hp : getX b = x ∧ getE b = er ∧ getP b = p) (hb : Below w.heap.size w w1) (hl : Lies w1 (fun b => w.heap.size ≤ b) x A c) :
    GetIs b w (.returned (.tuple #[.agg #[.int .i64 x.kind, .int .u64 (x.num : Int), .string x.str, .slice A x.kids.length c], .int .i64 (er : Int), .int .i64 (p : Int)])) w1 := by
  obtain ⟨rfl, rfl, rfl⟩ := hp
  exact ⟨A, c, rfl, hl, hb⟩

set_option maxRecDepth 100000 in
set_option maxHeartbeats 2000000 in
theorem refget_any (b : List Nat) (A : Option Addr) (n c : Nat) (w : World) (hr : Rd w A n c (cs b)) (hb : ∀ x ∈ b, x < 256) (hn : n ≤ 1000000) :
    Calls Try.prog 15 #[.slice A n c] w (GetIs b w) := by
  have hlb := hr.len
  rw [length_cs] at hlb
  have HR := Lib.hid hr
  have HB := Lib.hid hb
  have HLB := Lib.hid hlb
  clear hr hb hlb
  have hgt : decide ((1048576 : Int) < n) = false := by simp; omega
  go_enter Try.func15, Try.ntmps15
  go_wp2_with fail
  refine (reftk_any b A n c HB.out (by omega) 16 0 0 _ rfl (HR.out.alloc _) (Nat.zero_le _)).mono ?_
  rintro e w2 ⟨hb2, ⟨x, q, A2, cA, htk, rfl, hl2⟩ | ⟨er, q, htk, rfl⟩⟩
  · have hgood := tk_good HB.out (by have := HLB.out; omega) 16 0 x q (by omega) htk
    have hq : q ≤ n := by have := hgood.2.2.2.1; have := HLB.out; omega
    rw [size_alloc] at hl2
    have hk2 := ((Blk.new w 25 #[.int .i64 0, .int .u64 0, .string ⟨#[]⟩, .slice none 0 0]).bel hb2).alloc (.cells #[.int .i64 x.kind, .int .u64 (x.num : Int), .string x.str, .slice A2 x.kids.length cA, .int .i64 (q : Int), .int .i64 0, .int .i64 0] 65)
    obtain ⟨c0, c1, c2, c3⟩ := blk4 hk2
    obtain ⟨z0, z1, z2, z3⟩ := blk4_soft hk2
    have HK := Lib.hid hk2
    have HL := Lib.hid (hl2.alloc (.cells #[.int .i64 x.kind, .int .u64 (x.num : Int), .string x.str, .slice A2 x.kids.length cA, .int .i64 (q : Int), .int .i64 0, .int .i64 0] 65))
    have HBW := Lib.hid (bel_alloc ((bel_alloc (Below.refl _ _) _).trans (hb2.mono (by rw [size_alloc]; omega))) (.cells #[.int .i64 x.kind, .int .u64 (x.num : Int), .string x.str, .slice A2 x.kids.length cA, .int .i64 (q : Int), .int .i64 0, .int .i64 0] 65))
    have HT := Lib.hid htk
    clear hgood hk2 hl2 hb2 htk
    by_cases hlt : (q : Int) < n
    · go_wp2_with fail
      go_region
      go_wp2_with fail
      obtain ⟨hk, hgr⟩ := blk4_set HK.out (.int .i64 0) (.int .u64 0) (.string ⟨#[]⟩) (.slice none 0 0)
      have hb3 : Below w.heap.size w _ := HBW.out.trans (gr_below hgr HBW.out.size fun b hb => by cases hb; exact Nat.le_refl _)
      generalize (((((w2.alloc (.cells #[.int .i64 x.kind, .int .u64 (x.num : Int), .string x.str, .slice A2 x.kids.length cA, .int .i64 (q : Int), .int .i64 0, .int .i64 0] 65)).setCell ⟨w.heap.size, 0, none⟩ (.int .i64 0)).setCell ⟨w.heap.size, 1, none⟩ (.int .u64 0)).setCell ⟨w.heap.size, 2, none⟩ (.string ⟨#[]⟩)).setCell ⟨w.heap.size, 3, none⟩ (.slice none 0 0)) = w3 at hk hb3 ⊢
      obtain ⟨e0, e1, e2, e3⟩ := blk4 (show Blk w3.drew w.heap.size 25 #[.int .i64 0, .int .u64 0, .string ⟨#[]⟩, .slice none 0 0] from hk)
      refine bodyPost_ret (v := .tuple #[.agg #[.int .i64 0, .int .u64 0, .string ⟨#[]⟩, .slice none 0 0], .int .i64 3, .int .i64 (q : Int)]) (by simp [results, Try.results15, go_sem, e0, e1, e2, e3]) rfl ?_
      exact get_end (x := .mk 0 0 ByteArray.empty []) (A := none) (c := 0) (er := 3) (get_parts_bad (show Cod.get b = .bad 3 q by rw [Cod.get, if_neg (by have := HLB.out; omega), HT.out]; simp only; rw [if_pos (by have := HLB.out; omega)])) hb3.drew (lies_leaf _ _ (by omega) (by omega) (by show (0 : Nat) ≤ _; omega))
    · go_wp2_with fail
      obtain ⟨hk, hgr⟩ := blk4_set HK.out (.int .i64 x.kind) (.int .u64 (x.num : Int)) (.string x.str) (.slice A2 x.kids.length cA)
      have hb3 : Below w.heap.size w _ := HBW.out.trans (gr_below hgr HBW.out.size fun b hb => by cases hb; exact Nat.le_refl _)
      have hl3 := HL.out.grown hgr fun b hb => by simp; omega
      generalize (((((w2.alloc (.cells #[.int .i64 x.kind, .int .u64 (x.num : Int), .string x.str, .slice A2 x.kids.length cA, .int .i64 (q : Int), .int .i64 0, .int .i64 0] 65)).setCell ⟨w.heap.size, 0, none⟩ (.int .i64 x.kind)).setCell ⟨w.heap.size, 1, none⟩ (.int .u64 (x.num : Int))).setCell ⟨w.heap.size, 2, none⟩ (.string x.str)).setCell ⟨w.heap.size, 3, none⟩ (.slice A2 x.kids.length cA)) = w3 at hk hb3 hl3 ⊢
      obtain ⟨e0, e1, e2, e3⟩ := blk4 (show Blk w3 w.heap.size 25 #[.int .i64 x.kind, .int .u64 (x.num : Int), .string x.str, .slice A2 x.kids.length cA] from hk)
      refine bodyPost_ret (v := .tuple #[.agg #[.int .i64 x.kind, .int .u64 (x.num : Int), .string x.str, .slice A2 x.kids.length cA], .int .i64 0, .int .i64 0]) (by simp [results, Try.results15, go_sem, e0, e1, e2, e3]) rfl ?_
      exact get_end (er := 0) (p := 0) (get_parts_ok (show Cod.get b = .ok x 0 by rw [Cod.get, if_neg (by have := HLB.out; omega), HT.out]; simp only; rw [if_neg (by have := HLB.out; omega)])) hb3 (hl3.more fun b hb _ => by omega)
  · have hne : ((er : Int) != 0) = true := by rw [bne_iff_ne]; have := tk_bad_ne _ _ _ _ _ htk; omega
    have hk2 := ((Blk.new w 25 #[.int .i64 0, .int .u64 0, .string ⟨#[]⟩, .slice none 0 0]).bel hb2).alloc (.cells #[.int .i64 0, .int .u64 0, .string ⟨#[]⟩, .slice none 0 0, .int .i64 0, .int .i64 (er : Int), .int .i64 (q : Int)] 65)
    obtain ⟨c0, c1, c2, c3⟩ := blk4 hk2
    obtain ⟨z0, z1, z2, z3⟩ := blk4_soft hk2
    have HK := Lib.hid hk2
    have HBW := Lib.hid (bel_alloc ((bel_alloc (Below.refl _ _) _).trans (hb2.mono (by rw [size_alloc]; omega))) (.cells #[.int .i64 0, .int .u64 0, .string ⟨#[]⟩, .slice none 0 0, .int .i64 0, .int .i64 (er : Int), .int .i64 (q : Int)] 65))
    have HT := Lib.hid htk
    clear hk2 hb2 htk
    go_wp2_with fail
    go_region
    go_wp2_with fail
    obtain ⟨hk, hgr⟩ := blk4_set HK.out (.int .i64 0) (.int .u64 0) (.string ⟨#[]⟩) (.slice none 0 0)
    have hb3 : Below w.heap.size w _ := HBW.out.trans (gr_below hgr HBW.out.size fun b hb => by cases hb; exact Nat.le_refl _)
    generalize (((((w2.alloc (.cells #[.int .i64 0, .int .u64 0, .string ⟨#[]⟩, .slice none 0 0, .int .i64 0, .int .i64 (er : Int), .int .i64 (q : Int)] 65)).setCell ⟨w.heap.size, 0, none⟩ (.int .i64 0)).setCell ⟨w.heap.size, 1, none⟩ (.int .u64 0)).setCell ⟨w.heap.size, 2, none⟩ (.string ⟨#[]⟩)).setCell ⟨w.heap.size, 3, none⟩ (.slice none 0 0)) = w3 at hk hb3 ⊢
    obtain ⟨e0, e1, e2, e3⟩ := blk4 (show Blk w3.drew w.heap.size 25 #[.int .i64 0, .int .u64 0, .string ⟨#[]⟩, .slice none 0 0] from hk)
    refine bodyPost_ret (v := .tuple #[.agg #[.int .i64 0, .int .u64 0, .string ⟨#[]⟩, .slice none 0 0], .int .i64 (er : Int), .int .i64 (q : Int)]) (by simp [results, Try.results15, go_sem, e0, e1, e2, e3]) rfl ?_
    exact get_end (x := .mk 0 0 ByteArray.empty []) (A := none) (c := 0) (get_parts_bad (show Cod.get b = .bad er q by rw [Cod.get, if_neg (by have := HLB.out; omega), HT.out])) hb3.drew (lies_leaf _ _ (by omega) (by omega) (by show (0 : Nat) ≤ _; omega))
end Go.Proofs.Ythlhlhihllgfiaa
