/-
  Texts of earlier layers, as one.
-/
import Derived.Test.YthlhchaoedcdbaaGreatDoorRCrc
import Derived.Test.YthlhchaoedcdbaaGreatDoorRCodB
import Derived.Test.YthlhchaoedcdbaaGreatDoorRCodRG
import Derived.Test.YthlhchaoedcdbaaGreatDoorRCmdI
import Derived.Test.YthlhchaoedcdbaaGreatDoorRStore
/- The document's Frame: a byte, the sum, and the form of an item. -/
namespace Go.Proofs.YthlhchaoedcdbaaGreatDoor.Mg
open Lib (hid)
open Go.RowKit Mem Cod
def sb (s : Nat) : List Nat := [s / 16777216, s / 65536 % 256, s / 256 % 256, s % 256]
def frame (v : Nat) (p : List Nat) : List Nat := v :: (sb (Crc.sum p) ++ p)
end Go.Proofs.YthlhchaoedcdbaaGreatDoor.Mg
/- The document's Open: the item of a frame, or what is wrong with it. -/
namespace Go.Proofs.YthlhchaoedcdbaaGreatDoor.Mg
open Lib (hid)
open Go.RowKit Mem Cod
def word (l : List Nat) : Nat := l.foldl (fun s b => s * 256 + b) 0
theorem word_snoc (l : List Nat) (x : Nat) : word (l ++ [x]) = word l * 256 + x := by simp [word, List.foldl_append]
theorem fold_lt (l : List Nat) (h : ∀ b ∈ l, b < 256) : ∀ s, l.foldl (fun s b => s * 256 + b) s < (s + 1) * 256 ^ l.length := by
 induction l with
 | nil => intro s; simp
 | cons b l ih =>
   intro s;have h1 := ih (fun x hx => h x (by simp [hx])) (s * 256 + b);have hb := h b (by simp);have h2 : (s * 256 + b + 1) * 256 ^ l.length ≤ ((s + 1) * 256) * 256 ^ l.length := Nat.mul_le_mul_right _ (by omega)
   have e : (s + 1) * 256 ^ (b :: l).length = ((s + 1) * 256) * 256 ^ l.length := by
    rw [List.length_cons, Nat.pow_succ, Nat.mul_assoc, Nat.mul_comm 256]
   rw [e];exact Nat.lt_of_lt_of_le h1 h2
theorem word_lt {l : List Nat} (h : ∀ b ∈ l, b < 256) : word l < 256 ^ l.length := by
 have := fold_lt l h 0;simpa [word] using this
def openX (v : Nat) (b : List Nat) : It × Nat :=
 if b.length < 5 then (Cmd.zeroIt, 2) else if v < b.getD 0 0 then (Cmd.zeroIt, 13) else if b.getD 0 0 < v then (Cmd.zeroIt, 4)
 else if word ((b.drop 1).take 4) = Crc.sum (b.drop 5) then (Cp.getX (b.drop 5), Cp.getE (b.drop 5)) else (Cmd.zeroIt, 5)
def Opens (w : World) (r : It × Nat) (e : Ending) (w' : World) : Prop :=
 ∃ A c, e = .returned (.tuple #[.agg #[.int .i64 r.1.kind, .int .u64 (r.1.num : Int), .string r.1.str, .slice A r.1.kids.length c], .int .i64 (r.2 : Int)]) ∧ Lies w' (fun b => w.heap.size ≤ b) r.1 A c ∧ Below w.heap.size w w'
def WordRel (w : World) (b : List Nat) (s i : Value) (wr : World) : Prop :=
 ∃ j : Nat, 1 ≤ j ∧ j ≤ 5 ∧ i = .int .i64 (j : Int) ∧ s = .int .u32 ((word ((b.drop 1).take (j - 1)) : Nat) : Int) ∧ wr = w
theorem lies_zero (w : World) (S : Nat → Prop) : Lies w S Cmd.zeroIt none 0 := lies_leaf w S (by decide) (by decide) (by decide)
set_option maxRecDepth 20000 in
set_option maxHeartbeats 4000000 in
theorem refopen_any (v : Nat) (b : List Nat) (A : Option Addr) (n c : Nat) (w : World) (hv : v < 256) (hr : Rd w A n c (cs b)) (hb : ∀ x ∈ b, x < 256) (hn : n ≤ 1000000) :
 Calls Tryz.prog 33 #[.int .i64 (v : Int), .slice A n c] w (Opens w (openX v b)) := by
 have hlb := hr.len;rw [length_cs] at hlb;obtain ⟨T, hT⟩ : ∃ T, openX v b = T := ⟨_, rfl⟩
 rw [hT];unfold openX at hT;have hz0 := Blk.new w 57 #[.int .i64 0, .int .u64 0, .string ⟨#[]⟩, .slice none 0 0];have hbz := bel_alloc (Below.refl w.heap.size w) (.cells #[.int .i64 0, .int .u64 0, .string ⟨#[]⟩, .slice none 0 0] 57);have hrz := hr.alloc (.cells #[.int .i64 0, .int .u64 0, .string ⟨#[]⟩, .slice none 0 0] 57);obtain ⟨W, hW⟩ : ∃ W, w.alloc (.cells #[.int .i64 0, .int .u64 0, .string ⟨#[]⟩, .slice none 0 0] 57) = W := ⟨_, rfl⟩
 rw [hW] at hz0 hbz hrz;have HK := hid hz0;have HB := hid hbz;have HW := hid hW;have HR := hid hrz;have HBB := hid hb;have HLB := hid hlb;clear hz0 hbz hrz hW hr hb hlb;by_cases h5 : n < 5
 · rw [if_pos (by have := HLB.out; omega)] at hT
   have b1 : decide ((n : Int) < 5) = true := decide_eq_true (by omega);go_enter Tryz.func33, Tryz.ntmps33
   go_upto_region 1 with fail
   rw [HW.out];subst hT;go_wp2_with (first | fail | (refine wpList_store_blk rfl 57 _ _ rfl w.heap.size 57 _ #[.int .i64 0, .int .u64 0, .string ⟨#[]⟩, .slice none 0 0] rfl rfl HK.out (by kernel_rfl) rfl (by kernel_rfl) ?_; intro w9 hblk2 hgr))
   refine bodyPost_ret (v := .tuple #[.agg _, .int .i64 2]) (results_blk_tmp Tryz.results33 _ _ w.heap.size 57 _ _ _ rfl rfl hblk2 Tryz.underlying57 rfl (by kernel_rfl)) rfl ?_;exact ⟨none, 0, rfl, lies_zero _ _, HB.out.trans (gr_below hgr HB.out.size fun b hb => by injection hb with hb; omega)⟩
 have b1 : decide ((n : Int) < 5) = false := decide_eq_false (by omega);rw [if_neg (by have := HLB.out; omega)] at hT;obtain ⟨ad, x, rfl, hx, hcx⟩ := HR.out.byte (k := 0) (by omega);have hcx0 : W.cell? ad = some (.int .u8 (x : Int)) := by simpa [Addr.add] using hcx
 clear hcx;have hg : b.getD 0 0 = x := by simp [List.getD, hx]
 have hx256 : x < 256 := HBB.out x (List.mem_of_getElem? hx);rw [hg] at hT;clear hx hg;by_cases hgt : v < x
 · rw [if_pos hgt] at hT
   have b2 : decide ((v : Int) < (x : Int)) = true := decide_eq_true (by omega);go_enter Tryz.func33, Tryz.ntmps33
   go_upto_region 1 with fail
   rw [HW.out];subst hT;go_wp2_with (first | fail | (refine wpList_store_blk rfl 57 _ _ rfl w.heap.size 57 _ #[.int .i64 0, .int .u64 0, .string ⟨#[]⟩, .slice none 0 0] rfl rfl HK.out (by kernel_rfl) rfl (by kernel_rfl) ?_; intro w9 hblk2 hgr))
   refine bodyPost_ret (v := .tuple #[.agg _, .int .i64 13]) (results_blk_tmp Tryz.results33 _ _ w.heap.size 57 _ _ _ rfl rfl hblk2 Tryz.underlying57 rfl (by kernel_rfl)) rfl ?_;exact ⟨none, 0, rfl, lies_zero _ _, HB.out.trans (gr_below hgr HB.out.size fun b hb => by injection hb with hb; omega)⟩
 rw [if_neg hgt] at hT;have b2 : decide ((v : Int) < (x : Int)) = false := decide_eq_false (by omega);by_cases hlt : x < v
 · rw [if_pos hlt] at hT
   have b3 : decide ((x : Int) < (v : Int)) = true := decide_eq_true (by omega);go_enter Tryz.func33, Tryz.ntmps33
   go_upto_region 1 with fail
   rw [HW.out];subst hT;go_wp2_with (first | fail | (refine wpList_store_blk rfl 57 _ _ rfl w.heap.size 57 _ #[.int .i64 0, .int .u64 0, .string ⟨#[]⟩, .slice none 0 0] rfl rfl HK.out (by kernel_rfl) rfl (by kernel_rfl) ?_; intro w9 hblk2 hgr))
   refine bodyPost_ret (v := .tuple #[.agg _, .int .i64 4]) (results_blk_tmp Tryz.results33 _ _ w.heap.size 57 _ _ _ rfl rfl hblk2 Tryz.underlying57 rfl (by kernel_rfl)) rfl ?_;exact ⟨none, 0, rfl, lies_zero _ _, HB.out.trans (gr_below hgr HB.out.size fun b hb => by injection hb with hb; omega)⟩
 rw [if_neg hlt] at hT;have b3 : decide ((x : Int) < (v : Int)) = false := decide_eq_false (by omega);have hlen := HLB.out;have hrc := HR.out.cut (show 5 ≤ n by omega);rw [cs_drop] at hrc;have hbd : ∀ x ∈ b.drop 5, x < 256 := fun x hx => HBB.out x (List.mem_of_mem_drop hx);have hcut := run_cut (P := Tryz.prog) 35 Tryz.underlying35 (fun w => by kernel_rfl) (some ad) n c 5 (by omega);rw [show ((5 : Nat) : Int) = 5 by rfl] at hcut;have HSM := hid (Cr.ref_any (cutA (some ad) c 5) (n - 5) (c - 5) (b.drop 5) W hrc hbd);have HGT := hid (Cp.refget_any (b.drop 5) (cutA (some ad) c 5) (n - 5) (c - 5) W hrc hbd (by omega));have hsl : Crc.sum (b.drop 5) < 4294967296 := Crc.sum_lt _ hbd
 have hw4 : word ((b.drop 1).take 4) < 4294967296 := by
  have h := word_lt (l := (b.drop 1).take 4) (fun x hx => HBB.out x (List.mem_of_mem_drop (List.mem_of_mem_take hx)));rw [List.length_take, List.length_drop, Nat.min_eq_left (by omega)] at h;exact h
 have HT := hid hT;have HN := hid (show 5 ≤ n by omega);have hn0 : 0 < n := by omega
 clear hrc hbd hT h5 hlen;go_enter Tryz.func33, Tryz.ntmps33
 go_upto_region 1 with fail
 rw [HW.out];go_wp2_with fail
 go_loopw [6, 7] (WordRel W b) (fun _ i _ => 5 - (intOf i).toNat)
 case atStart => exact ⟨1, by decide, by decide, rfl, rfl, rfl⟩
 case round =>
  obtain ⟨j, hj1, hj5, rfl, rfl, rfl⟩ := hrel;by_cases hj : j < 5
  · obtain ⟨ad', y, e, hy, hcy⟩ := HR.out.byte (k := j) (by have := HN.out; omega)
    injection e with e;subst e;have hjn : j < n := (by have := HN.out; omega);have hji : (j : Int) < 5 := (by omega);have hy256 : y < 256 := HBB.out y (List.mem_of_getElem? hy)
    have hS : word ((b.drop 1).take (j - 1)) < 16777216 := by
     have h := word_lt (l := (b.drop 1).take (j - 1)) (fun x hx => HBB.out x (List.mem_of_mem_drop (List.mem_of_mem_take hx)));have h2 : ((b.drop 1).take (j - 1)).length ≤ 3 := (by rw [List.length_take]; omega);have h3 : 256 ^ ((b.drop 1).take (j - 1)).length ≤ 256 ^ 3 := Nat.pow_le_pow_right (by decide) h2;omega
    have hnx : word ((b.drop 1).take j) = word ((b.drop 1).take (j - 1)) * 256 + y := by
     rw [← word_snoc]
     congr 1
     obtain ⟨i, rfl⟩ : ∃ i, j = i + 1 := ⟨j - 1, by omega⟩
     rw [List.take_add_one, List.getElem?_drop, show 1 + i = i + 1 by omega, hy];rfl
    have HNX := hid hnx;clear hnx hy;generalize word ((b.drop 1).take (j - 1)) = X at hS HNX ⊢;go_wp2_with fail
    exact ⟨⟨j + 1, by omega, by omega, by simp, by rw [show j + 1 - 1 = j by omega, HNX.out]; simp, rfl⟩, by simp [intOf]; omega⟩
  · obtain rfl : j = 5 := by omega
    rw [show 5 - 1 = 4 by rfl];have hT := HT.out;generalize word ((b.drop 1).take 4) = X at hT hw4 ⊢;clear HT;go_wp2_with fail
    refine HSM.out.mono ?_;rintro e w2 ⟨rfl, rfl⟩;generalize Crc.sum (b.drop 5) = Y at hT hsl ⊢;by_cases hxy : X = Y
    · subst hxy
      rw [if_pos rfl] at hT;have b4 : ((X : Int) != (X : Int)) = false := bne_self_eq_false _;go_wp2_with fail
      refine HGT.out.mono ?_;rintro e w3 ⟨V, cV, rfl, hl, hb3⟩;generalize Cp.getX (b.drop 5) = z at hT hl ⊢;generalize Cp.getE (b.drop 5) = ze at hT ⊢;subst hT;have hk3 := (HK.out.bel hb3).alloc (.cells #[.int .i64 z.kind, .int .u64 (z.num : Int), .string z.str, .slice V z.kids.length cV] 57);have hz3 := Blk.new w3 57 #[.int .i64 z.kind, .int .u64 (z.num : Int), .string z.str, .slice V z.kids.length cV];have hb4 := bel_alloc hb3 (.cells #[.int .i64 z.kind, .int .u64 (z.num : Int), .string z.str, .slice V z.kids.length cV] 57);have hl4 := hl.alloc (.cells #[.int .i64 z.kind, .int .u64 (z.num : Int), .string z.str, .slice V z.kids.length cV] 57);go_upto_region 15 with fail
      generalize w3.alloc (.cells #[.int .i64 z.kind, .int .u64 (z.num : Int), .string z.str, .slice V z.kids.length cV] 57) = W4 at hk3 hz3 hb4 hl4 ⊢;obtain ⟨z0, z1, z2, z3⟩ := blk4 hz3;go_wp2_with (first | fail | (refine wpList_store_blk rfl 57 _ _ rfl w.heap.size 57 _ #[.int .i64 z.kind, .int .u64 (z.num : Int), .string z.str, .slice V z.kids.length cV] rfl rfl hk3 (by kernel_rfl) rfl (by kernel_rfl) ?_; intro w9 hblk2 hgr))
      refine bodyPost_ret (v := .tuple #[.agg _, .int .i64 (ze : Int)]) (results_blk_tmp Tryz.results33 _ _ w.heap.size 57 _ _ _ rfl rfl hblk2 Tryz.underlying57 rfl (by kernel_rfl)) rfl ?_;have hWs := HK.out.lt;have hbe := HB.out.trans (hb4.mono HB.out.size);refine ⟨V, cV, rfl, ?_, hbe.trans (gr_below hgr hbe.size fun b hb => by injection hb with hb; omega)⟩;exact (hl4.grown hgr (fun b hb e => by injection e with e; omega)).more fun b hb _ => by omega
    · rw [if_neg hxy] at hT
      have b4 : ((X : Int) != (Y : Int)) = true := bne_iff_ne.2 (by omega);subst hT;go_wp2_with (first | fail | (refine wpList_store_blk rfl 57 _ _ rfl w.heap.size 57 _ #[.int .i64 0, .int .u64 0, .string ⟨#[]⟩, .slice none 0 0] rfl rfl HK.out (by kernel_rfl) rfl (by kernel_rfl) ?_; intro w9 hblk2 hgr))
      refine bodyPost_ret (v := .tuple #[.agg _, .int .i64 5]) (results_blk_tmp Tryz.results33 _ _ w.heap.size 57 _ _ _ rfl rfl hblk2 Tryz.underlying57 rfl (by kernel_rfl)) rfl ?_;exact ⟨none, 0, rfl, lies_zero _ _, HB.out.trans (gr_below hgr HB.out.size fun b hb => by injection hb with hb; omega)⟩
end Go.Proofs.YthlhchaoedcdbaaGreatDoor.Mg
