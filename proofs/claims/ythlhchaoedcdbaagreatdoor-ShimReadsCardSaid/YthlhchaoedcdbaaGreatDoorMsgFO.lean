/-
  Texts of earlier layers, as one.
-/
import Derived.Test.YthlhchaoedcdbaaGreatDoorMsgFr
import Derived.Test.YthlhchaoedcdbaaGreatDoorRIds
import Derived.Laws.MakeOwn
/- The program's sum of a message's rest, as bytes, and whether two rows of bytes are the same. -/
namespace Go.Proofs.YthlhchaoedcdbaaGreatDoor.Mg
open Lib (hid)
open Go.RowKit Mem
set_option maxHeartbeats 1000000 in
theorem equal_bytes (A1 : Option Addr) (n1 c1 : Nat) (p : List Nat) (A2 : Option Addr) (n2 c2 : Nat) (q : List Nat) (w : World) (h1 : Rd w A1 n1 c1 (cs p)) (h2 : Rd w A2 n2 c2 (cs q)) (l1 : ∀ b ∈ p, b < 256) (l2 : ∀ b ∈ q, b < 256) :
 Calls Tryz.prog 41 #[.slice A1 n1 c1, .slice A2 n2 c2] w fun e w' => e = .returned (.bool (decide (p = q))) ∧ w' = w := by
 have r1 := run_text (P := Tryz.prog) 35 9 5 Tryz.underlying35 Tryz.underlying5 Tryz.underlying9 h1;have r2 := run_text (P := Tryz.prog) 35 9 5 Tryz.underlying35 Tryz.underlying5 Tryz.underlying9 h2;have he : ((txt p).toList == (txt q).toList) = decide (p = q) := by rw [eq_tell, bts_txt p l1, bts_txt q l2]
 generalize txt p = s at r1 he;generalize txt q = t at r2 he;rw [← he];clear he h1 h2 l1 l2;go_enter Tryz.func41, Tryz.ntmps41
 go_wp2_with fail
 go_ret;exact ⟨rfl, rfl⟩
set_option maxHeartbeats 2000000 in
theorem msum_any (V : Option Addr) (n c : Nat) (bs : List Nat) (w : World) (ht : Cr.Tab w) (hr : Rd w V n c (cs bs)) (hb : ∀ b ∈ bs, b < 256) :
 Calls Tryz.prog 42 #[.slice V n c] w (Gives w 4 (sb (Crc.sum bs))) := by
 have hbx := bel_alloc (Below.refl w.heap.size w) (.cells #[.slice V n c] 35);have hro := Rd.one w (.slice V n c) 35;have hra := hr.alloc (.cells #[.slice V n c] 35);have hta := ht.below hbx;obtain ⟨W, hW⟩ : ∃ W, w.alloc (.cells #[.slice V n c] 35) = W := ⟨_, rfl⟩
 rw [hW] at hbx hro hra hta
 have hm : Cr.Mat W (some ⟨w.heap.size, 0, none⟩) 1 1 [⟨V, n, c, bs⟩] := ⟨hro, fun p hp => by
  simp only [List.mem_cons, List.not_mem_nil, or_false] at hp;subst hp;exact ⟨hra, hb⟩⟩
 have hs := Cr.sum_any (some ⟨w.heap.size, 0, none⟩) 1 1 _ W hta hm;have e : Cr.bytes [⟨V, n, c, bs⟩] = bs := by simp [Cr.bytes]
 rw [e] at hs;have hlt := Crc.sum_lt bs hb;generalize Crc.sum bs = s at hs hlt ⊢;have HS := hid hs;have HB := hid hbx;have HW := hid hW;clear hs hbx hW hro hra hta hm e ht hr hb;go_enter Tryz.func42, Tryz.ntmps42
 go_wp2_with fail
 rw [HW.out];refine HS.out.mono ?_;rintro e w2 ⟨rfl, rfl⟩;go_wp2_with fail
 go_ret;have hl := Rd.lit w2 [.int .u8 ((s : Int) / 16777216), .int .u8 ((s : Int) / 65536 % 256), .int .u8 ((s : Int) / 256 % 256), .int .u8 ((s : Int) % 256)] 5 4 rfl (by simp [maxLen]);refine ⟨_, 4, rfl, ?_, bel_alloc HB.out _⟩;simpa [cs, sb] using hl
end Go.Proofs.YthlhchaoedcdbaaGreatDoor.Mg
/- The program's Frame: a byte, the sum, and the form of an item; or why there is none. -/
namespace Go.Proofs.YthlhchaoedcdbaaGreatDoor.Mg
open Lib (hid)
open Go.RowKit Mem Cod
theorem own_low {w : World} {base base' : Nat} {e : TypeId} {s : Nat} {v : Value} {n : Nat} {xs : List Value} (h : w.ownsRow base e s v n xs) (hb : base' ≤ base) : w.ownsRow base' e s v n xs :=
 ⟨h.1, h.2.imp id fun ⟨g, cap, cur, e1, hg, r⟩ => ⟨g, cap, cur, e1, Nat.le_trans hb hg, r⟩⟩
def FrameIs (v : Nat) (x : It) (w : World) (e : Ending) (w' : World) : Prop :=
 ∃ A n c, e = .returned (.tuple #[.slice A n c, .int .i64 ((chk x 0 : Nat) : Int)]) ∧ Rd w' A n c (cs (if chk x 0 = 0 then frame v (form x) else [])) ∧ Below w.heap.size w w' ∧ (chk x 0 = 0 → w'.ownsRow w.heap.size 5 1 (.slice A n c) n (cs (frame v (form x))))
set_option maxRecDepth 20000 in
set_option maxHeartbeats 4000000 in
theorem ownframe_any (v : Nat) (x : It) (A : Option Addr) (c : Nat) (S : Nat → Prop) (w : World) (hv : v < 256) (ht : Cr.Tab w) (hn : (form x).length ≤ 1000000) (hl : Lies w S x A c) (hS : ∀ b, S b → b < w.heap.size) :
 Calls Tryz.prog 24 #[.int .u8 (v : Int), .agg #[.int .i64 x.kind, .int .u64 (x.num : Int), .string x.str, .slice A x.kids.length c]] w (FrameIs v x w) := by
 obtain ⟨i0, hi, hz0, hz1, hz2⟩ := info_parts Cp.info5;have hbx := bel_alloc (Below.refl w.heap.size w) (.cells #[.int .i64 x.kind, .int .u64 (x.num : Int), .string x.str, .slice A x.kids.length c] 57);have hk1 := Blk.new w 57 #[.int .i64 x.kind, .int .u64 (x.num : Int), .string x.str, .slice A x.kids.length c];obtain ⟨W, hW⟩ : ∃ W, w.alloc (.cells #[.int .i64 x.kind, .int .u64 (x.num : Int), .string x.str, .slice A x.kids.length c] 57) = W := ⟨_, rfl⟩
 rw [hW] at hbx hk1;have hF := Cp.put_item x A c S W (hl.below hbx hS) (fun b hb => by have := hS b hb; have := hbx.size; omega) hn;have hfit := hl.fit;unfold Cp.PutIs at hF;obtain ⟨p, hp⟩ : ∃ p, form x = p := ⟨_, rfl⟩
 have hlt : ∀ b ∈ p, b < 256 := by rw [← hp]; exact Cp.form_bytes x hfit
 unfold FrameIs;rw [hp] at hF hn ⊢;generalize chk x 0 = k at hF ⊢;have HF := hid hF;have HB := hid hbx;have HW := hid hW;have HLT := hid hlt;have HT := hid (ht.below hbx);have HN := hid hn;have hv0 : (0 : Int) ≤ (v : Int) ∧ (v : Int) < 256 := by omega
 obtain ⟨vi, hvi⟩ : ∃ vi : Int, (v : Int) = vi := ⟨_, rfl⟩
 rw [hvi] at hv0 ⊢;have HVI := hid hvi;obtain ⟨x0, x1, x2, x3⟩ := blk4 hk1;clear hF hbx hW hlt hk1 ht hn hl hS hp hfit hvi hv;go_enter Tryz.func24, Tryz.ntmps24
 go_upto_region 1 with fail
 rw [HW.out];go_wp2_with fail
 refine HF.out.mono ?_;rintro e w1 ⟨V1, n1, c1, rfl, hr1, hb1⟩;clear x0 x1 x2 x3;by_cases hk : k = 0
 · subst hk
   rw [if_pos rfl] at hr1;have hn1 : n1 = p.length := (by have := hr1.len; rw [length_cs] at this; omega);subst hn1;have hnn := HN.out;obtain ⟨N, hN⟩ : ∃ N, p.length = N := ⟨_, rfl⟩
   rw [hN] at hr1 hnn ⊢;have hw5 : IntKind.i64.wrap (5 + (N : Int)) = ((5 + N : Nat) : Int) := (by rw [Go.Proofs.YthlhchaoedcdbaaGreatDoor.wrap64 (by omega) (by omega)]; omega);obtain ⟨C5, hC5⟩ : ∃ C5, 5 + N = C5 := ⟨_, rfl⟩
   rw [hC5] at hw5;obtain ⟨w2, hmk, hown2, hgr2⟩ := run_make_own (P := Tryz.prog) w1 w1.heap.size 35 5 i0 _ 1 Tryz.underlying35 hi hz0 hz1 .i64 .i64 C5 (by rw [hz2]; omega) (by unfold maxLen; omega) (by omega);have hb2 : Below w1.heap.size w1 w2 := (Below.refl w1.heap.size w1).grown hgr2 (by omega) (fun k hk => by cases hk);have ho3 := ownsRow_below hown2 (bel_alloc (Below.refl w2.heap.size w2) (.cells #[.int .u8 vi] 5));have hl3 := Rd.one w2 (.int .u8 vi) 5;have hb3 := bel_alloc hb2 (.cells #[.int .u8 vi] 5);have hs2 := hb2.size;have HR1 := hid hr1;have HB3 := hid hb3;have HB1 := hid hb1;have HC5 := hid hC5;have HPN := hid hN;clear hr1 hb1 hb2 hb3 hown2 hgr2 hN hC5;go_wp2_with (at_builtin; refine wpList_append_rd rfl (.tmp 21) (.tmp 23) 35 rfl w1.heap.size 5 i0 _ 1 Tryz.underlying35 hi hz0 hz1 hz2 rfl _ 0 C5 _ rfl ho3 _ 1 1 [.int .u8 vi] rfl hl3 (by intro u hu; simp at hu; subst hu; rfl) (by unfold maxLen; omega) (by omega) (by rw [size_alloc]; omega) ?_; intro V4 c4 w4 hown4 hb4)
   have hbx4 : Below w1.heap.size w1 w4 := HB3.out.trans hb4;have HS := hid (msum_any V1 N c1 p w4 ((HT.out.below HB1.out).below hbx4) (HR1.out.below hbx4) HLT.out);have HB4 := hid hbx4;have HO4 := hid hown4;clear hbx4 hb4 hown4 hmk ho3 hl3 hw5;go_wp2_with fail
   refine HS.out.mono ?_;rintro e w5 ⟨V5, c5, rfl, hr5, hb5⟩;have hown5 := ownsRow_below HO4.out hb5;have hbx5 : Below w1.heap.size w1 w5 := HB4.out.trans (hb5.mono HB4.out.size);have hs5 := hbx5.size;have HB5 := hid hbx5;clear hb5 hbx5;go_upto_region 7 with (at_builtin; refine wpList_append_rd rfl (.tmp 25) (.tmp 27) 35 rfl w1.heap.size 5 i0 _ 1 Tryz.underlying35 hi hz0 hz1 hz2 rfl _ (0 + 1) c4 _ rfl hown5 V5 4 c5 (cs (sb (Crc.sum p))) rfl hr5 (cs_one _) (by unfold maxLen; omega) (by omega) hs5 ?_; intro V6 c6 w6 hown6 hb6)
   have hbx6 : Below w1.heap.size w1 w6 := HB5.out.trans hb6;have hr6 := HR1.out.below hbx6;have hs6 := hbx6.size;have HB6 := hid hbx6;clear hb6 hbx6 hown5 hr5 hs5;go_wp2_with (at_builtin; refine wpList_append_rd rfl (.tmp 29) (.tmp 30) 35 rfl w1.heap.size 5 i0 _ 1 Tryz.underlying35 hi hz0 hz1 hz2 rfl _ (0 + 1 + 4) c6 _ rfl hown6 V1 N c1 (cs p) rfl hr6 (cs_one _) (by unfold maxLen; omega) (by omega) hs6 ?_; intro V7 c7 w7 hown7 hb7)
   refine bodyPost_ret (v := .tuple #[.slice V7 (0 + 1 + 4 + N) c7, .int .i64 0]) (by simp [results, Tryz.results24, go_sem]) rfl ?_
   have e : cs (frame v p) = ([] ++ [Value.int .u8 vi] ++ cs (sb (Crc.sum p))) ++ cs p := by
    unfold frame;rw [← HVI.out];simp [cs]
   refine ⟨V7, 0 + 1 + 4 + N, c7, rfl, ?_, ?_, ?_⟩
   · have h := Rd.own hown7
     rw [e];exact h
   · exact HB.out.trans (((HB1.out).trans ((HB6.out.trans hb7).mono HB1.out.size)).mono HB.out.size)
   · rw [e]
     exact own_low hown7 (by have := HB.out.size; have := HB1.out.size; omega)
 · have b1 : ((k : Int) != 0) = true := bne_iff_ne.2 (by omega)
   rw [if_neg hk] at hr1;clear hr1;go_wp2_with fail
   refine bodyPost_ret (v := .tuple #[.slice none 0 0, .int .i64 (k : Int)]) (by simp [results, Tryz.results24, go_sem]) rfl ?_;refine ⟨none, 0, 0, rfl, ?_, HB.out.trans (hb1.mono HB.out.size)⟩;exact Rd.nil_ _
end Go.Proofs.YthlhchaoedcdbaaGreatDoor.Mg
/- The program's Open: the item of a frame, or what is wrong with it. -/
namespace Go.Proofs.YthlhchaoedcdbaaGreatDoor.Mg
open Lib (hid)
open Go.RowKit Mem Cod
theorem sb_word {q : List Nat} (hq : q.length = 4) (hb : ∀ b ∈ q, b < 256) {s : Nat} (hs : s < 4294967296) : (q = sb s) ↔ word q = s := by
 obtain ⟨a, b, c, d, rfl⟩ : ∃ a b c d, q = [a, b, c, d] := by
  match q, hq with
  | [a, b, c, d], _ => exact ⟨a, b, c, d, rfl⟩
 have ha := hb a (by simp);have hb' := hb b (by simp);have hc := hb c (by simp);have hd := hb d (by simp);simp only [sb, word, List.foldl_cons, List.foldl_nil, List.cons.injEq, and_true];omega
theorem sb_lt (s : Nat) (hs : s < 4294967296) : ∀ b ∈ sb s, b < 256 := by
 intro b hb;simp only [sb, List.mem_cons, List.not_mem_nil, or_false] at hb;omega
set_option maxRecDepth 20000 in
theorem run_mid (A : Option Addr) (n c : Nat) (hn : 5 ≤ n) (hc : n ≤ c) (w : World) :
 (Instr.slice 35 (.slice A n c) (some (.int .i64 1)) (some (.int .i64 5)) none).run Tryz.prog w = .ok (.slice (cutA A c 1) 4 (c - 1)) w := by
 have hsz : ∀ w, (sizeOf (Tryz.prog.elem 35)).run Tryz.prog w = .ok 1 w := fun w => by kernel_rfl
 rw [run_slice_lh w 35 A n c Tryz.underlying35 .i64 .i64 1 5 (by omega) (by omega) (by omega), hsz];simp [Result.andThen, sliced, cutA]
theorem Rd.mid {w : World} {A : Option Addr} {n c : Nat} {b : List Nat} (h : Rd w A n c (cs b)) (hn : 5 ≤ n) : Rd w (cutA A c 1) 4 (c - 1) (cs ((b.drop 1).take 4)) := by
 have h1 := (h.cut (k := 1) (by omega)).take (k := 4) (by omega);rw [cs_drop, cs_take] at h1;exact h1
def OpensW (w : World) (r : It × Nat) (e : Ending) (w' : World) : Prop :=
 ∃ A c, e = .returned (.tuple #[.agg #[.int .i64 r.1.kind, .int .u64 (r.1.num : Int), .string r.1.str, .slice A r.1.kids.length c], .int .i64 (r.2 : Int)]) ∧ Whole w' w.heap.size r.1 A c ∧ Below w.heap.size w w'
theorem OpensW.opens {w : World} {r : It × Nat} {e : Ending} {w' : World} (h : OpensW w r e w') : Opens w r e w' := by
 obtain ⟨A, c, he, hl, hb⟩ := h;exact ⟨A, c, he, hl.lies, hb⟩
theorem whole_zero (w : World) (B : Nat) : Whole w B Cmd.zeroIt none 0 := Whole.bare (lies_zero _ _) rfl
set_option maxRecDepth 20000 in
set_option maxHeartbeats 4000000 in
theorem ownopen_whole (v : Nat) (b : List Nat) (A : Option Addr) (n c : Nat) (w : World) (hv : v < 256) (ht : Cr.Tab w) (hr : Rd w A n c (cs b)) (hb : ∀ x ∈ b, x < 256) (hn : n ≤ 1000000) :
 Calls Tryz.prog 21 #[.int .u8 (v : Int), .slice A n c] w (OpensW w (openX v b)) := by
 have hlb := hr.len;rw [length_cs] at hlb;obtain ⟨T, hT⟩ : ∃ T, openX v b = T := ⟨_, rfl⟩
 rw [hT];unfold openX at hT;have hz0 := Blk.new w 57 #[.int .i64 0, .int .u64 0, .string ⟨#[]⟩, .slice none 0 0];have hbz := bel_alloc (Below.refl w.heap.size w) (.cells #[.int .i64 0, .int .u64 0, .string ⟨#[]⟩, .slice none 0 0] 57);have hrz := hr.alloc (.cells #[.int .i64 0, .int .u64 0, .string ⟨#[]⟩, .slice none 0 0] 57);have htz := ht.below hbz;obtain ⟨W, hW⟩ : ∃ W, w.alloc (.cells #[.int .i64 0, .int .u64 0, .string ⟨#[]⟩, .slice none 0 0] 57) = W := ⟨_, rfl⟩
 rw [hW] at hz0 hbz hrz htz;have HK := hid hz0;have HB := hid hbz;have HW := hid hW;have HR := hid hrz;have HBB := hid hb;have HLB := hid hlb;have HTB := hid htz;clear hz0 hbz hrz htz hW hr hb hlb ht;have hvi : (0 : Int) ≤ (v : Int) ∧ (v : Int) < 256 := by omega
 by_cases h5 : n < 5
 · rw [if_pos (by have := HLB.out; omega)] at hT
   have b1 : decide ((n : Int) < 5) = true := decide_eq_true (by omega);go_enter Tryz.func21, Tryz.ntmps21
   go_upto_region 1 with fail
   rw [HW.out];subst hT;go_wp2_with (first | fail | ((with_reducible refine wpList_store_blk rfl 57 _ _ rfl w.heap.size 57 _ #[.int .i64 0, .int .u64 0, .string ⟨#[]⟩, .slice none 0 0] ?_ ?_ HK.out ?_ ?_ ?_ ?_); (focus rfl); (focus rfl); (focus kernel_rfl); (focus rfl); (focus kernel_rfl); intro w9 hblk2 hgr))
   refine bodyPost_ret (v := .tuple #[.agg _, .int .i64 2]) (results_blk_tmp Tryz.results21 _ _ w.heap.size 57 _ _ _ rfl rfl hblk2 Tryz.underlying57 rfl (by kernel_rfl)) rfl ?_;exact ⟨none, 0, rfl, whole_zero _ _, HB.out.trans (gr_below hgr HB.out.size fun b hb => by injection hb with hb; omega)⟩
 have b1 : decide ((n : Int) < 5) = false := decide_eq_false (by omega);rw [if_neg (by have := HLB.out; omega)] at hT;obtain ⟨ad, x, rfl, hx, hcx⟩ := HR.out.byte (k := 0) (by omega);have hcx0 : W.cell? ad = some (.int .u8 (x : Int)) := by simpa [Addr.add] using hcx
 clear hcx;have hg : b.getD 0 0 = x := by simp [List.getD, hx]
 have hx256 : x < 256 := HBB.out x (List.mem_of_getElem? hx);rw [hg] at hT;clear hx hg;have hn0 : 0 < n := by omega
 by_cases hgt : v < x
 · rw [if_pos hgt] at hT
   have b2 : decide ((v : Int) < (x : Int)) = true := decide_eq_true (by omega);go_enter Tryz.func21, Tryz.ntmps21
   go_upto_region 1 with fail
   rw [HW.out];subst hT;go_wp2_with (first | fail | ((with_reducible refine wpList_store_blk rfl 57 _ _ rfl w.heap.size 57 _ #[.int .i64 0, .int .u64 0, .string ⟨#[]⟩, .slice none 0 0] ?_ ?_ HK.out ?_ ?_ ?_ ?_); (focus rfl); (focus rfl); (focus kernel_rfl); (focus rfl); (focus kernel_rfl); intro w9 hblk2 hgr))
   refine bodyPost_ret (v := .tuple #[.agg _, .int .i64 13]) (results_blk_tmp Tryz.results21 _ _ w.heap.size 57 _ _ _ rfl rfl hblk2 Tryz.underlying57 rfl (by kernel_rfl)) rfl ?_;exact ⟨none, 0, rfl, whole_zero _ _, HB.out.trans (gr_below hgr HB.out.size fun b hb => by injection hb with hb; omega)⟩
 rw [if_neg hgt] at hT;have b2 : decide ((v : Int) < (x : Int)) = false := decide_eq_false (by omega);by_cases hlt : x < v
 · rw [if_pos hlt] at hT
   have b3 : decide ((x : Int) < (v : Int)) = true := decide_eq_true (by omega);go_enter Tryz.func21, Tryz.ntmps21
   go_upto_region 1 with fail
   rw [HW.out];subst hT;go_wp2_with (first | fail | ((with_reducible refine wpList_store_blk rfl 57 _ _ rfl w.heap.size 57 _ #[.int .i64 0, .int .u64 0, .string ⟨#[]⟩, .slice none 0 0] ?_ ?_ HK.out ?_ ?_ ?_ ?_); (focus rfl); (focus rfl); (focus kernel_rfl); (focus rfl); (focus kernel_rfl); intro w9 hblk2 hgr))
   refine bodyPost_ret (v := .tuple #[.agg _, .int .i64 4]) (results_blk_tmp Tryz.results21 _ _ w.heap.size 57 _ _ _ rfl rfl hblk2 Tryz.underlying57 rfl (by kernel_rfl)) rfl ?_;exact ⟨none, 0, rfl, whole_zero _ _, HB.out.trans (gr_below hgr HB.out.size fun b hb => by injection hb with hb; omega)⟩
 rw [if_neg hlt] at hT;have b3 : decide ((x : Int) < (v : Int)) = false := decide_eq_false (by omega);have hlen := HLB.out;have hnc := HR.out.le;have hrc := HR.out.cut (show 5 ≤ n by omega);rw [cs_drop] at hrc;have hrm := Rd.mid HR.out (show 5 ≤ n by omega);have hbd : ∀ x ∈ b.drop 5, x < 256 := fun x hx => HBB.out x (List.mem_of_mem_drop hx);have hbm : ∀ x ∈ (b.drop 1).take 4, x < 256 := fun x hx => HBB.out x (List.mem_of_mem_drop (List.mem_of_mem_take hx));have hlm : ((b.drop 1).take 4).length = 4 := by rw [List.length_take, List.length_drop]; omega
 have hcut := run_cut (P := Tryz.prog) 35 Tryz.underlying35 (fun w => by kernel_rfl) (some ad) n c 5 (by omega);rw [show ((5 : Nat) : Int) = 5 by rfl] at hcut;have hmid := run_mid (some ad) n c (by omega) hnc;have HSMw := hid (fun w' (hb : Below W.heap.size W w') => msum_any (cutA (some ad) c 5) (n - 5) (c - 5) (b.drop 5) w' (HTB.out.below hb) (hrc.below hb) hbd);have HGT := hid (fun w' (hb : Below W.heap.size W w') => Cp.get_whole (b.drop 5) (cutA (some ad) c 5) (n - 5) (c - 5) w' (hrc.below hb) hbd (by omega));have hsl : Crc.sum (b.drop 5) < 4294967296 := Crc.sum_lt _ hbd;have HEQ := hid (fun (V : Option Addr) (c' : Nat) (w' : World) (hb : Below W.heap.size W w') (h : Rd w' V 4 c' (cs (sb (Crc.sum (b.drop 5))))) => equal_bytes (cutA (some ad) c 1) 4 (c - 1) ((b.drop 1).take 4) V 4 c' (sb (Crc.sum (b.drop 5))) w' (hrm.below hb) h hbm (sb_lt _ hsl));have hiff := sb_word hlm hbm hsl;obtain ⟨t, ht⟩ : ∃ t, decide ((b.drop 1).take 4 = sb (Crc.sum (b.drop 5))) = t := ⟨_, rfl⟩
 have htw : (if word ((b.drop 1).take 4) = Crc.sum (b.drop 5) then (Cp.getX (b.drop 5), Cp.getE (b.drop 5)) else (Cmd.zeroIt, 5)) = if t = true then (Cp.getX (b.drop 5), Cp.getE (b.drop 5)) else (Cmd.zeroIt, 5) := by
  rw [← ht];by_cases h : word ((b.drop 1).take 4) = Crc.sum (b.drop 5)
  · rw [if_pos h, if_pos (decide_eq_true (hiff.2 h))]
  · rw [if_neg h, if_neg (by rw [decide_eq_false (fun e => h (hiff.1 e))]; decide)]
 rw [htw] at hT;rw [ht] at HEQ;clear htw ht hiff hrc hrm hbd hbm hlm hsl hnc hlen h5;generalize (b.drop 1).take 4 = qm at *;obtain ⟨M, hM⟩ : ∃ M, cutA (some ad) c 1 = M := ⟨_, rfl⟩
 obtain ⟨D, hD⟩ : ∃ D, cutA (some ad) c 5 = D := ⟨_, rfl⟩
 rw [hM] at hmid HEQ;rw [hD] at hcut HSMw HGT;obtain ⟨N5, hN5⟩ : ∃ N5, n - 5 = N5 := ⟨_, rfl⟩
 obtain ⟨C5, hC5⟩ : ∃ C5, c - 5 = C5 := ⟨_, rfl⟩
 obtain ⟨C1, hC1⟩ : ∃ C1, c - 1 = C1 := ⟨_, rfl⟩
 rw [hN5, hC5] at hcut HSMw HGT;rw [hC1] at hmid HEQ;clear hM hD hN5 hC5 hC1;have HC := hid (Below.refl W.heap.size W);have HT := hid hT;clear hT;go_enter Tryz.func21, Tryz.ntmps21
 go_upto_region 1 with fail
 rw [HW.out];go_upto_region 7 with fail
 replace HC := hid (Below.drew HC.out);cases t with
 | false =>
   refine wp_region_held_drew (S := (fun w' => Below W.heap.size W w')) (by kernel_rfl) (by with_reducible exact HC.out) (fun hHeld => ?_);refine hs_take 0 29 (.slice (some ad) n c) rfl rfl (by kernel_rfl) (fun _ _ _ h => h) (fun w hS => by go_simp) hHeld ?_;try simp only [n0, n1, n2]
   refine hs_take 1 30 (.slice M 4 C1) rfl rfl (by kernel_rfl) (fun _ _ _ h => h) (fun w hS => by go_simp) hHeld ?_;try simp only [n0, n1, n2]
   refine hs_take 2 31 (.slice (some ad) n c) rfl rfl (by kernel_rfl) (fun _ _ _ h => h) (fun w hS => by go_simp) hHeld ?_;try simp only [n0, n1, n2]
   refine hs_take 3 32 (.slice D N5 C5) rfl rfl (by kernel_rfl) (fun _ _ _ h => h) (fun w hS => by go_simp) hHeld ?_;try simp only [n0, n1, n2]
   refine wpAnyH_ready (rs := [4]) (by kernel_rfl) (by simp) ?_;refine AllReadyH.cons rfl (fun K hK => ?_) AllReadyH.nil;go_simp;go_at_call 42
   refine (HSMw.out _ HC.out).mono ?_;rintro e u ⟨V4, c4, rfl, hr4, hb1⟩;have HR4 := hid hr4;replace HC := hid (bel_trans HC.out hb1);clear hb1 hr4;refine hK.out _ _ (by with_reducible exact HC.out) (fun hHeld => ?_);clear hK K;refine wpAnyH_ready (rs := [5]) (by kernel_rfl) (by simp) ?_;refine AllReadyH.cons rfl (fun K hK => ?_) AllReadyH.nil;go_simp;go_at_call 41
   refine (HEQ.out V4 c4 _ HC.out HR4.out).mono ?_;rintro e u ⟨rfl, rfl⟩;refine hK.out _ _ (by with_reducible exact HC.out) (fun hHeld => ?_);clear hK K;refine hs_take 6 35 (.bool true) rfl rfl (by kernel_rfl) (fun _ _ _ h => h) (fun w hS => by go_simp) hHeld ?_;try simp only [n0, n1, n2]
   refine hs_take 7 28 (.bool true) rfl rfl (by kernel_rfl) (fun _ _ _ h => h) (fun w hS => by go_simp) hHeld ?_;try simp only [n0, n1, n2]
   refine wpAnyH_done (by kernel_rfl) ?_ _;skip;have hT := HT.out;simp only [Bool.false_eq_true, if_false] at hT;subst hT;have HK9 := hid (HK.out.bel HC.out);have HB9 := hid (HB.out.trans (HC.out.mono HB.out.size));go_wp2_with (first | fail | ((with_reducible refine wpList_store_blk rfl 57 _ _ rfl w.heap.size 57 _ #[.int .i64 0, .int .u64 0, .string ⟨#[]⟩, .slice none 0 0] ?_ ?_ HK9.out ?_ ?_ ?_ ?_); (focus rfl); (focus rfl); (focus kernel_rfl); (focus rfl); (focus kernel_rfl); intro w9 hblk2 hgr))
   refine bodyPost_ret (v := .tuple #[.agg _, .int .i64 5]) (results_blk_tmp Tryz.results21 _ _ w.heap.size 57 _ _ _ rfl rfl hblk2 Tryz.underlying57 rfl (by kernel_rfl)) rfl ?_;exact ⟨none, 0, rfl, whole_zero _ _, HB9.out.trans (gr_below hgr HB9.out.size fun b hb => by injection hb with hb; omega)⟩
 | true =>
   refine wp_region_held_drew (S := (fun w' => Below W.heap.size W w')) (by kernel_rfl) (by with_reducible exact HC.out) (fun hHeld => ?_);refine hs_take 0 29 (.slice (some ad) n c) rfl rfl (by kernel_rfl) (fun _ _ _ h => h) (fun w hS => by go_simp) hHeld ?_;try simp only [n0, n1, n2]
   refine hs_take 1 30 (.slice M 4 C1) rfl rfl (by kernel_rfl) (fun _ _ _ h => h) (fun w hS => by go_simp) hHeld ?_;try simp only [n0, n1, n2]
   refine hs_take 2 31 (.slice (some ad) n c) rfl rfl (by kernel_rfl) (fun _ _ _ h => h) (fun w hS => by go_simp) hHeld ?_;try simp only [n0, n1, n2]
   refine hs_take 3 32 (.slice D N5 C5) rfl rfl (by kernel_rfl) (fun _ _ _ h => h) (fun w hS => by go_simp) hHeld ?_;try simp only [n0, n1, n2]
   refine wpAnyH_ready (rs := [4]) (by kernel_rfl) (by simp) ?_;refine AllReadyH.cons rfl (fun K hK => ?_) AllReadyH.nil;go_simp;go_at_call 42
   refine (HSMw.out _ HC.out).mono ?_;rintro e u ⟨V4, c4, rfl, hr4, hb1⟩;have HR4 := hid hr4;replace HC := hid (bel_trans HC.out hb1);clear hb1 hr4;refine hK.out _ _ (by with_reducible exact HC.out) (fun hHeld => ?_);clear hK K;refine wpAnyH_ready (rs := [5]) (by kernel_rfl) (by simp) ?_;refine AllReadyH.cons rfl (fun K hK => ?_) AllReadyH.nil;go_simp;go_at_call 41
   refine (HEQ.out V4 c4 _ HC.out HR4.out).mono ?_;rintro e u ⟨rfl, rfl⟩;refine hK.out _ _ (by with_reducible exact HC.out) (fun hHeld => ?_);clear hK K;refine hs_take 6 35 (.bool false) rfl rfl (by kernel_rfl) (fun _ _ _ h => h) (fun w hS => by go_simp) hHeld ?_;try simp only [n0, n1, n2]
   refine hs_take 7 28 (.bool false) rfl rfl (by kernel_rfl) (fun _ _ _ h => h) (fun w hS => by go_simp) hHeld ?_;try simp only [n0, n1, n2]
   refine wpAnyH_done (by kernel_rfl) ?_ _;go_upto_region 9 with fail
   have hT := HT.out;simp only [if_true] at hT;clear HT;go_wp2_with fail
   refine (HGT.out _ HC.out).mono ?_;rintro e w3 ⟨V, cV, rfl, hl, hb3⟩;generalize Cp.getX (b.drop 5) = z at hT hl ⊢;generalize Cp.getE (b.drop 5) = ze at hT ⊢;generalize Cp.getP (b.drop 5) = zp;subst hT;have hb3W := bel_trans HC.out hb3;have hk3 := (HK.out.bel hb3W).alloc (.cells #[.int .i64 z.kind, .int .u64 (z.num : Int), .string z.str, .slice V z.kids.length cV] 57);have hz3 := Blk.new w3 57 #[.int .i64 z.kind, .int .u64 (z.num : Int), .string z.str, .slice V z.kids.length cV];have hb4 := bel_alloc hb3W (.cells #[.int .i64 z.kind, .int .u64 (z.num : Int), .string z.str, .slice V z.kids.length cV] 57);have hl4 := hl.alloc (.cells #[.int .i64 z.kind, .int .u64 (z.num : Int), .string z.str, .slice V z.kids.length cV] 57);have hcs := HC.out.size;go_upto_region 10 with fail
   generalize w3.alloc (.cells #[.int .i64 z.kind, .int .u64 (z.num : Int), .string z.str, .slice V z.kids.length cV] 57) = W4 at hk3 hz3 hb4 hl4 ⊢;obtain ⟨z0, z1, z2, z3⟩ := blk4 hz3;have HK4 := hid hk3;have HB4 := hid hb4;have HL4 := hid hl4;clear hk3 hb4 hl4 hb3 hl hb3W;go_wp2_with (first | fail | ((with_reducible refine wpList_store_blk rfl 57 _ _ rfl w.heap.size 57 _ #[.int .i64 z.kind, .int .u64 (z.num : Int), .string z.str, .slice V z.kids.length cV] ?_ ?_ HK4.out ?_ ?_ ?_ ?_); (focus rfl); (focus rfl); (focus kernel_rfl); (focus rfl); (focus kernel_rfl); intro w9 hblk2 hgr))
   refine bodyPost_ret (v := .tuple #[.agg _, .int .i64 (ze : Int)]) (results_blk_tmp Tryz.results21 _ _ w.heap.size 57 _ _ _ rfl rfl hblk2 Tryz.underlying57 rfl (by kernel_rfl)) rfl ?_;have hWs := HK.out.lt;have hbe := HB.out.trans (HB4.out.mono HB.out.size);refine ⟨V, cV, rfl, ?_, hbe.trans (gr_below hgr hbe.size fun b hb => by injection hb with hb; omega)⟩;exact (HL4.out.grown hgr (fun b hb e => by injection e with e; omega)).more fun b hb _ => by omega
theorem ownopen_any (v : Nat) (b : List Nat) (A : Option Addr) (n c : Nat) (w : World) (hv : v < 256) (ht : Cr.Tab w) (hr : Rd w A n c (cs b)) (hb : ∀ x ∈ b, x < 256) (hn : n ≤ 1000000) :
 Calls Tryz.prog 21 #[.int .u8 (v : Int), .slice A n c] w (Opens w (openX v b)) := (ownopen_whole v b A n c w hv ht hr hb hn).mono fun _ _ h => h.opens
end Go.Proofs.YthlhchaoedcdbaaGreatDoor.Mg
