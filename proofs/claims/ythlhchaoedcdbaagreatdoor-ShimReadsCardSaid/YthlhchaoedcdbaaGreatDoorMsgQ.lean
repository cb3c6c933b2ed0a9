/-
  Texts of earlier layers, as one.
-/
import Derived.Test.YthlhchaoedcdbaaGreatDoorMsgOw
/- The program's queue of parts: the next one, and what is left; a part that is a number. -/
namespace Go.Proofs.YthlhchaoedcdbaaGreatDoor.Mg
open Lib (hid)
open Go.RowKit Mem Ids Att Cod Rk
def tail4 (A : Option Addr) (c : Nat) : Option Addr := if c = 1 then A else A.map (·.add 4)
set_option maxRecDepth 20000 in
theorem run_tail4 (A : Option Addr) (n c : Nat) (hn : 1 ≤ n) (w : World) :
 (Instr.slice 55 (.slice A n c) (some (.int .i64 1)) none none).run Tryz.prog w = .ok (.slice (tail4 A c) (n - 1) (c - 1)) w := by
 have hsz : ∀ w, (sizeOf (Tryz.prog.elem 55)).run Tryz.prog w = .ok 4 w := Tryz.sizeOf57;rw [run_slice_l w 55 A n c Tryz.underlying55 .i64 1 (by omega) (by omega), hsz];simp [Result.andThen, sliced, tail4]
theorem row_tl {w : World} {S : Nat → Prop} {A : Option Addr} {n c : Nat} {l : List It} (h : Cod.Row w S A n c l) (hn : 1 ≤ n) : Cod.Row w S (tail4 A c) (n - 1) (c - 1) (tl l) := by
 obtain ⟨h1, ⟨h2, h3, h4⟩, h5⟩ := h;refine ⟨by rw [tl, List.length_drop, h1], ⟨by omega, by omega, fun e => ?_⟩, fun i y hy => ?_⟩
 · unfold tail4 at e
   split at e
   · omega
   · have := h4 (by simpa using e); omega
 · rw [tl, List.getElem?_drop] at hy
   have hlt : 1 + i < l.length := (List.getElem?_eq_some_iff.1 hy).1;obtain ⟨ad, A', c', e, hb, hs, hsp, hl⟩ := h5 _ y hy;subst e;have he : tail4 (some ad) c = some (ad.add 4) := (by unfold tail4; rw [if_neg (by omega)]; rfl);refine ⟨ad.add 4, A', c', he, by rw [add_block]; exact hb, by rw [add_block]; exact hs, ?_, hl⟩;rw [add_add, show 4 + i * 4 = (1 + i) * 4 by omega];exact hsp
def NextsQ (S : Nat → Prop) (w : World) (p : Nat) (l : List It) (e : Ending) (w' : World) : Prop :=
 ∃ V cv A' n' c', e = .returned (.agg #[.int .i64 (hd l).kind, .int .u64 ((hd l).num : Int), .string (hd l).str, .slice V (hd l).kids.length cv]) ∧ Lies w' S (hd l) V cv ∧ w.grownBy w' (some p) ∧ Blk w' p 143 #[.slice A' n' c'] ∧ Cod.Row w' S A' n' c' (tl l) ∧ n' ≤ 9223372036854775807
set_option maxRecDepth 100000 in
set_option maxHeartbeats 4000000 in
theorem qnext_any (p : Nat) (A : Option Addr) (n c : Nat) (l : List It) (S : Nat → Prop) (w : World) (hr : Cod.Row w S A n c l) (hn : n ≤ 9223372036854775807) (hp : Blk w p 143 #[.slice A n c]) (hSp : ¬ S p) (hS : ∀ b, S b → b < w.heap.size) :
 Calls Tryz.prog 116 #[.pointer (some ⟨p, 0, none⟩)] w (NextsQ S w p l) := by
 have hb := bel_alloc (Below.refl w.heap.size w) (.cells #[.int .i64 0, .int .u64 0, .string ⟨#[]⟩, .slice none 0 0] 57);have hx := Blk.new w 57 #[.int .i64 0, .int .u64 0, .string ⟨#[]⟩, .slice none 0 0];have hpl := hp.lt;have hpa := hp.alloc (.cells #[.int .i64 0, .int .u64 0, .string ⟨#[]⟩, .slice none 0 0] 57);have hra := hr.below hb hS;have hsz := size_alloc w (.cells #[.int .i64 0, .int .u64 0, .string ⟨#[]⟩, .slice none 0 0] 57);obtain ⟨W, hW⟩ : ∃ W, w.alloc (.cells #[.int .i64 0, .int .u64 0, .string ⟨#[]⟩, .slice none 0 0] 57) = W := ⟨_, rfl⟩
 rw [hW] at hb hx hpa hra hsz;have HW := hid hW;have HB := hid hb;have HX := hid hx;have HP := hid hpa;have HR := hid hra;have HSS := hid hS;have HSP := hid hSp;have HNN := hid hn;have HPL := hid hpl;have HSZ := hid hsz;have hlen : l.length = n := hr.1;clear hW hb hx hra hS hSp hr hp hn hsz;have p0 := hpa.cell 0;simp at p0;clear hpa;by_cases hz : n = 0
 · have hl0 : l = [] := List.eq_nil_of_length_eq_zero (by omega)
   subst hz;subst hl0;clear hlen;go_enter Tryz.func116, Tryz.ntmps116
   go_upto_region 1 with fail
   rw [HW.out];go_wp2_with (first | fail | ((with_reducible refine wpList_store_blk rfl 57 _ _ rfl w.heap.size 57 _ #[.int .i64 0, .int .u64 0, .string ⟨#[]⟩, .slice none 0 0] ?_ ?_ HX.out ?_ ?_ ?_ ?_); (focus rfl); (focus rfl); (focus kernel_rfl); (focus rfl); (focus kernel_rfl); intro w9 hblk2 hgr))
   refine bodyPost_ret (v := .agg _) (results_blk Tryz.results116 _ _ w.heap.size 57 _ _ rfl hblk2 Tryz.underlying57 rfl (by kernel_rfl)) rfl ?_;have hpl := HPL.out;have hp9 := HP.out.grown hgr (fun e => by injection e with e; omega);have hr9 := HR.out.grown hgr (fun b hb e => by injection e with e; have := HSS.out b hb; omega);exact ⟨none, 0, A, 0, c, rfl, lies_leaf _ _ (by decide) (by decide) (by decide), gr_step (below_gr HB.out _) hgr fun b hb => by injection hb with hb; exact .inl (by omega), hp9, hr9, by omega⟩
 · have b1 : ((n : Int) == 0) = false := beq_false_of_ne (by omega)
   have hn0 : 0 < n := (by omega);have hn1 : 1 ≤ n := (by omega);obtain ⟨g, o, A', c', e, hSg, hg, r0, r1, r2, r3, hly⟩ := row_at HR.out hn0;subst e;have hyd : l.getD 0 Cmd.zeroIt = hd l := rfl;rw [hyd] at r0 r1 r2 r3 hly;have hrt := row_tl HR.out hn1;have hcut := run_tail4 (some ⟨g, o, none⟩) n c hn1;have hgw := HSS.out g hSg;obtain ⟨y, hye⟩ : ∃ y, hd l = y := ⟨_, rfl⟩
   rw [hye] at r0 r1 r2 r3 hly;have HYE := hid hye;clear hye;generalize hT : tail4 (some ⟨g, o, none⟩) c = T at hrt hcut;clear hT hyd;have HLY := hid hly;have HRT := hid hrt;have HSG := hid hSg;simp only [Nat.zero_mul, Nat.add_zero] at r0 r1 r2 r3;clear hly hrt hSg hz hlen;have hbk := Blk.new W 57 #[.int .i64 y.kind, .int .u64 (y.num : Int), .string y.str, .slice A' y.kids.length c'];have hbb := bel_alloc HB.out (.cells #[.int .i64 y.kind, .int .u64 (y.num : Int), .string y.str, .slice A' y.kids.length c'] 57);have hx1 := HX.out.alloc (.cells #[.int .i64 y.kind, .int .u64 (y.num : Int), .string y.str, .slice A' y.kids.length c'] 57);have hp1 := HP.out.alloc (.cells #[.int .i64 y.kind, .int .u64 (y.num : Int), .string y.str, .slice A' y.kids.length c'] 57);have hl1 := HLY.out.alloc (.cells #[.int .i64 y.kind, .int .u64 (y.num : Int), .string y.str, .slice A' y.kids.length c'] 57);have hr1 := HRT.out.below (bel_alloc (Below.refl W.heap.size W) (.cells #[.int .i64 y.kind, .int .u64 (y.num : Int), .string y.str, .slice A' y.kids.length c'] 57)) (fun b hb => by have := HSS.out b hb; have := HSZ.out; omega);have hs1 := size_alloc W (.cells #[.int .i64 y.kind, .int .u64 (y.num : Int), .string y.str, .slice A' y.kids.length c'] 57);obtain ⟨W1, hW1⟩ : ∃ W1, W.alloc (.cells #[.int .i64 y.kind, .int .u64 (y.num : Int), .string y.str, .slice A' y.kids.length c'] 57) = W1 := ⟨_, rfl⟩
   rw [hW1] at hbk hbb hx1 hp1 hl1 hr1 hs1;have HW1 := hid hW1;have HBK := hid hbk;have HBB := hid hbb;have HX1 := hid hx1;have HP1 := hid hp1;have HL1 := hid hl1;have HR1 := hid hr1;have HS1 := hid hs1;have HN1 := hid hn1;have HCUT := hid hcut;clear hbk hbb hx1 hp1 hl1 hr1 hs1 hW1 hcut hn1;go_enter Tryz.func116, Tryz.ntmps116
   go_upto_region 1 with fail
   rw [HW.out];go_upto_region 4 with fail
   rw [HW1.out];clear p0 r0 r1 r2 r3 b1;have q0 := HP1.out.cell 0;have z0 := HP1.out.soft 0;simp at q0;have hcut := HCUT.out;clear HCUT;go_upto_region 5 with fail
   have hp2 : Blk (W1.setCell ⟨p, 0, none⟩ (.slice T (n - 1) (c - 1))) p 143 #[.slice T (n - 1) (c - 1)] := (by simpa using HP1.out.put 0 (.slice T (n - 1) (c - 1)));have hg2 : W1.grownBy (W1.setCell ⟨p, 0, none⟩ (.slice T (n - 1) (c - 1))) (some p) := gr_set (gr_refl W1 _) (.inl rfl) _;clear q0 z0 hcut;generalize W1.setCell ⟨p, 0, none⟩ (.slice T (n - 1) (c - 1)) = W2 at hp2 hg2 ⊢;have hpl := HPL.out;have hsz := HSZ.out;have hs1 := HS1.out;have hx2 := HX1.out.grown hg2 (fun e => by injection e with e; omega);have hk2 := HBK.out.grown hg2 (fun e => by injection e with e; omega);have hl2 := HL1.out.grown hg2 (fun b hb e => by injection e with e; exact HSP.out (e ▸ hb));have hr2 := HR1.out.grown hg2 (fun b hb e => by injection e with e; exact HSP.out (e ▸ hb));obtain ⟨y0, y1, y2, y3⟩ := blk4 hk2;have HX2 := hid hx2;have HL2 := hid hl2;have HR2 := hid hr2;have HP2 := hid hp2;have HG2 := hid hg2;clear hx2 hl2 hr2 hp2 hg2 hk2 hs1 hsz hpl;go_wp2_with (first | fail | ((with_reducible refine wpList_store_blk rfl 57 _ _ rfl w.heap.size 57 _ #[.int .i64 y.kind, .int .u64 (y.num : Int), .string y.str, .slice A' y.kids.length c'] ?_ ?_ HX2.out ?_ ?_ ?_ ?_); (focus rfl); (focus rfl); (focus kernel_rfl); (focus rfl); (focus kernel_rfl); intro w9 hblk2 hgr))
   refine bodyPost_ret (v := .agg _) (results_blk Tryz.results116 _ _ w.heap.size 57 _ _ rfl hblk2 Tryz.underlying57 rfl (by kernel_rfl)) rfl ?_;have hpl := HPL.out;have hp9 := HP2.out.grown hgr (fun e => by injection e with e; omega);have hl9 := HL2.out.grown hgr (fun b hb e => by injection e with e; have := HSS.out b hb; omega);have hr9 := HR2.out.grown hgr (fun b hb e => by injection e with e; have := HSS.out b hb; omega);have hnn := HNN.out;exact ⟨A', c', T, n - 1, c - 1, by rw [HYE.out], by rw [HYE.out]; exact hl9, gr_step (gr_step (below_gr HBB.out _) HG2.out fun b hb => .inr hb) hgr fun b hb => by injection hb with hb; exact .inl (by omega), hp9, hr9, by omega⟩
def NumsQ (S : Nat → Prop) (w : World) (p : Nat) (l : List It) (e : Ending) (w' : World) : Prop :=
 ∃ A' n' c', e = .returned (.int .i64 (Cmd.w64 (hd l).num)) ∧ w.grownBy w' (some p) ∧ Blk w' p 143 #[.slice A' n' c'] ∧ Cod.Row w' S A' n' c' (tl l) ∧ n' ≤ 9223372036854775807
set_option maxRecDepth 100000 in
set_option maxHeartbeats 1000000 in
theorem qnum_any (p : Nat) (A : Option Addr) (n c : Nat) (l : List It) (S : Nat → Prop) (w : World) (hr : Cod.Row w S A n c l) (hn : n ≤ 9223372036854775807) (hp : Blk w p 143 #[.slice A n c]) (hSp : ¬ S p) (hS : ∀ b, S b → b < w.heap.size) :
 Calls Tryz.prog 114 #[.pointer (some ⟨p, 0, none⟩)] w (NumsQ S w p l) := by
 have H1 := hid (qnext_any p A n c l S w hr hn hp hSp hS);clear hr hn hp hSp hS;go_enter Tryz.func114, Tryz.ntmps114
 go_wp2_with fail
 refine H1.out.mono ?_;rintro e w1 ⟨V, cv, A', n', c', rfl, hl, hg, hp1, hr1, hn1⟩;obtain ⟨R, hR⟩ : ∃ R, Cmd.w64 (hd l).num = R := ⟨_, rfl⟩
 have HF := hid (show NumsQ S w p l (.returned (.int .i64 R)) w1 from ⟨A', n', c', by rw [hR], hg, hp1, hr1, hn1⟩);unfold Cmd.w64 at hR;generalize (hd l).num = m at hR ⊢;generalize (hd l).kind = k;generalize (hd l).str = s;generalize (hd l).kids.length = q;have hfd : ∀ w' : World, (Instr.field 57 (.agg #[.int .i64 k, .int .u64 (m : Int), .string s, .slice V q cv]) 1).run Tryz.prog w' = .ok (.int .u64 (m : Int)) w' := fun _ => by kernel_rfl
 clear hl hg hp1 hr1 hn1 H1;go_wp2_with fail
 go_ret;exact HF.out
end Go.Proofs.YthlhchaoedcdbaaGreatDoor.Mg
/- What holds between the steps of read: the message so far in its box, the queue in its own. -/
namespace Go.Proofs.YthlhchaoedcdbaaGreatDoor.Mg
open Lib (hid)
open Go.RowKit Mem Ids Att Cod Rk
def Inv (W0 : World) (P M : Nat) (S : Nat → Prop) (C : Array Value) (V : Option Addr) (nv cv : Nat) (dp : List (Int × Int)) (l : List It) (wx : World) : Prop :=
 Blk wx M 32 C ∧ Rs wx V nv cv dp ∧ (∀ g o, V = some ⟨g, o, none⟩ → M + 1 ≤ g) ∧ (∃ A n c, Blk wx P 143 #[.slice A n c] ∧ Cod.Row wx S A n c l ∧ n ≤ 9223372036854775807) ∧ Below P W0 wx
section
variable {W0 wx w' : World} {P M : Nat} {S : Nat → Prop} {C : Array Value} {V : Option Addr} {nv cv : Nat} {dp : List (Int × Int)} {l l' : List It}
theorem Inv.bel (h : Inv W0 P M S C V nv cv dp l wx) (hS : ∀ b, S b → b < P) (hb : Below wx.heap.size wx w') : Inv W0 P M S C V nv cv dp l w' := by
 obtain ⟨h1, h2, h3, ⟨A, n, c, h4, h5, h6⟩, h7⟩ := h;have hp := h4.lt;exact ⟨h1.bel hb, h2.below hb, h3, ⟨A, n, c, h4.bel hb, h5.below hb (fun b hb => by have := hS b hb; omega), h6⟩, h7.trans (hb.mono (by omega))⟩
theorem Inv.step (h : Inv W0 P M S C V nv cv dp l wx) (hPM : P < M) {A : Option Addr} {n c : Nat} (hg : wx.grownBy w' (some P)) (hp : Blk w' P 143 #[.slice A n c]) (hr : Cod.Row w' S A n c l') (hn : n ≤ 9223372036854775807) : Inv W0 P M S C V nv cv dp l' w' := by
 obtain ⟨h1, h2, h3, ⟨_, _, _, h4, _, _⟩, h7⟩ := h;have hpl := h4.lt;exact ⟨h1.grown hg (fun e => by injection e with e; omega), h2.grown hg (fun g o e k => by injection k with k; have := h3 g o e; omega), h3, ⟨A, n, c, hp, hr, hn⟩, h7.grown hg (by omega) (fun k hk => by injection hk with hk; omega)⟩
theorem Inv.set (h : Inv W0 P M S C V nv cv dp l wx) (hPM : P < M) (hS : ∀ b, S b → b < P) (i : Nat) (u : Value) : Inv W0 P M S (C.setIfInBounds i u) V nv cv dp l (wx.setCell ⟨M, i, none⟩ u) := by
 obtain ⟨h1, h2, h3, ⟨A, n, c, h4, h5, h6⟩, h7⟩ := h;have hg : wx.grownBy (wx.setCell ⟨M, i, none⟩ u) (some M) := gr_set (gr_refl wx (some M)) (.inl rfl) _;have hpl := h4.lt;exact ⟨h1.put i u, h2.grown hg (fun g o e k => by injection k with k; have := h3 g o e; omega), h3, ⟨A, n, c, h4.grown hg (fun e => by injection e with e; omega), h5.grown hg (fun b hb e => by injection e with e; have := hS b hb; omega), h6⟩, h7.grown hg (by omega) (fun k hk => by injection hk with hk; omega)⟩
theorem Inv.swap (h : Inv W0 P M S C V nv cv dp l wx) {V' : Option Addr} {nv' cv' : Nat} {dp' : List (Int × Int)} (hr : Rs wx V' nv' cv' dp') (hn : ∀ g o, V' = some ⟨g, o, none⟩ → M + 1 ≤ g) : Inv W0 P M S C V' nv' cv' dp' l wx :=
 ⟨h.1, hr, hn, h.2.2.2⟩
theorem Inv.number (h : Inv W0 P M S C V nv cv dp l wx) (hPM : P < M) (hS : ∀ b, S b → b < P) {v : Int} (hv : Cmd.w64 (hd l).num = v) :
 Calls Tryz.prog 114 #[.pointer (some ⟨P, 0, none⟩)] wx fun e w' => e = .returned (.int .i64 v) ∧ Inv W0 P M S C V nv cv dp (tl l) w' := by
 obtain ⟨A, n, c, h4, h5, h6⟩ := h.2.2.2.1;have hp := h4.lt;refine (qnum_any P A n c l S wx h5 h6 h4 (fun hb => by have := hS _ hb; omega) (fun b hb => by have := hS b hb; omega)).mono ?_;rintro e w1 ⟨A', n', c', rfl, hg, hp1, hr1, hn1⟩;rw [hv];exact ⟨rfl, h.step hPM hg hp1 hr1 hn1⟩
theorem Inv.next (h : Inv W0 P M S C V nv cv dp l wx) (hPM : P < M) (hS : ∀ b, S b → b < P) {y : It} (hy : hd l = y) :
 Calls Tryz.prog 116 #[.pointer (some ⟨P, 0, none⟩)] wx fun e w' => ∃ D d, e = .returned (.agg #[.int .i64 y.kind, .int .u64 (y.num : Int), .string y.str, .slice D y.kids.length d]) ∧ Lies w' S y D d ∧ Inv W0 P M S C V nv cv dp (tl l) w' := by
 obtain ⟨A, n, c, h4, h5, h6⟩ := h.2.2.2.1;have hp := h4.lt;refine (qnext_any P A n c l S wx h5 h6 h4 (fun hb => by have := hS _ hb; omega) (fun b hb => by have := hS b hb; omega)).mono ?_;rintro e w1 ⟨D, d, A', n', c', rfl, hl, hg, hp1, hr1, hn1⟩;rw [hy] at hl ⊢;exact ⟨D, d, rfl, hl, h.step hPM hg hp1 hr1 hn1⟩
theorem Inv.low (h : Inv W0 P M S C V nv cv dp l wx) (hS : ∀ b, S b → b < P) : ∀ b, S b → b < wx.heap.size := fun b hb => by
 obtain ⟨A, n, c, h4, _⟩ := h.2.2.2.1;have := h4.lt;have := hS b hb;omega
end
theorem q1_yes {m : Mg} {l : List It} (h : hId m = true) {a b : Int} (ha : Cmd.w64 (hd l).num = a) (hb : Cmd.w64 (hd (tl l)).num = b) : q1 (m, l) = ({ m with id := (a, b) }, tl (tl l)) := by subst ha hb; exact if_pos h
theorem q1_no {m : Mg} {l : List It} (h : hId m = false) : q1 (m, l) = (m, l) := if_neg (by simp [h])
theorem q2_yes {m : Mg} {l : List It} (h : hBal m = true) {b : Int × Int} (hb : (Bal.balTake (hd l)).getD (0, 0) = b) : q2 (m, l) = ({ m with bl := b }, tl l) := by subst hb; exact if_pos h
theorem q2_no {m : Mg} {l : List It} (h : hBal m = false) : q2 (m, l) = (m, l) := if_neg (by simp [h])
theorem q3_yes {m : Mg} {l : List It} (h : decide (m.kd = 7) = true) {s : Int} {b : Int × Int} (hs : Cmd.w64 (hd l).num = s) (hb : (Bal.balTake (hd (tl l))).getD (0, 0) = b) : q3 (m, l) = ({ m with st := s, tk := b }, tl (tl l)) := by subst hs hb; exact if_pos (of_decide_eq_true h)
theorem q3_no {m : Mg} {l : List It} (h : decide (m.kd = 7) = false) : q3 (m, l) = (m, l) := if_neg (of_decide_eq_false h)
theorem q4_yes {m : Mg} {l : List It} (h : hCmd m = true) {c : Cmd.Cm} (hc : (Cmd.takeOf (hd l)).getD Cmd.zeroCm = c) : q4 (m, l) = ({ m with cm := c }, tl l) := by subst hc; exact if_pos h
theorem q4_no {m : Mg} {l : List It} (h : hCmd m = false) : q4 (m, l) = (m, l) := if_neg (by simp [h])
theorem q5_yes {m : Mg} {l : List It} (h : hAt m = true) {a : At} (ha : (attTake (hd l)).getD zeroAt = a) : q5 (m, l) = ({ m with at_ := a }, tl l) := by subst ha; exact if_pos h
theorem q5_no {m : Mg} {l : List It} (h : hAt m = false) : q5 (m, l) = (m, l) := if_neg (by simp [h])
theorem q6_yes {m : Mg} {l : List It} (h : decide (m.kd = 9) = true) {v : Int} (hv : Cmd.w64 (hd l).num = v) : q6 (m, l) = ({ m with vn := v }, tl l) := by subst hv; exact if_pos (of_decide_eq_true h)
theorem q6_no {m : Mg} {l : List It} (h : decide (m.kd = 9) = false) : q6 (m, l) = (m, l) := if_neg (of_decide_eq_false h)
def ReadsMg (w : World) (m : Mg) (e : Ending) (w' : World) : Prop :=
 ∃ V n c, e = .returned (.agg #[.int .i64 m.kd, .int .i64 m.id.1, .int .i64 m.id.2, .int .i64 m.bl.1, .int .i64 m.bl.2, .int .i64 m.tk.1, .int .i64 m.tk.2, .int .i64 m.st, .int .i64 m.cm.kd, .int .i64 m.cm.cl, .int .i64 m.cm.sq, .string m.cm.ky, .string m.cm.vl, .int .i64 m.cm.rv, .slice V n c, .int .i64 m.at_.sq, .int .i64 m.at_.tg, .int .i64 m.vn]) ∧ Rs w' V n c m.at_.dp ∧ (∀ g o, V = some ⟨g, o, none⟩ → w.heap.size ≤ g) ∧ Below w.heap.size w w'
end Go.Proofs.YthlhchaoedcdbaaGreatDoor.Mg
/- The program's read: the message that parts say, whatever they are. -/
namespace Go.Proofs.YthlhchaoedcdbaaGreatDoor.Mg
open Lib (hid)
open Go.RowKit Mem Ids Att Cod Rk
set_option maxRecDepth 100000 in
set_option maxHeartbeats 8000000 in
theorem ownread_any (A : Option Addr) (n c : Nat) (l : List It) (S : Nat → Prop) (w : World) (hr : Cod.Row w S A n c l) (hn : n ≤ 9223372036854775807) (hN : Nam w) (hS : ∀ b, S b → b < w.heap.size) :
 Calls Tryz.prog 73 #[.slice A n c] w (ReadsMg w (readOwn l)) := by
 obtain ⟨W, hW⟩ : ∃ W, (w.alloc (.cells #[.int .i64 0, .int .i64 0, .int .i64 0, .int .i64 0, .int .i64 0, .int .i64 0, .int .i64 0, .int .i64 0, .int .i64 0, .int .i64 0, .int .i64 0, .string ⟨#[]⟩, .string ⟨#[]⟩, .int .i64 0, .slice none 0 0, .int .i64 0, .int .i64 0, .int .i64 0] 32)).alloc (.cells #[.slice A n c] 143) = W := ⟨_, rfl⟩
 obtain ⟨k1, k2, kb, hsW⟩ := two_kinds w _ _ _ _ W hW
 have hW0 : Below (w.heap.size + 1) (w.alloc (.cells #[.int .i64 0, .int .i64 0, .int .i64 0, .int .i64 0, .int .i64 0, .int .i64 0, .int .i64 0, .int .i64 0, .int .i64 0, .int .i64 0, .int .i64 0, .string ⟨#[]⟩, .string ⟨#[]⟩, .int .i64 0, .slice none 0 0, .int .i64 0, .int .i64 0, .int .i64 0] 32)) W := by
  have h := bel_alloc (Below.refl (w.alloc (.cells #[.int .i64 0, .int .i64 0, .int .i64 0, .int .i64 0, .int .i64 0, .int .i64 0, .int .i64 0, .int .i64 0, .int .i64 0, .int .i64 0, .int .i64 0, .string ⟨#[]⟩, .string ⟨#[]⟩, .int .i64 0, .slice none 0 0, .int .i64 0, .int .i64 0, .int .i64 0] 32)).heap.size (w.alloc (.cells #[.int .i64 0, .int .i64 0, .int .i64 0, .int .i64 0, .int .i64 0, .int .i64 0, .int .i64 0, .int .i64 0, .int .i64 0, .int .i64 0, .int .i64 0, .string ⟨#[]⟩, .string ⟨#[]⟩, .int .i64 0, .slice none 0 0, .int .i64 0, .int .i64 0, .int .i64 0] 32))) (.cells #[.slice A n c] 143);rw [hW, size_alloc] at h;exact h
 have hz0 := Blk.new w 32 #[.int .i64 0, .int .i64 0, .int .i64 0, .int .i64 0, .int .i64 0, .int .i64 0, .int .i64 0, .int .i64 0, .int .i64 0, .int .i64 0, .int .i64 0, .string ⟨#[]⟩, .string ⟨#[]⟩, .int .i64 0, .slice none 0 0, .int .i64 0, .int .i64 0, .int .i64 0];have hb0 := bel_alloc (Below.refl w.heap.size w) (.cells #[.int .i64 0, .int .i64 0, .int .i64 0, .int .i64 0, .int .i64 0, .int .i64 0, .int .i64 0, .int .i64 0, .int .i64 0, .int .i64 0, .int .i64 0, .string ⟨#[]⟩, .string ⟨#[]⟩, .int .i64 0, .slice none 0 0, .int .i64 0, .int .i64 0, .int .i64 0] 32);have hN0 := hN.below hb0;have hs0 := size_alloc w (.cells #[.int .i64 0, .int .i64 0, .int .i64 0, .int .i64 0, .int .i64 0, .int .i64 0, .int .i64 0, .int .i64 0, .int .i64 0, .int .i64 0, .int .i64 0, .string ⟨#[]⟩, .string ⟨#[]⟩, .int .i64 0, .slice none 0 0, .int .i64 0, .int .i64 0, .int .i64 0] 32);obtain ⟨W0, hWW0⟩ : ∃ W0, w.alloc (.cells #[.int .i64 0, .int .i64 0, .int .i64 0, .int .i64 0, .int .i64 0, .int .i64 0, .int .i64 0, .int .i64 0, .int .i64 0, .int .i64 0, .int .i64 0, .string ⟨#[]⟩, .string ⟨#[]⟩, .int .i64 0, .slice none 0 0, .int .i64 0, .int .i64 0, .int .i64 0] 32) = W0 := ⟨_, rfl⟩
 rw [hWW0] at hW0 hz0 hb0 hN0 hs0;have HZ := hid hz0;have HB := hid hb0;have HS0 := hid hs0;have HW := hid hW;have HNM := hid (fun wx (hb : Below (w.heap.size + 1) W0 wx) => show Nam wx from hN0.below (by rw [hs0]; exact hb));have hSP : ∀ b, S b → b < (w.heap.size + 1) := fun b hb => by have := hS b hb; omega
 have HSP := hid hSP;have hq := qnum_any (w.heap.size + 1) A n c l S W (hr.below kb hS) hn k2 (fun hb => by have := hS _ hb; omega) (fun b hb => by have := hS b hb; omega);have HQ := hid hq;have HW0 := hid hW0;have HSW := hid hsW;clear hr hn hN hS k1 k2 kb hsW hW0 hz0 hb0 hN0 hs0 hSP hq hWW0 hW;go_enter Tryz.func73, Tryz.ntmps73
 go_upto_region 2 with fail
 rw [HW.out];go_wp2_with fail
 refine HQ.out.mono ?_;rintro e u0 ⟨A0, n0, c0, rfl, hg0, hp0, hr0, hn0⟩;obtain ⟨v0, hv0⟩ : ∃ v, Cmd.w64 (hd l).num = v := ⟨_, rfl⟩
 rw [hv0];obtain ⟨p, hp⟩ : ∃ p, u0.heap.size = p := ⟨_, rfl⟩
 have hPM : (w.heap.size + 1) < p := by have := hp0.lt; omega
 have hI : Inv W0 (w.heap.size + 1) p S #[.int .i64 v0, .int .i64 0, .int .i64 0, .int .i64 0, .int .i64 0, .int .i64 0, .int .i64 0, .int .i64 0, .int .i64 0, .int .i64 0, .int .i64 0, .string ⟨#[]⟩, .string ⟨#[]⟩, .int .i64 0, .slice none 0 0, .int .i64 0, .int .i64 0, .int .i64 0] none 0 0 [] (tl l) (u0.alloc (.cells #[.int .i64 v0, .int .i64 0, .int .i64 0, .int .i64 0, .int .i64 0, .int .i64 0, .int .i64 0, .int .i64 0, .int .i64 0, .int .i64 0, .int .i64 0, .string ⟨#[]⟩, .string ⟨#[]⟩, .int .i64 0, .slice none 0 0, .int .i64 0, .int .i64 0, .int .i64 0] 32)) := by
  have hb1 := bel_alloc (Below.refl u0.heap.size u0) (.cells #[.int .i64 v0, .int .i64 0, .int .i64 0, .int .i64 0, .int .i64 0, .int .i64 0, .int .i64 0, .int .i64 0, .int .i64 0, .int .i64 0, .int .i64 0, .string ⟨#[]⟩, .string ⟨#[]⟩, .int .i64 0, .slice none 0 0, .int .i64 0, .int .i64 0, .int .i64 0] 32);have hk := Blk.new u0 32 #[.int .i64 v0, .int .i64 0, .int .i64 0, .int .i64 0, .int .i64 0, .int .i64 0, .int .i64 0, .int .i64 0, .int .i64 0, .int .i64 0, .int .i64 0, .string ⟨#[]⟩, .string ⟨#[]⟩, .int .i64 0, .slice none 0 0, .int .i64 0, .int .i64 0, .int .i64 0];rw [hp] at hk;have hsw := HSW.out;have hgs := hg0.size;exact ⟨hk, Rs.nil_ _, (fun _ _ e => by cases e), ⟨A0, n0, c0, hp0.bel hb1, hr0.below hb1 (fun b hb => by have := HSP.out b hb; omega), hn0⟩, (HW0.out.grown hg0 (by omega) (fun k hk => by injection hk with hk; omega)).trans (hb1.mono (by omega))⟩
 obtain ⟨X0, hX0⟩ : ∃ X0, u0.alloc (.cells #[.int .i64 v0, .int .i64 0, .int .i64 0, .int .i64 0, .int .i64 0, .int .i64 0, .int .i64 0, .int .i64 0, .int .i64 0, .int .i64 0, .int .i64 0, .string ⟨#[]⟩, .string ⟨#[]⟩, .int .i64 0, .slice none 0 0, .int .i64 0, .int .i64 0, .int .i64 0] 32) = X0 := ⟨_, rfl⟩
 rw [hX0] at hI;have HX0 := hid hX0;have HP := hid hp;have HG := hid hI;have HPM := hid hPM;have HQ0 := hid (show q0 l = (⟨v0, (0, 0), (0, 0), (0, 0), 0, ⟨0, 0, 0, ⟨#[]⟩, ⟨#[]⟩, 0⟩, ⟨[], 0, 0⟩, 0⟩, tl l) from by rw [← hv0]; rfl);clear hg0 hp0 hr0 hn0 hI hX0 hp hPM hv0 HQ HSW HW0;generalize tl l = l0 at HG HQ0;go_upto_region 3 with fail
 rw [HX0.out, HP.out];clear HX0 HP;obtain ⟨t0, ht0⟩ : ∃ t, hId ⟨v0, (0, 0), (0, 0), (0, 0), 0, ⟨0, 0, 0, ⟨#[]⟩, ⟨#[]⟩, 0⟩, ⟨[], 0, 0⟩, 0⟩ = t := ⟨_, rfl⟩
 have CT := fun w h => has_id v0 0 0 0 0 0 0 0 0 0 0 ⟨#[]⟩ ⟨#[]⟩ 0 none 0 0 0 0 0 [] w h;rw [ht0] at CT;have HCT := hid CT;have HT0 := hid ht0;clear CT ht0;go_cut [10] from 5 (fun cv wx => cv = .bool t0 ∧ Inv W0 (w.heap.size + 1) p S #[.int .i64 v0, .int .i64 0, .int .i64 0, .int .i64 0, .int .i64 0, .int .i64 0, .int .i64 0, .int .i64 0, .int .i64 0, .int .i64 0, .int .i64 0, .string ⟨#[]⟩, .string ⟨#[]⟩, .int .i64 0, .slice none 0 0, .int .i64 0, .int .i64 0, .int .i64 0] none 0 0 [] l0 wx)
 case first =>
  have hbk : Blk X0 p 32 #[.int .i64 v0, .int .i64 0, .int .i64 0, .int .i64 0, .int .i64 0, .int .i64 0, .int .i64 0, .int .i64 0, .int .i64 0, .int .i64 0, .int .i64 0, .string ⟨#[]⟩, .string ⟨#[]⟩, .int .i64 0, .slice none 0 0, .int .i64 0, .int .i64 0, .int .i64 0] := HG.out.1;have HBK := hid hbk;clear hbk;go_wp2_with (with_reducible refine wpList_load_blk_w 32 _ rfl p 32 #[.int .i64 v0, .int .i64 0, .int .i64 0, .int .i64 0, .int .i64 0, .int .i64 0, .int .i64 0, .int .i64 0, .int .i64 0, .int .i64 0, .int .i64 0, .string ⟨#[]⟩, .string ⟨#[]⟩, .int .i64 0, .slice none 0 0, .int .i64 0, .int .i64 0, .int .i64 0] _ ?_ ?_ HBK.out Tryz.underlying32 ?_ ?_ ?_; (focus kernel_rfl); (focus kernel_rfl); (focus rfl); (focus kernel_rfl))
  refine (HCT.out _ (HNM.out _ HG.out.2.2.2.2)).mono ?_;rintro e u1 ⟨rfl, hb1⟩;go_wp2_with fail
  go_meet
  case rel => exact ⟨rfl, HG.out.bel HSP.out hb1⟩
 case rest =>
  obtain ⟨rfl, hG⟩ := hcut;clear HG HCT;generalize wc = Wy0 at hG ⊢;have HG := hid hG;clear hG;go_upto_if 10 with fail
  go_cut [] from 5 (fun wx => ∃ (R1 : Int) (N1 : Int) (l1 : List It), ((⟨v0, (R1, N1), (0, 0), (0, 0), 0, ⟨0, 0, 0, ⟨#[]⟩, ⟨#[]⟩, 0⟩, ⟨[], 0, 0⟩, 0⟩ : Mg), l1) = q1 (⟨v0, (0, 0), (0, 0), (0, 0), 0, ⟨0, 0, 0, ⟨#[]⟩, ⟨#[]⟩, 0⟩, ⟨[], 0, 0⟩, 0⟩, l0) ∧ Inv W0 (w.heap.size + 1) p S #[.int .i64 v0, .int .i64 R1, .int .i64 N1, .int .i64 0, .int .i64 0, .int .i64 0, .int .i64 0, .int .i64 0, .int .i64 0, .int .i64 0, .int .i64 0, .string ⟨#[]⟩, .string ⟨#[]⟩, .int .i64 0, .slice none 0 0, .int .i64 0, .int .i64 0, .int .i64 0] none 0 0 [] l1 wx)
  case first =>
   cases t0 with
   | false =>
     go_wp2_with fail
     go_meet
     case rel => exact ⟨0, 0, l0, (q1_no (m := ⟨v0, (0, 0), (0, 0), (0, 0), 0, ⟨0, 0, 0, ⟨#[]⟩, ⟨#[]⟩, 0⟩, ⟨[], 0, 0⟩, 0⟩) HT0.out).symm, HG.out⟩
   | true =>
     go_wp2_with fail
     obtain ⟨v1, hv1⟩ : ∃ v, Cmd.w64 (hd (l0)).num = v := ⟨_, rfl⟩
     have HVv1 := hid hv1;clear hv1;refine (Inv.number HG.out HPM.out HSP.out HVv1.out).mono ?_;rintro e u1 ⟨rfl, hI⟩;have HI := hid hI;clear hI;have c1 := HI.out.1.cell 1;have z1 := HI.out.1.soft 1;simp at c1;go_upto_region 5 with fail
     clear c1 z1;have hI2 : Inv W0 (w.heap.size + 1) p S #[.int .i64 v0, .int .i64 v1, .int .i64 0, .int .i64 0, .int .i64 0, .int .i64 0, .int .i64 0, .int .i64 0, .int .i64 0, .int .i64 0, .int .i64 0, .string ⟨#[]⟩, .string ⟨#[]⟩, .int .i64 0, .slice none 0 0, .int .i64 0, .int .i64 0, .int .i64 0] none 0 0 [] (tl l0) (u1.setCell ⟨p, 1, none⟩ (.int .i64 v1)) := (by simpa using (HI.out.set HPM.out HSP.out 1 (.int .i64 v1)));generalize u1.setCell ⟨p, 1, none⟩ (.int .i64 v1) = U2 at hI2 ⊢;have HI2 := hid hI2;clear HI hI2;go_wp2_with fail
     obtain ⟨v2, hv2⟩ : ∃ v, Cmd.w64 (hd (tl l0)).num = v := ⟨_, rfl⟩
     have HVv2 := hid hv2;clear hv2;refine (Inv.number HI2.out HPM.out HSP.out HVv2.out).mono ?_;rintro e u3 ⟨rfl, hI⟩;have HI := hid hI;clear hI;have c2 := HI.out.1.cell 2;have z2 := HI.out.1.soft 2;simp at c2;go_wp2_with fail
     go_meet
     case rel => exact ⟨v1, v2, tl (tl l0), (q1_yes (m := ⟨v0, (0, 0), (0, 0), (0, 0), 0, ⟨0, 0, 0, ⟨#[]⟩, ⟨#[]⟩, 0⟩, ⟨[], 0, 0⟩, 0⟩) HT0.out HVv1.out HVv2.out).symm, by simpa using (HI.out.set HPM.out HSP.out 2 (.int .i64 v2))⟩
  case rest =>
   obtain ⟨R1, N1, l1, hq, hG⟩ := hcut;clear HG;generalize wc = X1 at hG ⊢;have HG := hid hG;have HQ1 := hid hq;clear hG hq;go_upto_region 6 with fail
   obtain ⟨t1, ht1⟩ : ∃ t, hBal ⟨v0, (R1, N1), (0, 0), (0, 0), 0, ⟨0, 0, 0, ⟨#[]⟩, ⟨#[]⟩, 0⟩, ⟨[], 0, 0⟩, 0⟩ = t := ⟨_, rfl⟩
   have CT := fun w h => has_bal v0 R1 N1 0 0 0 0 0 0 0 0 ⟨#[]⟩ ⟨#[]⟩ 0 none 0 0 0 0 0 [] w h;rw [ht1] at CT;have HCT := hid CT;have HT1 := hid ht1;clear CT ht1;go_cut [18] from 5 (fun cv wx => cv = .bool t1 ∧ Inv W0 (w.heap.size + 1) p S #[.int .i64 v0, .int .i64 R1, .int .i64 N1, .int .i64 0, .int .i64 0, .int .i64 0, .int .i64 0, .int .i64 0, .int .i64 0, .int .i64 0, .int .i64 0, .string ⟨#[]⟩, .string ⟨#[]⟩, .int .i64 0, .slice none 0 0, .int .i64 0, .int .i64 0, .int .i64 0] none 0 0 [] l1 wx)
   case first =>
    have hbk : Blk X1 p 32 #[.int .i64 v0, .int .i64 R1, .int .i64 N1, .int .i64 0, .int .i64 0, .int .i64 0, .int .i64 0, .int .i64 0, .int .i64 0, .int .i64 0, .int .i64 0, .string ⟨#[]⟩, .string ⟨#[]⟩, .int .i64 0, .slice none 0 0, .int .i64 0, .int .i64 0, .int .i64 0] := HG.out.1;have HBK := hid hbk;clear hbk;go_wp2_with (with_reducible refine wpList_load_blk_w 32 _ rfl p 32 #[.int .i64 v0, .int .i64 R1, .int .i64 N1, .int .i64 0, .int .i64 0, .int .i64 0, .int .i64 0, .int .i64 0, .int .i64 0, .int .i64 0, .int .i64 0, .string ⟨#[]⟩, .string ⟨#[]⟩, .int .i64 0, .slice none 0 0, .int .i64 0, .int .i64 0, .int .i64 0] _ ?_ ?_ HBK.out Tryz.underlying32 ?_ ?_ ?_; (focus kernel_rfl); (focus kernel_rfl); (focus rfl); (focus kernel_rfl))
    refine (HCT.out _ (HNM.out _ HG.out.2.2.2.2)).mono ?_;rintro e u1 ⟨rfl, hb1⟩;go_wp2_with fail
    go_meet
    case rel => exact ⟨rfl, HG.out.bel HSP.out hb1⟩
   case rest =>
    obtain ⟨rfl, hG⟩ := hcut;clear HG HCT;generalize wc = Wy1 at hG ⊢;have HG := hid hG;clear hG;go_upto_if 18 with fail
    go_cut [] from 5 (fun wx => ∃ (B2 : Int) (C2 : Int) (l2 : List It), ((⟨v0, (R1, N1), (B2, C2), (0, 0), 0, ⟨0, 0, 0, ⟨#[]⟩, ⟨#[]⟩, 0⟩, ⟨[], 0, 0⟩, 0⟩ : Mg), l2) = q2 (⟨v0, (R1, N1), (0, 0), (0, 0), 0, ⟨0, 0, 0, ⟨#[]⟩, ⟨#[]⟩, 0⟩, ⟨[], 0, 0⟩, 0⟩, l1) ∧ Inv W0 (w.heap.size + 1) p S #[.int .i64 v0, .int .i64 R1, .int .i64 N1, .int .i64 B2, .int .i64 C2, .int .i64 0, .int .i64 0, .int .i64 0, .int .i64 0, .int .i64 0, .int .i64 0, .string ⟨#[]⟩, .string ⟨#[]⟩, .int .i64 0, .slice none 0 0, .int .i64 0, .int .i64 0, .int .i64 0] none 0 0 [] l2 wx)
    case first =>
     cases t1 with
     | false =>
       go_wp2_with fail
       go_meet
       case rel => exact ⟨0, 0, l1, (q2_no (m := ⟨v0, (R1, N1), (0, 0), (0, 0), 0, ⟨0, 0, 0, ⟨#[]⟩, ⟨#[]⟩, 0⟩, ⟨[], 0, 0⟩, 0⟩) HT1.out).symm, HG.out⟩
     | true =>
       go_wp2_with fail
       obtain ⟨y, hy⟩ : ∃ y, hd (l1) = y := ⟨_, rfl⟩
       have HYy := hid hy;clear hy;refine (Inv.next HG.out HPM.out HSP.out HYy.out).mono ?_;rintro e u1 ⟨D, d, rfl, hl, hI⟩;have HI := hid hI;have HLY := hid hl;clear hI hl;have hbt := Bal.baltake_any y D d S u1 HLY.out (HI.out.low HSP.out);unfold Bal.BalTakes at hbt;obtain ⟨⟨b1, b2⟩, hb⟩ : ∃ b, (Bal.balTake y).getD (0, 0) = b := ⟨_, rfl⟩
       rw [hb] at hbt;simp only at hbt;have HBT := hid hbt;have HVb := hid (show (Bal.balTake (hd (l1))).getD (0, 0) = (b1, b2) from by rw [HYy.out]; exact hb);clear hbt hb;go_wp2_with fail
       refine HBT.out.mono ?_;rintro e u2 ⟨rfl, hb1⟩;have hI := HI.out.bel HSP.out hb1;clear HI HLY HBT hb1;have HI := hid hI;clear hI;have c3 := HI.out.1.cell 3;have z3 := HI.out.1.soft 3;have c4 := HI.out.1.cell 4;have z4 := HI.out.1.soft 4;simp at c3 c4;go_wp2_with fail
       go_meet
       case rel => exact ⟨b1, b2, tl l1, (q2_yes (m := ⟨v0, (R1, N1), (0, 0), (0, 0), 0, ⟨0, 0, 0, ⟨#[]⟩, ⟨#[]⟩, 0⟩, ⟨[], 0, 0⟩, 0⟩) HT1.out HVb.out).symm, by simpa using ((HI.out.set HPM.out HSP.out 3 (.int .i64 b1)).set HPM.out HSP.out 4 (.int .i64 b2))⟩
    case rest =>
     obtain ⟨B2, C2, l2, hq, hG⟩ := hcut;clear HG;generalize wc = X2 at hG ⊢;have HG := hid hG;have HQ2 := hid hq;clear hG hq;go_upto_region 8 with fail
     obtain ⟨t2, ht2⟩ : ∃ t, decide (v0 = 7) = t := ⟨_, rfl⟩
     have CT := fun w h => has_state v0 R1 N1 B2 C2 0 0 0 0 0 0 ⟨#[]⟩ ⟨#[]⟩ 0 none 0 0 0 0 0 [] w h;rw [ht2] at CT;have HCT := hid CT;have HT2 := hid ht2;clear CT ht2;go_cut [26] from 5 (fun cv wx => cv = .bool t2 ∧ Inv W0 (w.heap.size + 1) p S #[.int .i64 v0, .int .i64 R1, .int .i64 N1, .int .i64 B2, .int .i64 C2, .int .i64 0, .int .i64 0, .int .i64 0, .int .i64 0, .int .i64 0, .int .i64 0, .string ⟨#[]⟩, .string ⟨#[]⟩, .int .i64 0, .slice none 0 0, .int .i64 0, .int .i64 0, .int .i64 0] none 0 0 [] l2 wx)
     case first =>
      have hbk : Blk X2 p 32 #[.int .i64 v0, .int .i64 R1, .int .i64 N1, .int .i64 B2, .int .i64 C2, .int .i64 0, .int .i64 0, .int .i64 0, .int .i64 0, .int .i64 0, .int .i64 0, .string ⟨#[]⟩, .string ⟨#[]⟩, .int .i64 0, .slice none 0 0, .int .i64 0, .int .i64 0, .int .i64 0] := HG.out.1;have HBK := hid hbk;clear hbk;go_wp2_with (with_reducible refine wpList_load_blk_w 32 _ rfl p 32 #[.int .i64 v0, .int .i64 R1, .int .i64 N1, .int .i64 B2, .int .i64 C2, .int .i64 0, .int .i64 0, .int .i64 0, .int .i64 0, .int .i64 0, .int .i64 0, .string ⟨#[]⟩, .string ⟨#[]⟩, .int .i64 0, .slice none 0 0, .int .i64 0, .int .i64 0, .int .i64 0] _ ?_ ?_ HBK.out Tryz.underlying32 ?_ ?_ ?_; (focus kernel_rfl); (focus kernel_rfl); (focus rfl); (focus kernel_rfl))
      refine (HCT.out _ (HNM.out _ HG.out.2.2.2.2)).mono ?_;rintro e u1 ⟨rfl, hb1⟩;go_wp2_with fail
      go_meet
      case rel => exact ⟨rfl, HG.out.bel HSP.out hb1⟩
     case rest =>
      obtain ⟨rfl, hG⟩ := hcut;clear HG HCT;generalize wc = Wy2 at hG ⊢;have HG := hid hG;clear hG;go_upto_if 26 with fail
      go_cut [] from 5 (fun wx => ∃ (T3 : Int) (U3 : Int) (S3 : Int) (l3 : List It), ((⟨v0, (R1, N1), (B2, C2), (T3, U3), S3, ⟨0, 0, 0, ⟨#[]⟩, ⟨#[]⟩, 0⟩, ⟨[], 0, 0⟩, 0⟩ : Mg), l3) = q3 (⟨v0, (R1, N1), (B2, C2), (0, 0), 0, ⟨0, 0, 0, ⟨#[]⟩, ⟨#[]⟩, 0⟩, ⟨[], 0, 0⟩, 0⟩, l2) ∧ Inv W0 (w.heap.size + 1) p S #[.int .i64 v0, .int .i64 R1, .int .i64 N1, .int .i64 B2, .int .i64 C2, .int .i64 T3, .int .i64 U3, .int .i64 S3, .int .i64 0, .int .i64 0, .int .i64 0, .string ⟨#[]⟩, .string ⟨#[]⟩, .int .i64 0, .slice none 0 0, .int .i64 0, .int .i64 0, .int .i64 0] none 0 0 [] l3 wx)
      case first =>
       cases t2 with
       | false =>
         go_wp2_with fail
         go_meet
         case rel => exact ⟨0, 0, 0, l2, (q3_no (m := ⟨v0, (R1, N1), (B2, C2), (0, 0), 0, ⟨0, 0, 0, ⟨#[]⟩, ⟨#[]⟩, 0⟩, ⟨[], 0, 0⟩, 0⟩) HT2.out).symm, HG.out⟩
       | true =>
         go_wp2_with fail
         obtain ⟨v1, hv1⟩ : ∃ v, Cmd.w64 (hd (l2)).num = v := ⟨_, rfl⟩
         have HVv1 := hid hv1;clear hv1;refine (Inv.number HG.out HPM.out HSP.out HVv1.out).mono ?_;rintro e u1 ⟨rfl, hI⟩;have HI := hid hI;clear hI;have c7 := HI.out.1.cell 7;have z7 := HI.out.1.soft 7;simp at c7;go_upto_region 10 with fail
         clear c7 z7;have hI2 : Inv W0 (w.heap.size + 1) p S #[.int .i64 v0, .int .i64 R1, .int .i64 N1, .int .i64 B2, .int .i64 C2, .int .i64 0, .int .i64 0, .int .i64 v1, .int .i64 0, .int .i64 0, .int .i64 0, .string ⟨#[]⟩, .string ⟨#[]⟩, .int .i64 0, .slice none 0 0, .int .i64 0, .int .i64 0, .int .i64 0] none 0 0 [] (tl l2) (u1.setCell ⟨p, 7, none⟩ (.int .i64 v1)) := (by simpa using (HI.out.set HPM.out HSP.out 7 (.int .i64 v1)));generalize u1.setCell ⟨p, 7, none⟩ (.int .i64 v1) = U2 at hI2 ⊢;have HI2 := hid hI2;clear HI hI2;go_wp2_with fail
         obtain ⟨y, hy⟩ : ∃ y, hd (tl l2) = y := ⟨_, rfl⟩
         have HYy := hid hy;clear hy;refine (Inv.next HI2.out HPM.out HSP.out HYy.out).mono ?_;rintro e u1 ⟨D, d, rfl, hl, hI⟩;have HI := hid hI;have HLY := hid hl;clear hI hl;have hbt := Bal.baltake_any y D d S u1 HLY.out (HI.out.low HSP.out);unfold Bal.BalTakes at hbt;obtain ⟨⟨b1, b2⟩, hb⟩ : ∃ b, (Bal.balTake y).getD (0, 0) = b := ⟨_, rfl⟩
         rw [hb] at hbt;simp only at hbt;have HBT := hid hbt;have HVb := hid (show (Bal.balTake (hd (tl l2))).getD (0, 0) = (b1, b2) from by rw [HYy.out]; exact hb);clear hbt hb;go_wp2_with fail
         refine HBT.out.mono ?_;rintro e u3 ⟨rfl, hb1⟩;have hI := HI.out.bel HSP.out hb1;clear HI HLY HBT hb1;have HI := hid hI;clear hI;have c5 := HI.out.1.cell 5;have z5 := HI.out.1.soft 5;have c6 := HI.out.1.cell 6;have z6 := HI.out.1.soft 6;simp at c5 c6;go_wp2_with fail
         go_meet
         case rel => exact ⟨b1, b2, v1, tl (tl l2), (q3_yes (m := ⟨v0, (R1, N1), (B2, C2), (0, 0), 0, ⟨0, 0, 0, ⟨#[]⟩, ⟨#[]⟩, 0⟩, ⟨[], 0, 0⟩, 0⟩) HT2.out HVv1.out HVb.out).symm, by simpa using ((HI.out.set HPM.out HSP.out 5 (.int .i64 b1)).set HPM.out HSP.out 6 (.int .i64 b2))⟩
      case rest =>
       obtain ⟨T3, U3, S3, l3, hq, hG⟩ := hcut;clear HG;generalize wc = X3 at hG ⊢;have HG := hid hG;have HQ3 := hid hq;clear hG hq;go_upto_region 11 with fail
       obtain ⟨t3, ht3⟩ : ∃ t, hCmd ⟨v0, (R1, N1), (B2, C2), (T3, U3), S3, ⟨0, 0, 0, ⟨#[]⟩, ⟨#[]⟩, 0⟩, ⟨[], 0, 0⟩, 0⟩ = t := ⟨_, rfl⟩
       have CT := fun w h => has_cmd v0 R1 N1 B2 C2 T3 U3 S3 0 0 0 ⟨#[]⟩ ⟨#[]⟩ 0 none 0 0 0 0 0 [] w h;rw [ht3] at CT;have HCT := hid CT;have HT3 := hid ht3;clear CT ht3;go_cut [36] from 5 (fun cv wx => cv = .bool t3 ∧ Inv W0 (w.heap.size + 1) p S #[.int .i64 v0, .int .i64 R1, .int .i64 N1, .int .i64 B2, .int .i64 C2, .int .i64 T3, .int .i64 U3, .int .i64 S3, .int .i64 0, .int .i64 0, .int .i64 0, .string ⟨#[]⟩, .string ⟨#[]⟩, .int .i64 0, .slice none 0 0, .int .i64 0, .int .i64 0, .int .i64 0] none 0 0 [] l3 wx)
       case first =>
        have hbk : Blk X3 p 32 #[.int .i64 v0, .int .i64 R1, .int .i64 N1, .int .i64 B2, .int .i64 C2, .int .i64 T3, .int .i64 U3, .int .i64 S3, .int .i64 0, .int .i64 0, .int .i64 0, .string ⟨#[]⟩, .string ⟨#[]⟩, .int .i64 0, .slice none 0 0, .int .i64 0, .int .i64 0, .int .i64 0] := HG.out.1;have HBK := hid hbk;clear hbk;go_wp2_with (with_reducible refine wpList_load_blk_w 32 _ rfl p 32 #[.int .i64 v0, .int .i64 R1, .int .i64 N1, .int .i64 B2, .int .i64 C2, .int .i64 T3, .int .i64 U3, .int .i64 S3, .int .i64 0, .int .i64 0, .int .i64 0, .string ⟨#[]⟩, .string ⟨#[]⟩, .int .i64 0, .slice none 0 0, .int .i64 0, .int .i64 0, .int .i64 0] _ ?_ ?_ HBK.out Tryz.underlying32 ?_ ?_ ?_; (focus kernel_rfl); (focus kernel_rfl); (focus rfl); (focus kernel_rfl))
        refine (HCT.out _ (HNM.out _ HG.out.2.2.2.2)).mono ?_;rintro e u1 ⟨rfl, hb1⟩;go_wp2_with fail
        go_meet
        case rel => exact ⟨rfl, HG.out.bel HSP.out hb1⟩
       case rest =>
        obtain ⟨rfl, hG⟩ := hcut;clear HG HCT;generalize wc = Wy3 at hG ⊢;have HG := hid hG;clear hG;go_upto_if 36 with fail
        go_cut [] from 5 (fun wx => ∃ (K4 : Int) (L4 : Int) (Q4 : Int) (Y4 : ByteArray) (V4 : ByteArray) (Z4 : Int) (l4 : List It), ((⟨v0, (R1, N1), (B2, C2), (T3, U3), S3, ⟨K4, L4, Q4, Y4, V4, Z4⟩, ⟨[], 0, 0⟩, 0⟩ : Mg), l4) = q4 (⟨v0, (R1, N1), (B2, C2), (T3, U3), S3, ⟨0, 0, 0, ⟨#[]⟩, ⟨#[]⟩, 0⟩, ⟨[], 0, 0⟩, 0⟩, l3) ∧ Inv W0 (w.heap.size + 1) p S #[.int .i64 v0, .int .i64 R1, .int .i64 N1, .int .i64 B2, .int .i64 C2, .int .i64 T3, .int .i64 U3, .int .i64 S3, .int .i64 K4, .int .i64 L4, .int .i64 Q4, .string Y4, .string V4, .int .i64 Z4, .slice none 0 0, .int .i64 0, .int .i64 0, .int .i64 0] none 0 0 [] l4 wx)
        case first =>
         cases t3 with
         | false =>
           go_wp2_with fail
           go_meet
           case rel => exact ⟨0, 0, 0, ⟨#[]⟩, ⟨#[]⟩, 0, l3, (q4_no (m := ⟨v0, (R1, N1), (B2, C2), (T3, U3), S3, ⟨0, 0, 0, ⟨#[]⟩, ⟨#[]⟩, 0⟩, ⟨[], 0, 0⟩, 0⟩) HT3.out).symm, HG.out⟩
         | true =>
           go_wp2_with fail
           obtain ⟨y, hy⟩ : ∃ y, hd (l3) = y := ⟨_, rfl⟩
           have HYy := hid hy;clear hy;refine (Inv.next HG.out HPM.out HSP.out HYy.out).mono ?_;rintro e u1 ⟨D, d, rfl, hl, hI⟩;have HI := hid hI;have HLY := hid hl;clear hI hl;have hct := Cw.cmtake_any y D d S u1 HLY.out (HI.out.low HSP.out);have HBT := hid hct;clear hct;go_wp2_with fail
           refine HBT.out.mono ?_;rintro e u2 ⟨⟨d1, d2, d3, d4, d5, d6⟩, bb, rfl, hc, _, hb1⟩;have hI := HI.out.bel HSP.out hb1;have HVc := hid (show (Cmd.takeOf (hd l3)).getD Cmd.zeroCm = ⟨d1, d2, d3, d4, d5, d6⟩ from by rw [HYy.out]; exact hc.symm);clear HI HLY HBT hb1 hc;have HI := hid hI;clear hI;simp only;have c8 := HI.out.1.cell 8;have z8 := HI.out.1.soft 8;have c9 := HI.out.1.cell 9;have z9 := HI.out.1.soft 9;have c10 := HI.out.1.cell 10;have z10 := HI.out.1.soft 10;have c11 := HI.out.1.cell 11;have z11 := HI.out.1.soft 11;have c12 := HI.out.1.cell 12;have z12 := HI.out.1.soft 12;have c13 := HI.out.1.cell 13;have z13 := HI.out.1.soft 13;simp at c8 c9 c10 c11 c12 c13;go_wp2_with fail
           go_meet
           case rel => exact ⟨d1, d2, d3, d4, d5, d6, tl l3, (q4_yes (m := ⟨v0, (R1, N1), (B2, C2), (T3, U3), S3, ⟨0, 0, 0, ⟨#[]⟩, ⟨#[]⟩, 0⟩, ⟨[], 0, 0⟩, 0⟩) HT3.out HVc.out).symm, by simpa using ((((((HI.out.set HPM.out HSP.out 8 (.int .i64 d1)).set HPM.out HSP.out 9 (.int .i64 d2)).set HPM.out HSP.out 10 (.int .i64 d3)).set HPM.out HSP.out 11 (.string d4)).set HPM.out HSP.out 12 (.string d5)).set HPM.out HSP.out 13 (.int .i64 d6))⟩
        case rest =>
         obtain ⟨K4, L4, Q4, Y4, V4, Z4, l4, hq, hG⟩ := hcut;clear HG;generalize wc = X4 at hG ⊢;have HG := hid hG;have HQ4 := hid hq;clear hG hq;go_upto_region 13 with fail
         obtain ⟨t4, ht4⟩ : ∃ t, hAt ⟨v0, (R1, N1), (B2, C2), (T3, U3), S3, ⟨K4, L4, Q4, Y4, V4, Z4⟩, ⟨[], 0, 0⟩, 0⟩ = t := ⟨_, rfl⟩
         have CT := fun w h => has_at v0 R1 N1 B2 C2 T3 U3 S3 K4 L4 Q4 Y4 V4 Z4 none 0 0 0 0 0 [] w h;rw [ht4] at CT;have HCT := hid CT;have HT4 := hid ht4;clear CT ht4;go_cut [44] from 5 (fun cv wx => cv = .bool t4 ∧ Inv W0 (w.heap.size + 1) p S #[.int .i64 v0, .int .i64 R1, .int .i64 N1, .int .i64 B2, .int .i64 C2, .int .i64 T3, .int .i64 U3, .int .i64 S3, .int .i64 K4, .int .i64 L4, .int .i64 Q4, .string Y4, .string V4, .int .i64 Z4, .slice none 0 0, .int .i64 0, .int .i64 0, .int .i64 0] none 0 0 [] l4 wx)
         case first =>
          have hbk : Blk X4 p 32 #[.int .i64 v0, .int .i64 R1, .int .i64 N1, .int .i64 B2, .int .i64 C2, .int .i64 T3, .int .i64 U3, .int .i64 S3, .int .i64 K4, .int .i64 L4, .int .i64 Q4, .string Y4, .string V4, .int .i64 Z4, .slice none 0 0, .int .i64 0, .int .i64 0, .int .i64 0] := HG.out.1;have HBK := hid hbk;clear hbk;go_wp2_with (with_reducible refine wpList_load_blk_w 32 _ rfl p 32 _ _ ?_ ?_ HBK.out Tryz.underlying32 ?_ ?_ ?_; (focus kernel_rfl); (focus kernel_rfl); (focus rfl); (focus kernel_rfl))
          refine (HCT.out _ (HNM.out _ HG.out.2.2.2.2)).mono ?_;rintro e u1 ⟨rfl, hb1⟩;go_wp2_with fail
          go_meet
          case rel => exact ⟨rfl, HG.out.bel HSP.out hb1⟩
         case rest =>
          obtain ⟨rfl, hG⟩ := hcut;clear HG HCT;generalize wc = Wy4 at hG ⊢;have HG := hid hG;clear hG;go_upto_if 44 with fail
          go_cut [] from 5 (fun wx => ∃ (A5 : Option Addr) (n5 : Nat) (c5 : Nat) (E5 : Int) (G5 : Int) (g5 : List (Int × Int)) (l5 : List It), ((⟨v0, (R1, N1), (B2, C2), (T3, U3), S3, ⟨K4, L4, Q4, Y4, V4, Z4⟩, ⟨g5, E5, G5⟩, 0⟩ : Mg), l5) = q5 (⟨v0, (R1, N1), (B2, C2), (T3, U3), S3, ⟨K4, L4, Q4, Y4, V4, Z4⟩, ⟨[], 0, 0⟩, 0⟩, l4) ∧ Inv W0 (w.heap.size + 1) p S #[.int .i64 v0, .int .i64 R1, .int .i64 N1, .int .i64 B2, .int .i64 C2, .int .i64 T3, .int .i64 U3, .int .i64 S3, .int .i64 K4, .int .i64 L4, .int .i64 Q4, .string Y4, .string V4, .int .i64 Z4, .slice A5 n5 c5, .int .i64 E5, .int .i64 G5, .int .i64 0] A5 n5 c5 g5 l5 wx)
          case first =>
           cases t4 with
           | false =>
             go_wp2_with fail
             go_meet
             case rel => exact ⟨none, 0, 0, 0, 0, [], l4, (q5_no (m := ⟨v0, (R1, N1), (B2, C2), (T3, U3), S3, ⟨K4, L4, Q4, Y4, V4, Z4⟩, ⟨[], 0, 0⟩, 0⟩) HT4.out).symm, HG.out⟩
           | true =>
             go_wp2_with fail
             obtain ⟨y, hy⟩ : ∃ y, hd (l4) = y := ⟨_, rfl⟩
             have HYy := hid hy;clear hy;refine (Inv.next HG.out HPM.out HSP.out HYy.out).mono ?_;rintro e u1 ⟨D, d, rfl, hl, hI⟩;have HI := hid hI;have HLY := hid hl;clear hI hl;have hat := atttake_any y D d S u1 HLY.out (HI.out.low HSP.out);have HBT := hid hat;clear hat;go_wp2_with fail
             refine HBT.out.mono ?_;rintro e u2 ⟨F, nf, cf, rfl, hrs, hb1, hnew⟩;have HVa : ∃ a, (attTake (hd l4)).getD zeroAt = a ∧ (attTake y).getD zeroAt = a := ⟨_, rfl, by rw [HYy.out]⟩
             obtain ⟨⟨gl, gs, gt⟩, ha1, ha2⟩ := HVa;rw [ha2] at hrs ⊢;simp only at hrs ⊢;have hlt := HI.out.1.lt;have hI := (HI.out.bel HSP.out hb1).swap hrs (fun g o e => by have := hnew g o e; omega);have HVa := hid ha1;clear HI HLY HBT hb1 hrs hnew ha1 ha2 hlt;have HI := hid hI;clear hI;have c14 := HI.out.1.cell 14;have z14 := HI.out.1.soft 14;have c15 := HI.out.1.cell 15;have z15 := HI.out.1.soft 15;have c16 := HI.out.1.cell 16;have z16 := HI.out.1.soft 16;simp at c14 c15 c16;go_wp2_with fail
             go_meet
             case rel => exact ⟨F, nf, cf, gs, gt, gl, tl l4, (q5_yes (m := ⟨v0, (R1, N1), (B2, C2), (T3, U3), S3, ⟨K4, L4, Q4, Y4, V4, Z4⟩, ⟨[], 0, 0⟩, 0⟩) HT4.out HVa.out).symm, by simpa using (((HI.out.set HPM.out HSP.out 14 (.slice F nf cf)).set HPM.out HSP.out 15 (.int .i64 gs)).set HPM.out HSP.out 16 (.int .i64 gt))⟩
          case rest =>
           obtain ⟨A5, n5, c5, E5, G5, g5, l5, hq, hG⟩ := hcut;clear HG;generalize wc = X5 at hG ⊢;have HG := hid hG;have HQ5 := hid hq;clear hG hq;go_upto_region 15 with fail
           obtain ⟨t5, ht5⟩ : ∃ t, decide (v0 = 9) = t := ⟨_, rfl⟩
           have CT := fun w h => has_vn v0 R1 N1 B2 C2 T3 U3 S3 K4 L4 Q4 Y4 V4 Z4 A5 n5 c5 E5 G5 0 g5 w h;rw [ht5] at CT;have HCT := hid CT;have HT5 := hid ht5;clear CT ht5;go_cut [52] from 5 (fun cv wx => cv = .bool t5 ∧ Inv W0 (w.heap.size + 1) p S #[.int .i64 v0, .int .i64 R1, .int .i64 N1, .int .i64 B2, .int .i64 C2, .int .i64 T3, .int .i64 U3, .int .i64 S3, .int .i64 K4, .int .i64 L4, .int .i64 Q4, .string Y4, .string V4, .int .i64 Z4, .slice A5 n5 c5, .int .i64 E5, .int .i64 G5, .int .i64 0] A5 n5 c5 g5 l5 wx)
           case first =>
            have hbk : Blk X5 p 32 #[.int .i64 v0, .int .i64 R1, .int .i64 N1, .int .i64 B2, .int .i64 C2, .int .i64 T3, .int .i64 U3, .int .i64 S3, .int .i64 K4, .int .i64 L4, .int .i64 Q4, .string Y4, .string V4, .int .i64 Z4, .slice A5 n5 c5, .int .i64 E5, .int .i64 G5, .int .i64 0] := HG.out.1;have HBK := hid hbk;clear hbk;go_wp2_with (with_reducible refine wpList_load_blk_w 32 _ rfl p 32 _ _ ?_ ?_ HBK.out Tryz.underlying32 ?_ ?_ ?_; (focus kernel_rfl); (focus kernel_rfl); (focus rfl); (focus kernel_rfl))
            refine (HCT.out _ (HNM.out _ HG.out.2.2.2.2)).mono ?_;rintro e u1 ⟨rfl, hb1⟩;go_wp2_with fail
            go_meet
            case rel => exact ⟨rfl, HG.out.bel HSP.out hb1⟩
           case rest =>
            obtain ⟨rfl, hG⟩ := hcut;clear HG HCT;generalize wc = Wy5 at hG ⊢;have HG := hid hG;clear hG;go_upto_if 52 with fail
            go_cut [] from 5 (fun wx => ∃ (W6 : Int) (l6 : List It), ((⟨v0, (R1, N1), (B2, C2), (T3, U3), S3, ⟨K4, L4, Q4, Y4, V4, Z4⟩, ⟨g5, E5, G5⟩, W6⟩ : Mg), l6) = q6 (⟨v0, (R1, N1), (B2, C2), (T3, U3), S3, ⟨K4, L4, Q4, Y4, V4, Z4⟩, ⟨g5, E5, G5⟩, 0⟩, l5) ∧ Inv W0 (w.heap.size + 1) p S #[.int .i64 v0, .int .i64 R1, .int .i64 N1, .int .i64 B2, .int .i64 C2, .int .i64 T3, .int .i64 U3, .int .i64 S3, .int .i64 K4, .int .i64 L4, .int .i64 Q4, .string Y4, .string V4, .int .i64 Z4, .slice A5 n5 c5, .int .i64 E5, .int .i64 G5, .int .i64 W6] A5 n5 c5 g5 l6 wx)
            case first =>
             cases t5 with
             | false =>
               go_wp2_with fail
               go_meet
               case rel => exact ⟨0, l5, (q6_no (m := ⟨v0, (R1, N1), (B2, C2), (T3, U3), S3, ⟨K4, L4, Q4, Y4, V4, Z4⟩, ⟨g5, E5, G5⟩, 0⟩) HT5.out).symm, HG.out⟩
             | true =>
               go_wp2_with fail
               obtain ⟨v1, hv1⟩ : ∃ v, Cmd.w64 (hd (l5)).num = v := ⟨_, rfl⟩
               have HVv1 := hid hv1;clear hv1;refine (Inv.number HG.out HPM.out HSP.out HVv1.out).mono ?_;rintro e u1 ⟨rfl, hI⟩;have HI := hid hI;clear hI;have c17 := HI.out.1.cell 17;have z17 := HI.out.1.soft 17;simp at c17;go_wp2_with fail
               go_meet
               case rel => exact ⟨v1, tl l5, (q6_yes (m := ⟨v0, (R1, N1), (B2, C2), (T3, U3), S3, ⟨K4, L4, Q4, Y4, V4, Z4⟩, ⟨g5, E5, G5⟩, 0⟩) HT5.out HVv1.out).symm, by simpa using (HI.out.set HPM.out HSP.out 17 (.int .i64 v1))⟩
            case rest =>
             obtain ⟨W6, l6, hq, hG⟩ := hcut;clear HG;generalize wc = X6 at hG ⊢;have HG := hid hG;have HQ6 := hid hq;clear hG hq;go_upto_region 17 with fail
             have hz9 : Blk X6 w.heap.size 32 #[.int .i64 0, .int .i64 0, .int .i64 0, .int .i64 0, .int .i64 0, .int .i64 0, .int .i64 0, .int .i64 0, .int .i64 0, .int .i64 0, .int .i64 0, .string ⟨#[]⟩, .string ⟨#[]⟩, .int .i64 0, .slice none 0 0, .int .i64 0, .int .i64 0, .int .i64 0] := HZ.out.below HG.out.2.2.2.2 (by omega);have HZ9 := hid hz9;have hbk : Blk X6 p 32 #[.int .i64 v0, .int .i64 R1, .int .i64 N1, .int .i64 B2, .int .i64 C2, .int .i64 T3, .int .i64 U3, .int .i64 S3, .int .i64 K4, .int .i64 L4, .int .i64 Q4, .string Y4, .string V4, .int .i64 Z4, .slice A5 n5 c5, .int .i64 E5, .int .i64 G5, .int .i64 W6] := HG.out.1;have HBK := hid hbk;clear hz9 hbk;go_wp2_with (first | (with_reducible refine wpList_load_blk_w 32 _ rfl p 32 _ _ ?_ ?_ HBK.out Tryz.underlying32 ?_ ?_ ?_; (focus kernel_rfl); (focus kernel_rfl); (focus rfl); (focus kernel_rfl)) | ((with_reducible refine wpList_store_blk rfl 32 _ _ rfl w.heap.size 32 _ #[.int .i64 v0, .int .i64 R1, .int .i64 N1, .int .i64 B2, .int .i64 C2, .int .i64 T3, .int .i64 U3, .int .i64 S3, .int .i64 K4, .int .i64 L4, .int .i64 Q4, .string Y4, .string V4, .int .i64 Z4, .slice A5 n5 c5, .int .i64 E5, .int .i64 G5, .int .i64 W6] ?_ ?_ HZ9.out ?_ ?_ ?_ ?_); (focus rfl); (focus rfl); (focus kernel_rfl); (focus rfl); (focus kernel_rfl); intro w9 hblk2 hgr))
             refine bodyPost_ret (v := .agg _) (results_blk Tryz.results73 _ _ w.heap.size 32 _ _ rfl hblk2 Tryz.underlying32 rfl (by kernel_rfl)) rfl ?_
             have hrd : readOwn l = ⟨v0, (R1, N1), (B2, C2), (T3, U3), S3, ⟨K4, L4, Q4, Y4, V4, Z4⟩, ⟨g5, E5, G5⟩, W6⟩ := by
              unfold readOwn;rw [HQ0.out, ← HQ1.out, ← HQ2.out, ← HQ3.out, ← HQ4.out, ← HQ5.out, ← HQ6.out]
             rw [hrd];obtain ⟨_, hr9, hn9, _, hb9⟩ := HG.out;have hpm := HPM.out;have hs0 := HS0.out;have hbw : Below w.heap.size w X6 := HB.out.trans (hb9.mono (by omega));exact ⟨_, _, _, rfl, hr9.grown hgr (fun g o e h => by injection h with h; have := hn9 g o e; omega), fun g o e => by have := hn9 g o e; omega, hbw.trans (gr_below hgr hbw.size fun b hb => by injection hb with hb; omega)⟩
end Go.Proofs.YthlhchaoedcdbaaGreatDoor.Mg
