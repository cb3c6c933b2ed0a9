/-
  Texts of earlier layers, as one.
-/
import Derived.Test.YtkejjdoaljoooaaGreatDoorSchA
/- The program's Put: a record's bytes, added to the log and flushed. -/
namespace Go.Proofs.YtkejjdoaljoooaaGreatDoor.Sc
open Lib (hid)
open Go.RowKit Mem Dsk Lg Rk
theorem run_load_mid {P : Program} {oi : Oper} {a : Act} {S : World → Prop} (ty : TypeId) (x : Operand) (ho : oi.op = .load ty x) (g o : Nat) (cs : List Value) (d : TypeDesc) (hx : a.eval x = .pointer (some ⟨g, o, none⟩)) (hS : ∀ w, S w → w.rangeAt g o cs) (hu : P.underlying ty = some d) (hd : d.isRow = true) (hi : (P.info? ty).map (·.size) = some cs.length) :
 ∀ w, S w → (execOp a.eval oi).run P w = .ok (.value (.agg cs.toArray)) w := fun w hw => by
 unfold execOp;simp only [ho, hx, Instr.loadAt, Instr.sureAddr, Sem.run_bind, Sem.run_pure, Result.andThen_ok, run_loadVar_mid w g o ty cs d (hS w hw) hu hd hi]
theorem blk_range3 {w : World} {g : Nat} {t : TypeId} {a x y z b : Value} (h : Blk w g t #[a, x, y, z, b]) : w.rangeAt g 1 [x, y, z] := fun j v hv => by
 refine (h.cell (1 + j)).trans ?_
 match j, hv with
 | 0, hv => exact hv
 | 1, hv => exact hv
 | 2, hv => exact hv
 | n + 3, hv => simp at hv
theorem set_by (w : World) (g i : Nat) (v : Value) : w.grownBy (w.setCell ⟨g, i, none⟩ v) (some g) :=
 ⟨rfl, rfl, rfl, by simp, fun k _ hne => Below.heap_setCell w ⟨g, i, none⟩ _ k fun e => hne (by rw [e])⟩
set_option maxRecDepth 20000 in
set_option maxHeartbeats 4000000 in
theorem put_1 {I : Held} (hH : Has2 I) (p s g : Nat) (S : Nat → Prop) (q : Pt) (d : Dk) (w : World) (hI : I w S p d) (ht : FTab w (Plus S s)) (hst : FSt s 1 p (some g) w S) (hf : Dsk.Fine d) (hd : Dep w q) :
 Calls Tryz.prog 11 #[.pointer (some ⟨s, 0, none⟩), val q] w (PutIs I p s g S 1 q.r d w) := by
 obtain ⟨W, hW⟩ : ∃ W, w.alloc (.cells #[.int .i64 q.r.id.1, .int .i64 q.r.id.2, .int .i64 q.r.st, .int .i64 q.r.bl.1, .int .i64 q.r.bl.2, .int .i64 q.r.tk.1, .int .i64 q.r.tk.2, .int .i64 q.r.cm.kd, .int .i64 q.r.cm.cl, .int .i64 q.r.cm.sq, .string q.r.cm.ky, .string q.r.cm.vl, .int .i64 q.r.cm.rv, .slice q.V q.n q.c, .int .i64 q.r.at_.sq, .int .i64 q.r.at_.tg] 43) = W := ⟨_, rfl⟩
 have hb0 : Below w.heap.size w W := by rw [← hW]; exact bel_alloc (Below.refl _ _) _
 have hblk : Blk W w.heap.size 43 #[.int .i64 q.r.id.1, .int .i64 q.r.id.2, .int .i64 q.r.st, .int .i64 q.r.bl.1, .int .i64 q.r.bl.2, .int .i64 q.r.tk.1, .int .i64 q.r.tk.2, .int .i64 q.r.cm.kd, .int .i64 q.r.cm.cl, .int .i64 q.r.cm.sq, .string q.r.cm.ky, .string q.r.cm.vl, .int .i64 q.r.cm.rv, .slice q.V q.n q.c, .int .i64 q.r.at_.sq, .int .i64 q.r.at_.tg] := by rw [← hW]; exact Blk.new w _ _
 have hstb : Blk W s 70 #[.pointer (some ⟨p, 0, none⟩), .int .i64 1, .func (.func 32) #[] #[], .func (.func 33) #[] #[], .pointer (some ⟨g, 0, none⟩)] := Blk.bel hst.1 hb0;have hby : Calls Tryz.prog 21 #[.agg #[.int .i64 1, .func (.func 32) #[] #[], .func (.func 33) #[] #[]], .agg #[.int .i64 q.r.id.1, .int .i64 q.r.id.2, .int .i64 q.r.st, .int .i64 q.r.bl.1, .int .i64 q.r.bl.2, .int .i64 q.r.tk.1, .int .i64 q.r.tk.2, .int .i64 q.r.cm.kd, .int .i64 q.r.cm.cl, .int .i64 q.r.cm.sq, .string q.r.cm.ky, .string q.r.cm.vl, .int .i64 q.r.cm.rv, .slice q.V q.n q.c, .int .i64 q.r.at_.sq, .int .i64 q.r.at_.tg]] W.drew (BytesIs 1 q.r W.drew) := bytes_any (v := 1) (by omega) q W.drew (Ids.Rs.below hd hb0).drew;have HBY := hid hby;have H0 := hid (And.intro hI (And.intro ht (And.intro hst (And.intro hf hb0))));have hS0 : Blk W.drew s 70 #[.pointer (some ⟨p, 0, none⟩), .int .i64 1, .func (.func 32) #[] #[], .func (.func 33) #[] #[], .pointer (some ⟨g, 0, none⟩)] ∧ Blk W.drew w.heap.size 43 #[.int .i64 q.r.id.1, .int .i64 q.r.id.2, .int .i64 q.r.st, .int .i64 q.r.bl.1, .int .i64 q.r.bl.2, .int .i64 q.r.tk.1, .int .i64 q.r.tk.2, .int .i64 q.r.cm.kd, .int .i64 q.r.cm.cl, .int .i64 q.r.cm.sq, .string q.r.cm.ky, .string q.r.cm.vl, .int .i64 q.r.cm.rv, .slice q.V q.n q.c, .int .i64 q.r.at_.sq, .int .i64 q.r.at_.tg] := ⟨hstb, hblk⟩
 have HS0 := hid hS0;have HW := hid hW;have HH := hid hH;clear hby hb0 hblk hstb hW hI ht hst hH hf hd hS0;unfold val;go_enter Tryz.func11, Tryz.ntmps11
 go_upto_region 1 with fail
 rw [HW.out];refine wp_region_held_drew (S := (fun w' => Blk w' s 70 #[.pointer (some ⟨p, 0, none⟩), .int .i64 1, .func (.func 32) #[] #[], .func (.func 33) #[] #[], .pointer (some ⟨g, 0, none⟩)] ∧ Blk w' w.heap.size 43 #[.int .i64 q.r.id.1, .int .i64 q.r.id.2, .int .i64 q.r.st, .int .i64 q.r.bl.1, .int .i64 q.r.bl.2, .int .i64 q.r.tk.1, .int .i64 q.r.tk.2, .int .i64 q.r.cm.kd, .int .i64 q.r.cm.cl, .int .i64 q.r.cm.sq, .string q.r.cm.ky, .string q.r.cm.vl, .int .i64 q.r.cm.rv, .slice q.V q.n q.c, .int .i64 q.r.at_.sq, .int .i64 q.r.at_.tg])) (by kernel_rfl) HS0.out (fun hHeld => ?_);refine hs_take 0 8 (.pointer (some ⟨s, 0, none⟩)) rfl rfl (by kernel_rfl) (fun _ _ _ h => h) (fun w hSw => by (obtain ⟨_, _⟩ := hSw); go_simp) hHeld ?_;try simp only [n0, n1, n2]
 refine hs_take 1 9 (.pointer (some ⟨s, 0, none⟩)) rfl rfl (by kernel_rfl) (fun _ _ _ h => h) (fun w hSw => by (obtain ⟨_, _⟩ := hSw); go_simp) hHeld ?_;try simp only [n0, n1, n2]
 refine hs_take 2 10 (.pointer (some ⟨s, 1, none⟩)) rfl rfl (by kernel_rfl) (fun _ _ _ h => h) (fun w hSw => by (obtain ⟨_, _⟩ := hSw); go_simp) hHeld ?_;try simp only [n0, n1, n2]
 refine hs_take 3 11 (.agg #[.int .i64 1, .func (.func 32) #[] #[], .func (.func 33) #[] #[]]) rfl rfl (by kernel_rfl) (fun _ _ _ h => h) (run_load_mid 61 (.tmp 10) rfl s 1 [.int .i64 1, .func (.func 32) #[] #[], .func (.func 33) #[] #[]] _ rfl (fun _ h => blk_range3 h.1) Tryz.underlying61 rfl (by kernel_rfl)) hHeld ?_;try simp only [n0, n1, n2]
 refine hs_take 4 12 (.agg #[.int .i64 q.r.id.1, .int .i64 q.r.id.2, .int .i64 q.r.st, .int .i64 q.r.bl.1, .int .i64 q.r.bl.2, .int .i64 q.r.tk.1, .int .i64 q.r.tk.2, .int .i64 q.r.cm.kd, .int .i64 q.r.cm.cl, .int .i64 q.r.cm.sq, .string q.r.cm.ky, .string q.r.cm.vl, .int .i64 q.r.cm.rv, .slice q.V q.n q.c, .int .i64 q.r.at_.sq, .int .i64 q.r.at_.tg]) rfl rfl (by kernel_rfl) (fun _ _ _ h => h) (run_load_blk 43 (.tmp 3) rfl w.heap.size 43 #[.int .i64 q.r.id.1, .int .i64 q.r.id.2, .int .i64 q.r.st, .int .i64 q.r.bl.1, .int .i64 q.r.bl.2, .int .i64 q.r.tk.1, .int .i64 q.r.tk.2, .int .i64 q.r.cm.kd, .int .i64 q.r.cm.cl, .int .i64 q.r.cm.sq, .string q.r.cm.ky, .string q.r.cm.vl, .int .i64 q.r.cm.rv, .slice q.V q.n q.c, .int .i64 q.r.at_.sq, .int .i64 q.r.at_.tg] _ rfl (fun _ h => h.2) Tryz.underlying43 rfl (by kernel_rfl)) hHeld ?_;try simp only [n0, n1, n2]
 refine wpAnyH_ready (rs := [5]) (by kernel_rfl) (by simp) ?_;refine AllReadyH.cons rfl (fun K hK => ?_) AllReadyH.nil;go_simp;refine HBY.out.mono ?_;rintro e w1 ⟨BA, bn, bc, rfl, hg, hb1⟩;have hb1 : Below W.heap.size W w1 := ((Below.refl W.heap.size W).drew).trans hb1;have H1 := hid (And.intro hg hb1);clear hg hb1;refine hK.out _ _ ⟨Blk.bel (w := W) HS0.out.1 H1.out.2, Blk.bel (w := W) HS0.out.2 H1.out.2⟩ (fun hHeld => ?_);clear hK K;refine hs_take 6 7 (.tuple #[.slice BA bn bc, .int .i64 (put 1 q.r).2]) rfl rfl (by kernel_rfl) (fun _ _ _ h => h) (fun w hSw => by (obtain ⟨_, _⟩ := hSw); go_simp) hHeld ?_;try simp only [n0, n1, n2]
 refine hs_take 7 14 (.slice BA bn bc) rfl rfl (by kernel_rfl) (fun _ _ _ h => h) (fun w hSw => by (obtain ⟨_, _⟩ := hSw); go_simp) hHeld ?_;try simp only [n0, n1, n2]
 refine hs_take 8 15 (.int .i64 (put 1 q.r).2) rfl rfl (by kernel_rfl) (fun _ _ _ h => h) (fun w hSw => by (obtain ⟨_, _⟩ := hSw); go_simp) hHeld ?_;try simp only [n0, n1, n2]
 refine hs_take 9 5 (.slice BA bn bc) rfl rfl (by kernel_rfl) (fun _ _ _ h => h) (fun w hSw => by (obtain ⟨_, _⟩ := hSw); go_simp) hHeld ?_;try simp only [n0, n1, n2]
 refine hs_take 10 6 (.int .i64 (put 1 q.r).2) rfl rfl (by kernel_rfl) (fun _ _ _ h => h) (fun w hSw => by (obtain ⟨_, _⟩ := hSw); go_simp) hHeld ?_;try simp only [n0, n1, n2]
 refine wpAnyH_done (by kernel_rfl) ?_ _;have hbw : Below w.heap.size w w1 := H0.out.2.2.2.2.trans (H1.out.2.mono H0.out.2.2.2.2.size);have hI1 := have_bel HH.out H0.out.1 hbw;have hs1 := (frame_st s 1 p (some g)).go H0.out.2.2.1 (Keeps.ofBelow hbw) (Dsk.Grew.refl S w);have hs1b : Blk w1 s 70 #[.pointer (some ⟨p, 0, none⟩), .int .i64 1, .func (.func 32) #[] #[], .func (.func 33) #[] #[], .pointer (some ⟨g, 0, none⟩)] := hs1.1;have c4 := hs1b.cell 4;simp only [List.getElem?_toArray, List.getElem?_cons_succ, List.getElem?_cons_zero] at c4
 have ht1 : FTab w1 S := by
  have h := frame_tab.go H0.out.2.1 (Keeps.ofBelow hbw) (Dsk.Grew.refl (Plus S s) w);exact ⟨h.1, fun hs => h.2 (.inl hs)⟩
 obtain ⟨er, her⟩ : ∃ er, (put 1 q.r).2 = er := ⟨_, rfl⟩
 have HX := hid (And.intro hbw (And.intro hI1 (And.intro hs1 ht1)));have hg := H1.out.1;rw [her] at hg ⊢;have HER := hid her;have HG := hid hg;clear hbw hI1 hs1 hs1b ht1 her hg;by_cases h0 : er = 0
 · subst h0
   have b0 : ((0 : Int) != 0) = false := rfl;obtain ⟨hgood, hbn, hnew, hrd⟩ := HG.out rfl;have hlen := lay_len hgood
   have hfr : FRd BA bn bc (cs (lay 1 q.r)) w1 S := ⟨hrd, fun _ ad e hs => by
    have h1 := hnew ad e;have h2 := HH.out.low H0.out.1 _ hs;have h3 : W.drew.heap.size = W.heap.size := rfl;have h4 := H0.out.2.2.2.2.size;omega⟩
   have had := add_any HH.out g p S d nlog BA bn bc (lay 1 q.r) w1 HX.out.2.1 H0.out.2.2.2.1 HX.out.2.2.2 (HX.out.2.2.1.2.2 g rfl).1 hfr (lay_lt hgood) (by omega) (by decide);obtain ⟨x, d3, hx⟩ : ∃ x d3, whole (doAppend nlog (form (lay 1 q.r))) d = (x, d3) := ⟨_, _, rfl⟩
   have hf3 : Dsk.Fine d3 := by have h := (fine_putD (lay 1 q.r) H0.out.2.2.2.1).1; rw [hx] at h; exact h
   have hbr : putD (lay 1 q.r) d = if x ≠ 0 then (x, d3) else (fg (whole (doSync nlog) d3).1, (whole (doSync nlog) d3).2) := by
    unfold putD;rw [hx]
   rw [hx] at had;have HAD := hid had;have HP := hid (And.intro hgood (And.intro hx (And.intro hbr hf3)));clear hgood hbn hnew hrd hlen hfr had hx hf3 hbr;go_wp2_with fail
   refine HAD.out.mono ?_;rintro e w2 ⟨rfl, S2, hI2, hg2, hk2⟩;simp only at hI2;have hs2 := (frame_st s 1 p (some g)).go HX.out.2.2.1 hk2 hg2;have hs2b : Blk w2 s 70 #[.pointer (some ⟨p, 0, none⟩), .int .i64 1, .func (.func 32) #[] #[], .func (.func 33) #[] #[], .pointer (some ⟨g, 0, none⟩)] := hs2.1;have k4 := hs2b.cell 4;simp only [List.getElem?_toArray, List.getElem?_cons_succ, List.getElem?_cons_zero] at k4;have hgS : Dsk.Grew S S2 w := (Dsk.Grew.refl S w).trans hg2 HX.out.1.size;have hkS : Keeps S w w2 := (Keeps.ofBelow (S := S) HX.out.1).trans hk2 (Dsk.Grew.refl S w);have H2 := hid (And.intro hI2 (And.intro hgS (And.intro hkS hs2)));clear hI2 hg2 hk2 hs2 hs2b hgS hkS c4;by_cases hx0 : x = 0
   · subst hx0
     have hfl := flush_any HH.out g p S2 d3 nlog w2 H2.out.1 HP.out.2.2.2 (H2.out.2.2.2.2.2 g rfl).1 (by decide);obtain ⟨y, hy⟩ : ∃ y, fg (whole (doSync nlog) d3).1 = y := ⟨_, rfl⟩
     obtain ⟨d4, hd4⟩ : ∃ d4, (whole (doSync nlog) d3).2 = d4 := ⟨_, rfl⟩
     have hbr := HP.out.2.2.1;rw [if_neg (by simp), hy, hd4] at hbr;rw [hy, hd4] at hfl;have HFL := hid hfl;have HY := hid hbr;have b1 : (((0 : Nat) : Int) != 0) = false := rfl;clear hfl hy hd4 hbr;go_wp2_with fail
     refine HFL.out.mono ?_;rintro e w3 ⟨rfl, S3, hI3, hg3, hk3⟩;have hs3 := (frame_st s 1 p (some g)).go H2.out.2.2.2 hk3 hg3;have hgS : Dsk.Grew S S3 w := H2.out.2.1.trans hg3 H2.out.2.2.1.size;have hkS : Keeps S w w3 := H2.out.2.2.1.trans hk3 H2.out.2.1;have hs3b : Blk w3 s 70 #[.pointer (some ⟨p, 0, none⟩), .int .i64 1, .func (.func 32) #[] #[], .func (.func 33) #[] #[], .pointer (some ⟨g, 0, none⟩)] := hs3.1;have m4 := hs3b.cell 4;have n4 := hs3b.soft 4;simp only [List.getElem?_toArray, List.getElem?_cons_succ, List.getElem?_cons_zero] at m4;have H3 := hid (And.intro hI3 (And.intro hgS (And.intro hkS (And.intro hs3 hs3b))));clear hI3 hg3 hk3 hs3 hs3b hgS hkS k4;by_cases hy0 : y = 0
     · subst hy0
       go_wp2_with fail
       go_ret;refine .inr ⟨HER.out, HP.out.1, by rw [HY.out]; rfl, some g, S3, ?_, H3.out.2.2.2.1, fun _ => rfl, H3.out.2.1, plus_keeps H3.out.2.2.1⟩;rw [HY.out];exact H3.out.1
     · have b2 : ((y : Int) != 0) = true := by rw [bne_iff_ne]; omega
       have HY0 := hid hy0;clear hy0;go_wp2_with fail
       go_ret;have hgb := set_by w3 s 4 (.pointer none);have hkt : Keeps (fun k => k = s) w3 (w3.setCell ⟨s, 4, none⟩ (.pointer none)) := Keeps.ofGrown hgb rfl;have hks : Keeps (Plus S3 s) w3 (w3.setCell ⟨s, 4, none⟩ (.pointer none)) := Keeps.ofGrown hgb (.inr rfl);refine .inr ⟨HER.out, HP.out.1, by rw [HY.out]; rfl, none, S3, ?_, ⟨H3.out.2.2.2.2.put 4 (.pointer none), H3.out.2.2.2.1.2.1, fun g' e => by cases e⟩, fun h => ?_, H3.out.2.1, (plus_keeps H3.out.2.2.1).trans hks (plus_grew H3.out.2.1)⟩
       · rw [HY.out]
         exact HH.out.keep H3.out.1 hkt fun b hb e => H3.out.2.2.2.1.2.1 (by rw [← e]; exact hb)
       · rw [HY.out, HP.out.2.1] at h
         rcases h with h | h
         · exact absurd h HY0.out
         · exact absurd rfl h
   · have b1 : ((x : Int) != 0) = true := by rw [bne_iff_ne]; omega
     have hbr := HP.out.2.2.1;rw [if_pos hx0] at hbr;have HY := hid hbr;clear hx0 hbr;go_wp2_with fail
     go_ret;refine .inr ⟨HER.out, HP.out.1, by rw [HY.out]; rfl, some g, S2, ?_, H2.out.2.2.2, fun _ => rfl, H2.out.2.1, plus_keeps H2.out.2.2.1⟩;rw [HY.out];exact H2.out.1
 · have b0 : (er != 0) = true := by rw [bne_iff_ne]; exact h0
   have HER0 := hid h0;clear h0;go_wp2_with fail
   go_ret;exact .inl ⟨by rw [HER.out]; exact HER0.out, by rw [HER.out]; rfl, S, HX.out.2.1, HX.out.2.2.1, Dsk.Grew.refl S w, Keeps.ofBelow HX.out.1⟩
set_option maxRecDepth 20000 in
set_option maxHeartbeats 4000000 in
theorem put_2 {I : Held} (hH : Has2 I) (p s g : Nat) (S : Nat → Prop) (q : Pt) (d : Dk) (w : World) (hI : I w S p d) (ht : FTab w (Plus S s)) (hst : FSt s 2 p (some g) w S) (hf : Dsk.Fine d) (hd : Dep w q) :
 Calls Tryz.prog 11 #[.pointer (some ⟨s, 0, none⟩), val q] w (PutIs I p s g S 2 q.r d w) := by
 obtain ⟨W, hW⟩ : ∃ W, w.alloc (.cells #[.int .i64 q.r.id.1, .int .i64 q.r.id.2, .int .i64 q.r.st, .int .i64 q.r.bl.1, .int .i64 q.r.bl.2, .int .i64 q.r.tk.1, .int .i64 q.r.tk.2, .int .i64 q.r.cm.kd, .int .i64 q.r.cm.cl, .int .i64 q.r.cm.sq, .string q.r.cm.ky, .string q.r.cm.vl, .int .i64 q.r.cm.rv, .slice q.V q.n q.c, .int .i64 q.r.at_.sq, .int .i64 q.r.at_.tg] 43) = W := ⟨_, rfl⟩
 have hb0 : Below w.heap.size w W := by rw [← hW]; exact bel_alloc (Below.refl _ _) _
 have hblk : Blk W w.heap.size 43 #[.int .i64 q.r.id.1, .int .i64 q.r.id.2, .int .i64 q.r.st, .int .i64 q.r.bl.1, .int .i64 q.r.bl.2, .int .i64 q.r.tk.1, .int .i64 q.r.tk.2, .int .i64 q.r.cm.kd, .int .i64 q.r.cm.cl, .int .i64 q.r.cm.sq, .string q.r.cm.ky, .string q.r.cm.vl, .int .i64 q.r.cm.rv, .slice q.V q.n q.c, .int .i64 q.r.at_.sq, .int .i64 q.r.at_.tg] := by rw [← hW]; exact Blk.new w _ _
 have hstb : Blk W s 70 #[.pointer (some ⟨p, 0, none⟩), .int .i64 2, .func (.func 34) #[] #[], .func (.func 35) #[] #[], .pointer (some ⟨g, 0, none⟩)] := Blk.bel hst.1 hb0;have hby : Calls Tryz.prog 21 #[.agg #[.int .i64 2, .func (.func 34) #[] #[], .func (.func 35) #[] #[]], .agg #[.int .i64 q.r.id.1, .int .i64 q.r.id.2, .int .i64 q.r.st, .int .i64 q.r.bl.1, .int .i64 q.r.bl.2, .int .i64 q.r.tk.1, .int .i64 q.r.tk.2, .int .i64 q.r.cm.kd, .int .i64 q.r.cm.cl, .int .i64 q.r.cm.sq, .string q.r.cm.ky, .string q.r.cm.vl, .int .i64 q.r.cm.rv, .slice q.V q.n q.c, .int .i64 q.r.at_.sq, .int .i64 q.r.at_.tg]] W.drew (BytesIs 2 q.r W.drew) := bytes_any (v := 2) (by omega) q W.drew (Ids.Rs.below hd hb0).drew;have HBY := hid hby;have H0 := hid (And.intro hI (And.intro ht (And.intro hst (And.intro hf hb0))));have hS0 : Blk W.drew s 70 #[.pointer (some ⟨p, 0, none⟩), .int .i64 2, .func (.func 34) #[] #[], .func (.func 35) #[] #[], .pointer (some ⟨g, 0, none⟩)] ∧ Blk W.drew w.heap.size 43 #[.int .i64 q.r.id.1, .int .i64 q.r.id.2, .int .i64 q.r.st, .int .i64 q.r.bl.1, .int .i64 q.r.bl.2, .int .i64 q.r.tk.1, .int .i64 q.r.tk.2, .int .i64 q.r.cm.kd, .int .i64 q.r.cm.cl, .int .i64 q.r.cm.sq, .string q.r.cm.ky, .string q.r.cm.vl, .int .i64 q.r.cm.rv, .slice q.V q.n q.c, .int .i64 q.r.at_.sq, .int .i64 q.r.at_.tg] := ⟨hstb, hblk⟩
 have HS0 := hid hS0;have HW := hid hW;have HH := hid hH;clear hby hb0 hblk hstb hW hI ht hst hH hf hd hS0;unfold val;go_enter Tryz.func11, Tryz.ntmps11
 go_upto_region 1 with fail
 rw [HW.out];refine wp_region_held_drew (S := (fun w' => Blk w' s 70 #[.pointer (some ⟨p, 0, none⟩), .int .i64 2, .func (.func 34) #[] #[], .func (.func 35) #[] #[], .pointer (some ⟨g, 0, none⟩)] ∧ Blk w' w.heap.size 43 #[.int .i64 q.r.id.1, .int .i64 q.r.id.2, .int .i64 q.r.st, .int .i64 q.r.bl.1, .int .i64 q.r.bl.2, .int .i64 q.r.tk.1, .int .i64 q.r.tk.2, .int .i64 q.r.cm.kd, .int .i64 q.r.cm.cl, .int .i64 q.r.cm.sq, .string q.r.cm.ky, .string q.r.cm.vl, .int .i64 q.r.cm.rv, .slice q.V q.n q.c, .int .i64 q.r.at_.sq, .int .i64 q.r.at_.tg])) (by kernel_rfl) HS0.out (fun hHeld => ?_);refine hs_take 0 8 (.pointer (some ⟨s, 0, none⟩)) rfl rfl (by kernel_rfl) (fun _ _ _ h => h) (fun w hSw => by (obtain ⟨_, _⟩ := hSw); go_simp) hHeld ?_;try simp only [n0, n1, n2]
 refine hs_take 1 9 (.pointer (some ⟨s, 0, none⟩)) rfl rfl (by kernel_rfl) (fun _ _ _ h => h) (fun w hSw => by (obtain ⟨_, _⟩ := hSw); go_simp) hHeld ?_;try simp only [n0, n1, n2]
 refine hs_take 2 10 (.pointer (some ⟨s, 1, none⟩)) rfl rfl (by kernel_rfl) (fun _ _ _ h => h) (fun w hSw => by (obtain ⟨_, _⟩ := hSw); go_simp) hHeld ?_;try simp only [n0, n1, n2]
 refine hs_take 3 11 (.agg #[.int .i64 2, .func (.func 34) #[] #[], .func (.func 35) #[] #[]]) rfl rfl (by kernel_rfl) (fun _ _ _ h => h) (run_load_mid 61 (.tmp 10) rfl s 1 [.int .i64 2, .func (.func 34) #[] #[], .func (.func 35) #[] #[]] _ rfl (fun _ h => blk_range3 h.1) Tryz.underlying61 rfl (by kernel_rfl)) hHeld ?_;try simp only [n0, n1, n2]
 refine hs_take 4 12 (.agg #[.int .i64 q.r.id.1, .int .i64 q.r.id.2, .int .i64 q.r.st, .int .i64 q.r.bl.1, .int .i64 q.r.bl.2, .int .i64 q.r.tk.1, .int .i64 q.r.tk.2, .int .i64 q.r.cm.kd, .int .i64 q.r.cm.cl, .int .i64 q.r.cm.sq, .string q.r.cm.ky, .string q.r.cm.vl, .int .i64 q.r.cm.rv, .slice q.V q.n q.c, .int .i64 q.r.at_.sq, .int .i64 q.r.at_.tg]) rfl rfl (by kernel_rfl) (fun _ _ _ h => h) (run_load_blk 43 (.tmp 3) rfl w.heap.size 43 #[.int .i64 q.r.id.1, .int .i64 q.r.id.2, .int .i64 q.r.st, .int .i64 q.r.bl.1, .int .i64 q.r.bl.2, .int .i64 q.r.tk.1, .int .i64 q.r.tk.2, .int .i64 q.r.cm.kd, .int .i64 q.r.cm.cl, .int .i64 q.r.cm.sq, .string q.r.cm.ky, .string q.r.cm.vl, .int .i64 q.r.cm.rv, .slice q.V q.n q.c, .int .i64 q.r.at_.sq, .int .i64 q.r.at_.tg] _ rfl (fun _ h => h.2) Tryz.underlying43 rfl (by kernel_rfl)) hHeld ?_;try simp only [n0, n1, n2]
 refine wpAnyH_ready (rs := [5]) (by kernel_rfl) (by simp) ?_;refine AllReadyH.cons rfl (fun K hK => ?_) AllReadyH.nil;go_simp;refine HBY.out.mono ?_;rintro e w1 ⟨BA, bn, bc, rfl, hg, hb1⟩;have hb1 : Below W.heap.size W w1 := ((Below.refl W.heap.size W).drew).trans hb1;have H1 := hid (And.intro hg hb1);clear hg hb1;refine hK.out _ _ ⟨Blk.bel (w := W) HS0.out.1 H1.out.2, Blk.bel (w := W) HS0.out.2 H1.out.2⟩ (fun hHeld => ?_);clear hK K;refine hs_take 6 7 (.tuple #[.slice BA bn bc, .int .i64 (put 2 q.r).2]) rfl rfl (by kernel_rfl) (fun _ _ _ h => h) (fun w hSw => by (obtain ⟨_, _⟩ := hSw); go_simp) hHeld ?_;try simp only [n0, n1, n2]
 refine hs_take 7 14 (.slice BA bn bc) rfl rfl (by kernel_rfl) (fun _ _ _ h => h) (fun w hSw => by (obtain ⟨_, _⟩ := hSw); go_simp) hHeld ?_;try simp only [n0, n1, n2]
 refine hs_take 8 15 (.int .i64 (put 2 q.r).2) rfl rfl (by kernel_rfl) (fun _ _ _ h => h) (fun w hSw => by (obtain ⟨_, _⟩ := hSw); go_simp) hHeld ?_;try simp only [n0, n1, n2]
 refine hs_take 9 5 (.slice BA bn bc) rfl rfl (by kernel_rfl) (fun _ _ _ h => h) (fun w hSw => by (obtain ⟨_, _⟩ := hSw); go_simp) hHeld ?_;try simp only [n0, n1, n2]
 refine hs_take 10 6 (.int .i64 (put 2 q.r).2) rfl rfl (by kernel_rfl) (fun _ _ _ h => h) (fun w hSw => by (obtain ⟨_, _⟩ := hSw); go_simp) hHeld ?_;try simp only [n0, n1, n2]
 refine wpAnyH_done (by kernel_rfl) ?_ _;have hbw : Below w.heap.size w w1 := H0.out.2.2.2.2.trans (H1.out.2.mono H0.out.2.2.2.2.size);have hI1 := have_bel HH.out H0.out.1 hbw;have hs1 := (frame_st s 2 p (some g)).go H0.out.2.2.1 (Keeps.ofBelow hbw) (Dsk.Grew.refl S w);have hs1b : Blk w1 s 70 #[.pointer (some ⟨p, 0, none⟩), .int .i64 2, .func (.func 34) #[] #[], .func (.func 35) #[] #[], .pointer (some ⟨g, 0, none⟩)] := hs1.1;have c4 := hs1b.cell 4;simp only [List.getElem?_toArray, List.getElem?_cons_succ, List.getElem?_cons_zero] at c4
 have ht1 : FTab w1 S := by
  have h := frame_tab.go H0.out.2.1 (Keeps.ofBelow hbw) (Dsk.Grew.refl (Plus S s) w);exact ⟨h.1, fun hs => h.2 (.inl hs)⟩
 obtain ⟨er, her⟩ : ∃ er, (put 2 q.r).2 = er := ⟨_, rfl⟩
 have HX := hid (And.intro hbw (And.intro hI1 (And.intro hs1 ht1)));have hg := H1.out.1;rw [her] at hg ⊢;have HER := hid her;have HG := hid hg;clear hbw hI1 hs1 hs1b ht1 her hg;by_cases h0 : er = 0
 · subst h0
   have b0 : ((0 : Int) != 0) = false := rfl;obtain ⟨hgood, hbn, hnew, hrd⟩ := HG.out rfl;have hlen := lay_len hgood
   have hfr : FRd BA bn bc (cs (lay 2 q.r)) w1 S := ⟨hrd, fun _ ad e hs => by
    have h1 := hnew ad e;have h2 := HH.out.low H0.out.1 _ hs;have h3 : W.drew.heap.size = W.heap.size := rfl;have h4 := H0.out.2.2.2.2.size;omega⟩
   have had := add_any HH.out g p S d nlog BA bn bc (lay 2 q.r) w1 HX.out.2.1 H0.out.2.2.2.1 HX.out.2.2.2 (HX.out.2.2.1.2.2 g rfl).1 hfr (lay_lt hgood) (by omega) (by decide);obtain ⟨x, d3, hx⟩ : ∃ x d3, whole (doAppend nlog (form (lay 2 q.r))) d = (x, d3) := ⟨_, _, rfl⟩
   have hf3 : Dsk.Fine d3 := by have h := (fine_putD (lay 2 q.r) H0.out.2.2.2.1).1; rw [hx] at h; exact h
   have hbr : putD (lay 2 q.r) d = if x ≠ 0 then (x, d3) else (fg (whole (doSync nlog) d3).1, (whole (doSync nlog) d3).2) := by
    unfold putD;rw [hx]
   rw [hx] at had;have HAD := hid had;have HP := hid (And.intro hgood (And.intro hx (And.intro hbr hf3)));clear hgood hbn hnew hrd hlen hfr had hx hf3 hbr;go_wp2_with fail
   refine HAD.out.mono ?_;rintro e w2 ⟨rfl, S2, hI2, hg2, hk2⟩;simp only at hI2;have hs2 := (frame_st s 2 p (some g)).go HX.out.2.2.1 hk2 hg2;have hs2b : Blk w2 s 70 #[.pointer (some ⟨p, 0, none⟩), .int .i64 2, .func (.func 34) #[] #[], .func (.func 35) #[] #[], .pointer (some ⟨g, 0, none⟩)] := hs2.1;have k4 := hs2b.cell 4;simp only [List.getElem?_toArray, List.getElem?_cons_succ, List.getElem?_cons_zero] at k4;have hgS : Dsk.Grew S S2 w := (Dsk.Grew.refl S w).trans hg2 HX.out.1.size;have hkS : Keeps S w w2 := (Keeps.ofBelow (S := S) HX.out.1).trans hk2 (Dsk.Grew.refl S w);have H2 := hid (And.intro hI2 (And.intro hgS (And.intro hkS hs2)));clear hI2 hg2 hk2 hs2 hs2b hgS hkS c4;by_cases hx0 : x = 0
   · subst hx0
     have hfl := flush_any HH.out g p S2 d3 nlog w2 H2.out.1 HP.out.2.2.2 (H2.out.2.2.2.2.2 g rfl).1 (by decide);obtain ⟨y, hy⟩ : ∃ y, fg (whole (doSync nlog) d3).1 = y := ⟨_, rfl⟩
     obtain ⟨d4, hd4⟩ : ∃ d4, (whole (doSync nlog) d3).2 = d4 := ⟨_, rfl⟩
     have hbr := HP.out.2.2.1;rw [if_neg (by simp), hy, hd4] at hbr;rw [hy, hd4] at hfl;have HFL := hid hfl;have HY := hid hbr;have b1 : (((0 : Nat) : Int) != 0) = false := rfl;clear hfl hy hd4 hbr;go_wp2_with fail
     refine HFL.out.mono ?_;rintro e w3 ⟨rfl, S3, hI3, hg3, hk3⟩;have hs3 := (frame_st s 2 p (some g)).go H2.out.2.2.2 hk3 hg3;have hgS : Dsk.Grew S S3 w := H2.out.2.1.trans hg3 H2.out.2.2.1.size;have hkS : Keeps S w w3 := H2.out.2.2.1.trans hk3 H2.out.2.1;have hs3b : Blk w3 s 70 #[.pointer (some ⟨p, 0, none⟩), .int .i64 2, .func (.func 34) #[] #[], .func (.func 35) #[] #[], .pointer (some ⟨g, 0, none⟩)] := hs3.1;have m4 := hs3b.cell 4;have n4 := hs3b.soft 4;simp only [List.getElem?_toArray, List.getElem?_cons_succ, List.getElem?_cons_zero] at m4;have H3 := hid (And.intro hI3 (And.intro hgS (And.intro hkS (And.intro hs3 hs3b))));clear hI3 hg3 hk3 hs3 hs3b hgS hkS k4;by_cases hy0 : y = 0
     · subst hy0
       go_wp2_with fail
       go_ret;refine .inr ⟨HER.out, HP.out.1, by rw [HY.out]; rfl, some g, S3, ?_, H3.out.2.2.2.1, fun _ => rfl, H3.out.2.1, plus_keeps H3.out.2.2.1⟩;rw [HY.out];exact H3.out.1
     · have b2 : ((y : Int) != 0) = true := by rw [bne_iff_ne]; omega
       have HY0 := hid hy0;clear hy0;go_wp2_with fail
       go_ret;have hgb := set_by w3 s 4 (.pointer none);have hkt : Keeps (fun k => k = s) w3 (w3.setCell ⟨s, 4, none⟩ (.pointer none)) := Keeps.ofGrown hgb rfl;have hks : Keeps (Plus S3 s) w3 (w3.setCell ⟨s, 4, none⟩ (.pointer none)) := Keeps.ofGrown hgb (.inr rfl);refine .inr ⟨HER.out, HP.out.1, by rw [HY.out]; rfl, none, S3, ?_, ⟨H3.out.2.2.2.2.put 4 (.pointer none), H3.out.2.2.2.1.2.1, fun g' e => by cases e⟩, fun h => ?_, H3.out.2.1, (plus_keeps H3.out.2.2.1).trans hks (plus_grew H3.out.2.1)⟩
       · rw [HY.out]
         exact HH.out.keep H3.out.1 hkt fun b hb e => H3.out.2.2.2.1.2.1 (by rw [← e]; exact hb)
       · rw [HY.out, HP.out.2.1] at h
         rcases h with h | h
         · exact absurd h HY0.out
         · exact absurd rfl h
   · have b1 : ((x : Int) != 0) = true := by rw [bne_iff_ne]; omega
     have hbr := HP.out.2.2.1;rw [if_pos hx0] at hbr;have HY := hid hbr;clear hx0 hbr;go_wp2_with fail
     go_ret;refine .inr ⟨HER.out, HP.out.1, by rw [HY.out]; rfl, some g, S2, ?_, H2.out.2.2.2, fun _ => rfl, H2.out.2.1, plus_keeps H2.out.2.2.1⟩;rw [HY.out];exact H2.out.1
 · have b0 : (er != 0) = true := by rw [bne_iff_ne]; exact h0
   have HER0 := hid h0;clear h0;go_wp2_with fail
   go_ret;exact .inl ⟨by rw [HER.out]; exact HER0.out, by rw [HER.out]; rfl, S, HX.out.2.1, HX.out.2.2.1, Dsk.Grew.refl S w, Keeps.ofBelow HX.out.1⟩
theorem sput_any {I : Held} (hH : Has2 I) : HPut I := by
 intro v hv p s g S q d w hI ht hst hf hd;rcases hv with rfl | rfl
 · exact put_1 hH p s g S q d w hI ht hst hf hd
 · exact put_2 hH p s g S q d w hI ht hst hf hd
end Go.Proofs.YtkejjdoaljoooaaGreatDoor.Sc
