/-
  Texts of earlier layers, as one.
-/
import Derived.Test.YtbjooblaamjppaaGreatRecRead
import Derived.Test.YtbjooblaamjppaaGreatRBalRT
import Derived.Test.YtbjooblaamjppaaGreatRStore
import Derived.Test.YtbjooblaamjppaaGreatRBase
import Derived.Deep.RegionHeld
import Derived.Deep.Cut
/- The document's front: what an item tells ahead of the command. -/
namespace Go.Proofs.YtbjooblaamjppaaGreat.Rk
open Go.RowKit Mem Ids Att Cod

def frontOf (l : List It) : Rc := ⟨(Cmd.cap (l.getD 0 Cmd.zeroIt).num, Cmd.cap (l.getD 1 Cmd.zeroIt).num), Cmd.cap (l.getD 2 Cmd.zeroIt).num, (Bal.balTake (l.getD 3 Cmd.zeroIt)).getD (0, 0), (Bal.balTake (l.getD 4 Cmd.zeroIt)).getD (0, 0), Cmd.zeroCm, zeroAt⟩
def frontOk (l : List It) : Bool := (Bal.balTake (l.getD 3 Cmd.zeroIt)).isSome && (Bal.balTake (l.getD 4 Cmd.zeroIt)).isSome && (((l.length : Int) == 5) == (Cmd.cap (l.getD 2 Cmd.zeroIt).num == 0))
def frontRc (l : List It) : Rc := if l.length = 5 ∨ l.length = 7 then frontOf l else zeroRc
def frontB (l : List It) : Bool := if l.length = 5 ∨ l.length = 7 then frontOk l else false
/-- The ending. -/
def Fronts (w : World) (r : Rc) (b : Bool) (e : Ending) (w' : World) : Prop :=
  e = .returned (.tuple #[.agg #[.int .i64 r.id.1, .int .i64 r.id.2, .int .i64 r.st, .int .i64 r.bl.1, .int .i64 r.bl.2, .int .i64 r.tk.1, .int .i64 r.tk.2, .int .i64 0, .int .i64 0, .int .i64 0, .string ⟨#[]⟩, .string ⟨#[]⟩, .int .i64 0, .slice none 0 0, .int .i64 0, .int .i64 0], .bool b]) ∧ Below w.heap.size w w'
def RtkRec (W : World) (vs : Array Value) (v4 : Value) (wx : World) : Prop :=
  ∃ p, v4 = .pointer (some ⟨p, 0, none⟩) ∧ W.heap.size ≤ p ∧ Blk wx p 32 vs ∧ Below W.heap.size W wx
set_option maxRecDepth 100000 in
set_option maxHeartbeats 16000000 in
theorem front_any (x : It) (A : Option Addr) (c : Nat) (S : Nat → Prop) (w : World) (hl : Lies w S x A c) (hS : ∀ b, S b → b < w.heap.size) :
    Calls Tryz.prog 38 #[.agg #[.int .i64 x.kind, .int .u64 (x.num : Int), .string x.str, .slice A x.kids.length c]] w (Fronts w (frontRc x.kids) (frontB x.kids)) := by
  obtain ⟨n, hn⟩ : ∃ n, x.kids.length = n := ⟨_, rfl⟩
  rw [hn]
  obtain ⟨W, hW⟩ : ∃ W, (w.alloc (.cells #[.int .i64 x.kind, .int .u64 (x.num : Int), .string x.str, .slice A n c] 36)).alloc (.cells #[.int .i64 0, .int .i64 0, .int .i64 0, .int .i64 0, .int .i64 0, .int .i64 0, .int .i64 0, .int .i64 0, .int .i64 0, .int .i64 0, .string ⟨#[]⟩, .string ⟨#[]⟩, .int .i64 0, .slice none 0 0, .int .i64 0, .int .i64 0] 32) = W := ⟨_, rfl⟩
  obtain ⟨k1, k2, kb, hsW⟩ := two_kinds w _ _ _ _ W hW
  have hlw := (hl.below kb hS).row
  rw [hn] at hlw
  have HX := Lib.hid k1
  have HBX := Lib.hid k2
  have HB0 := Lib.hid kb
  have HW := Lib.hid hW
  have HSW := Lib.hid hsW
  have HSS := Lib.hid hS
  have HN := Lib.hid hn
  clear hl hS k1 k2 kb hW hn hsW
  by_cases h57 : n = 5 ∨ n = 7
  case neg =>
    have e5 : ((n : Int) != 5) = true := by simp; omega
    have e7 : ((n : Int) != 7) = true := by simp; omega
    have HF := Lib.hid (show frontRc x.kids = zeroRc ∧ frontB x.kids = false by unfold frontRc frontB; rw [HN.out, if_neg h57, if_neg h57]; exact ⟨rfl, rfl⟩)
    obtain ⟨x0, x1, x2, x3⟩ := blk4 HX.out
    clear h57 hlw
    go_enter Tryz.func38, Tryz.ntmps38
    go_upto_region 2 with fail
    rw [HW.out]
    go_wp2_with (first | fail | (refine wpList_store_blk rfl 32 _ _ rfl (w.heap.size + 1) 32 #[.int .i64 0, .int .i64 0, .int .i64 0, .int .i64 0, .int .i64 0, .int .i64 0, .int .i64 0, .int .i64 0, .int .i64 0, .int .i64 0, .string ⟨#[]⟩, .string ⟨#[]⟩, .int .i64 0, .slice none 0 0, .int .i64 0, .int .i64 0] #[.int .i64 0, .int .i64 0, .int .i64 0, .int .i64 0, .int .i64 0, .int .i64 0, .int .i64 0, .int .i64 0, .int .i64 0, .int .i64 0, .string ⟨#[]⟩, .string ⟨#[]⟩, .int .i64 0, .slice none 0 0, .int .i64 0, .int .i64 0] rfl rfl HBX.out (by kernel_rfl) rfl (by kernel_rfl) ?_; intro w9 hblk2 hgr))
    refine bodyPost_ret (v := .tuple #[.agg #[.int .i64 0, .int .i64 0, .int .i64 0, .int .i64 0, .int .i64 0, .int .i64 0, .int .i64 0, .int .i64 0, .int .i64 0, .int .i64 0, .string ⟨#[]⟩, .string ⟨#[]⟩, .int .i64 0, .slice none 0 0, .int .i64 0, .int .i64 0], .bool false]) (results_blk_tmp Tryz.results38 _ _ (w.heap.size + 1) 32 _ _ _ rfl rfl hblk2 Tryz.underlying32 rfl (by kernel_rfl)) rfl ?_
    rw [HF.out.1, HF.out.2]
    exact ⟨rfl, HB0.out.trans (gr_below hgr (by have := HB0.out.size; omega) fun b hb => by injection hb with hb; omega)⟩
  have hF1 : frontRc x.kids = frontOf x.kids := by unfold frontRc; rw [HN.out, if_pos h57]
  have hF2 : frontB x.kids = frontOk x.kids := by unfold frontB; rw [HN.out, if_pos h57]
  rw [hF1, hF2]
  have hpick : ((n : Int) != 5) = false ∨ ((n : Int) != 5) = true ∧ ((n : Int) != 7) = false := by
    rcases h57 with h | h
    · exact .inl (by rw [h]; rfl)
    · exact .inr ⟨by rw [h]; rfl, by rw [h]; rfl⟩
  have hn5 : 5 ≤ n := by omega
  have hn5i : (5 : Int) ≤ (n : Int) := by omega
  have hb0a : ¬ ((n : Int) ≤ 0) := by omega
  have hb1a : ¬ ((n : Int) ≤ 1) := by omega
  have hb2a : ¬ ((n : Int) ≤ 2) := by omega
  have hb0b : (0 : Int) < (n : Int) := by omega
  have hb1b : (1 : Int) < (n : Int) := by omega
  have hb2b : (2 : Int) < (n : Int) := by omega
  have hb0c : ¬ n = 0 := by omega
  have hb1c : 1 < n := by omega
  have hb2c : 2 < n := by omega
  obtain ⟨g0, o0, A0, c0, e0, hS0, hg0, q00, q01, q02, q03, l0⟩ := row_at hlw (k := 0) (by omega)
  obtain ⟨g1, o1, A1, c1, e1, hS1, hg1, q10, q11, q12, q13, l1⟩ := row_at hlw (k := 1) (by omega)
  obtain ⟨g2, o2, A2, c2, e2, hS2, hg2, q20, q21, q22, q23, l2⟩ := row_at hlw (k := 2) (by omega)
  obtain ⟨g3, o3, A3, c3, e3, hS3, hg3, q30, q31, q32, q33, l3⟩ := row_at hlw (k := 3) (by omega)
  obtain ⟨g4, o4, A4, c4, e4, hS4, hg4, q40, q41, q42, q43, l4⟩ := row_at hlw (k := 4) (by omega)
  subst e0
  obtain ⟨rfl, rfl⟩ : g0 = g1 ∧ o0 = o1 := by injection e1 with e; injection e with e1 e2; exact ⟨e1, e2⟩
  clear e1
  obtain ⟨rfl, rfl⟩ : g0 = g2 ∧ o0 = o2 := by injection e2 with e; injection e with e1 e2; exact ⟨e1, e2⟩
  clear e2
  obtain ⟨rfl, rfl⟩ : g0 = g3 ∧ o0 = o3 := by injection e3 with e; injection e with e1 e2; exact ⟨e1, e2⟩
  clear e3
  obtain ⟨rfl, rfl⟩ : g0 = g4 ∧ o0 = o4 := by injection e4 with e; injection e with e1 e2; exact ⟨e1, e2⟩
  clear e4
  obtain ⟨g, hgg⟩ : ∃ g, g0 = g := ⟨_, rfl⟩
  obtain ⟨o, hoo⟩ : ∃ o, o0 = o := ⟨_, rfl⟩
  subst hgg hoo
  obtain ⟨y0, hy0⟩ : ∃ y, x.kids.getD 0 Cmd.zeroIt = y := ⟨_, rfl⟩
  rw [hy0] at q00 q01 q02 q03 l0
  obtain ⟨y1, hy1⟩ : ∃ y, x.kids.getD 1 Cmd.zeroIt = y := ⟨_, rfl⟩
  rw [hy1] at q10 q11 q12 q13 l1
  obtain ⟨y2, hy2⟩ : ∃ y, x.kids.getD 2 Cmd.zeroIt = y := ⟨_, rfl⟩
  rw [hy2] at q20 q21 q22 q23 l2
  obtain ⟨y3, hy3⟩ : ∃ y, x.kids.getD 3 Cmd.zeroIt = y := ⟨_, rfl⟩
  rw [hy3] at q30 q31 q32 q33 l3
  obtain ⟨y4, hy4⟩ : ∃ y, x.kids.getD 4 Cmd.zeroIt = y := ⟨_, rfl⟩
  rw [hy4] at q40 q41 q42 q43 l4
  have HSK := Lib.hid (show ∀ w', Below W.heap.size W w' → w'.cell? ⟨w.heap.size, 3, none⟩ = some (.slice (some ⟨g0, o0, none⟩) n c) ∧ w'.cell? ⟨g0, o0, none⟩ = some (.int .i64 y0.kind) ∧ w'.cell? ⟨g0, o0 + 1, none⟩ = some (.int .u64 (y0.num : Int)) ∧ w'.cell? ⟨g0, o0 + 2, none⟩ = some (.string y0.str) ∧ w'.cell? ⟨g0, o0 + 3, none⟩ = some (.slice A0 y0.kids.length c0) ∧ w'.cell? ⟨g0, o0 + 4, none⟩ = some (.int .i64 y1.kind) ∧ w'.cell? ⟨g0, o0 + 4 + 1, none⟩ = some (.int .u64 (y1.num : Int)) ∧ w'.cell? ⟨g0, o0 + 4 + 2, none⟩ = some (.string y1.str) ∧ w'.cell? ⟨g0, o0 + 4 + 3, none⟩ = some (.slice A1 y1.kids.length c1) ∧ w'.cell? ⟨g0, o0 + 8, none⟩ = some (.int .i64 y2.kind) ∧ w'.cell? ⟨g0, o0 + 8 + 1, none⟩ = some (.int .u64 (y2.num : Int)) ∧ w'.cell? ⟨g0, o0 + 8 + 2, none⟩ = some (.string y2.str) ∧ w'.cell? ⟨g0, o0 + 8 + 3, none⟩ = some (.slice A2 y2.kids.length c2) ∧ w'.cell? ⟨g0, o0 + 12, none⟩ = some (.int .i64 y3.kind) ∧ w'.cell? ⟨g0, o0 + 12 + 1, none⟩ = some (.int .u64 (y3.num : Int)) ∧ w'.cell? ⟨g0, o0 + 12 + 2, none⟩ = some (.string y3.str) ∧ w'.cell? ⟨g0, o0 + 12 + 3, none⟩ = some (.slice A3 y3.kids.length c3) ∧ w'.cell? ⟨g0, o0 + 16, none⟩ = some (.int .i64 y4.kind) ∧ w'.cell? ⟨g0, o0 + 16 + 1, none⟩ = some (.int .u64 (y4.num : Int)) ∧ w'.cell? ⟨g0, o0 + 16 + 2, none⟩ = some (.string y4.str) ∧ w'.cell? ⟨g0, o0 + 16 + 3, none⟩ = some (.slice A4 y4.kids.length c4) from fun w' hb =>
    ⟨(blk4 (HX.out.bel hb)).2.2.2, (hb.cell (p := ⟨g0, o0, none⟩) hg0).trans q00, (hb.cell (p := ⟨g0, o0 + 1, none⟩) hg0).trans q01, (hb.cell (p := ⟨g0, o0 + 2, none⟩) hg0).trans q02, (hb.cell (p := ⟨g0, o0 + 3, none⟩) hg0).trans q03, (hb.cell (p := ⟨g0, o0 + 4, none⟩) hg0).trans q10, (hb.cell (p := ⟨g0, o0 + 4 + 1, none⟩) hg0).trans q11, (hb.cell (p := ⟨g0, o0 + 4 + 2, none⟩) hg0).trans q12, (hb.cell (p := ⟨g0, o0 + 4 + 3, none⟩) hg0).trans q13, (hb.cell (p := ⟨g0, o0 + 8, none⟩) hg0).trans q20, (hb.cell (p := ⟨g0, o0 + 8 + 1, none⟩) hg0).trans q21, (hb.cell (p := ⟨g0, o0 + 8 + 2, none⟩) hg0).trans q22, (hb.cell (p := ⟨g0, o0 + 8 + 3, none⟩) hg0).trans q23, (hb.cell (p := ⟨g0, o0 + 12, none⟩) hg0).trans q30, (hb.cell (p := ⟨g0, o0 + 12 + 1, none⟩) hg0).trans q31, (hb.cell (p := ⟨g0, o0 + 12 + 2, none⟩) hg0).trans q32, (hb.cell (p := ⟨g0, o0 + 12 + 3, none⟩) hg0).trans q33, (hb.cell (p := ⟨g0, o0 + 16, none⟩) hg0).trans q40, (hb.cell (p := ⟨g0, o0 + 16 + 1, none⟩) hg0).trans q41, (hb.cell (p := ⟨g0, o0 + 16 + 2, none⟩) hg0).trans q42, (hb.cell (p := ⟨g0, o0 + 16 + 3, none⟩) hg0).trans q43⟩)
  have hi := And.intro (And.intro hy0 hy1) (And.intro hy2 (And.intro hy3 hy4))
  have HI0 := Lib.hid (Cw.refint_any y0.kind y0.num y0.str A0 y0.kids.length c0)
  have HI1 := Lib.hid (Cw.refint_any y1.kind y1.num y1.str A1 y1.kids.length c1)
  have HI2 := Lib.hid (Cw.refint_any y2.kind y2.num y2.str A2 y2.kids.length c2)
  have HT3 : Hid (∀ v, Below W.heap.size W v → Calls Tryz.prog 74 #[(.agg #[.int .i64 y3.kind, .int .u64 (y3.num : Int), .string y3.str, .slice A3 y3.kids.length c3])] v (Bal.BalTakes v (Bal.balTake y3))) := Lib.hid (fun v hb => Bal.refbaltake_any y3 A3 c3 _ v (l3.below hb (fun b hb => by have := HSS.out b hb; have := HSW.out; omega)) (fun b hb' => by have := HSS.out b hb'; have := HSW.out; have := hb.size; omega))
  have HT4 : Hid (∀ v, Below W.heap.size W v → Calls Tryz.prog 74 #[(.agg #[.int .i64 y4.kind, .int .u64 (y4.num : Int), .string y4.str, .slice A4 y4.kids.length c4])] v (Bal.BalTakes v (Bal.balTake y4))) := Lib.hid (fun v hb => Bal.refbaltake_any y4 A4 c4 _ v (l4.below hb (fun b hb => by have := HSS.out b hb; have := HSW.out; omega)) (fun b hb' => by have := HSS.out b hb'; have := HSW.out; have := hb.size; omega))
  obtain ⟨R0, hR0⟩ : ∃ R : Int, Cmd.cap y0.num = R := ⟨_, rfl⟩
  obtain ⟨R1, hR1⟩ : ∃ R : Int, Cmd.cap y1.num = R := ⟨_, rfl⟩
  obtain ⟨R2, hR2⟩ : ∃ R : Int, Cmd.cap y2.num = R := ⟨_, rfl⟩
  obtain ⟨⟨b1, b2⟩, hb3⟩ : ∃ b, (Bal.balTake y3).getD (0, 0) = b := ⟨_, rfl⟩
  obtain ⟨⟨t1, t2⟩, hb4⟩ : ∃ b, (Bal.balTake y4).getD (0, 0) = b := ⟨_, rfl⟩
  obtain ⟨m3, hm3⟩ : ∃ b, (Bal.balTake y3).isSome = b := ⟨_, rfl⟩
  obtain ⟨m4, hm4⟩ : ∃ b, (Bal.balTake y4).isSome = b := ⟨_, rfl⟩
  have hfo : frontOf x.kids = ⟨(R0, R1), R2, (b1, b2), (t1, t2), Cmd.zeroCm, zeroAt⟩ := by
    rw [frontOf, hi.1.1, hi.1.2, hi.2.1, hi.2.2.1, hi.2.2.2, hR0, hR1, hR2, hb3, hb4]
  have hfk : frontOk x.kids = (m3 && m4 && (((n : Int) == 5) == (R2 == 0))) := by
    rw [frontOk, hi.2.1, hi.2.2.1, hi.2.2.2, hm3, hm4, hR2, HN.out]
  rw [hfo, hfk]
  rw [hR0] at HI0
  rw [hR1] at HI1
  rw [hR2] at HI2
  unfold Bal.BalTakes at HT3 HT4
  rw [hb3, hm3] at HT3
  rw [hb4, hm4] at HT4
  have HGW := Lib.hid hg0
  obtain ⟨x0, x1, x2, x3⟩ := blk4 HX.out
  have hwW : w.heap.size < W.heap.size := by have := HSW.out; omega
  have HCUR := Lib.hid (Below.drew (Below.refl W.heap.size W))
  clear hi hR0 hR1 hR2 hb3 hb4 hm3 hm4 hfo hfk hF1 hF2 hlw hy0 hy1 hy2 hy3 hy4 l0 l1 l2 l3 l4 q00 q01 q02 q03 q10 q11 q12 q13 q20 q21 q22 q23 q30 q31 q32 q33 q40 q41 q42 q43 hS0 hS1 hS2 hS3 hS4 hg0 hg1 hg2 hg3 hg4
  go_enter Tryz.func38, Tryz.ntmps38
  go_upto_region 1 with fail
  rw [HW.out]
  go_cut [18] from 9 (fun cv wx => cv = .bool false ∧ Below W.heap.size W wx)
  case first =>
    rcases hpick with e5 | ⟨e5, e7⟩
    all_goals
      go_wp2_with fail
      go_meet
      case rel => exact ⟨rfl, Below.refl _ _⟩
  case rest =>
  obtain ⟨rfl, hbx⟩ := hcut
  generalize wc = Wx at hbx ⊢
  replace HCUR := Lib.hid (Below.drew hbx)
  clear hbx hpick x0 x1 x2 x3
  go_upto_region 3 with fail
  go_cut [4] from 9 (RtkRec W #[.int .i64 R0, .int .i64 R1, .int .i64 R2, .int .i64 0, .int .i64 0, .int .i64 0, .int .i64 0, .int .i64 0, .int .i64 0, .int .i64 0, .string ⟨#[]⟩, .string ⟨#[]⟩, .int .i64 0, .slice none 0 0, .int .i64 0, .int .i64 0])
  case first =>
    refine wp_region_held_drew (S := fun w' => Below W.heap.size W w') (by kernel_rfl) (by with_reducible exact HCUR.out) (fun hHeld => ?_)
    refine held_take (i := 0) (d := 20) (v := (.pointer (some ⟨w.heap.size, 3, none⟩))) rfl rfl (by kernel_rfl) (by kernel_rfl) (by kernel_rfl) (fun _ _ _ h => h) (by kernel_rfl) (fun w' hS => by go_simp) hHeld ?_
    try simp only [List.setIfInBounds_toArray, List.set_cons_zero, List.set_cons_succ]
    refine held_take (i := 1) (d := 21) (v := (.slice (some ⟨g0, o0, none⟩) n c)) rfl rfl (by kernel_rfl) (by kernel_rfl) (by kernel_rfl) (fun _ _ _ h => h) (by kernel_rfl) (fun w' hS => by (obtain ⟨hh, h00, h01, h02, h03, h10, h11, h12, h13, h20, h21, h22, h23, h30, h31, h32, h33, h40, h41, h42, h43⟩ := HSK.out w' hS); go_simp) hHeld ?_
    try simp only [List.setIfInBounds_toArray, List.set_cons_zero, List.set_cons_succ]
    refine held_take (i := 2) (d := 22) (v := (.pointer (some ⟨g0, o0, none⟩))) rfl rfl (by kernel_rfl) (by kernel_rfl) (by kernel_rfl) (fun _ _ _ h => h) (by kernel_rfl) (fun w' hS => by go_simp) hHeld ?_
    try simp only [List.setIfInBounds_toArray, List.set_cons_zero, List.set_cons_succ]
    refine held_take (i := 3) (d := 23) (v := (.agg #[.int .i64 y0.kind, .int .u64 (y0.num : Int), .string y0.str, .slice A0 y0.kids.length c0])) rfl rfl (by kernel_rfl) (by kernel_rfl) (by kernel_rfl) (fun _ _ _ h => h) (by kernel_rfl) (fun w' hS => by (obtain ⟨hh, h00, h01, h02, h03, h10, h11, h12, h13, h20, h21, h22, h23, h30, h31, h32, h33, h40, h41, h42, h43⟩ := HSK.out w' hS); go_simp) hHeld ?_
    try simp only [List.setIfInBounds_toArray, List.set_cons_zero, List.set_cons_succ]
    refine held_take (i := 5) (d := 25) (v := (.pointer (some ⟨w.heap.size, 3, none⟩))) rfl rfl (by kernel_rfl) (by kernel_rfl) (by kernel_rfl) (fun _ _ _ h => h) (by kernel_rfl) (fun w' hS => by go_simp) hHeld ?_
    try simp only [List.setIfInBounds_toArray, List.set_cons_zero, List.set_cons_succ]
    refine held_take (i := 6) (d := 26) (v := (.slice (some ⟨g0, o0, none⟩) n c)) rfl rfl (by kernel_rfl) (by kernel_rfl) (by kernel_rfl) (fun _ _ _ h => h) (by kernel_rfl) (fun w' hS => by (obtain ⟨hh, h00, h01, h02, h03, h10, h11, h12, h13, h20, h21, h22, h23, h30, h31, h32, h33, h40, h41, h42, h43⟩ := HSK.out w' hS); go_simp) hHeld ?_
    try simp only [List.setIfInBounds_toArray, List.set_cons_zero, List.set_cons_succ]
    refine held_take (i := 7) (d := 27) (v := (.pointer (some ⟨g0, o0 + 4, none⟩))) rfl rfl (by kernel_rfl) (by kernel_rfl) (by kernel_rfl) (fun _ _ _ h => h) (by kernel_rfl) (fun w' hS => by go_simp) hHeld ?_
    try simp only [List.setIfInBounds_toArray, List.set_cons_zero, List.set_cons_succ]
    refine held_take (i := 8) (d := 28) (v := (.agg #[.int .i64 y1.kind, .int .u64 (y1.num : Int), .string y1.str, .slice A1 y1.kids.length c1])) rfl rfl (by kernel_rfl) (by kernel_rfl) (by kernel_rfl) (fun _ _ _ h => h) (by kernel_rfl) (fun w' hS => by (obtain ⟨hh, h00, h01, h02, h03, h10, h11, h12, h13, h20, h21, h22, h23, h30, h31, h32, h33, h40, h41, h42, h43⟩ := HSK.out w' hS); go_simp) hHeld ?_
    try simp only [List.setIfInBounds_toArray, List.set_cons_zero, List.set_cons_succ]
    refine held_take (i := 11) (d := 31) (v := (.pointer (some ⟨w.heap.size, 3, none⟩))) rfl rfl (by kernel_rfl) (by kernel_rfl) (by kernel_rfl) (fun _ _ _ h => h) (by kernel_rfl) (fun w' hS => by go_simp) hHeld ?_
    try simp only [List.setIfInBounds_toArray, List.set_cons_zero, List.set_cons_succ]
    refine held_take (i := 12) (d := 32) (v := (.slice (some ⟨g0, o0, none⟩) n c)) rfl rfl (by kernel_rfl) (by kernel_rfl) (by kernel_rfl) (fun _ _ _ h => h) (by kernel_rfl) (fun w' hS => by (obtain ⟨hh, h00, h01, h02, h03, h10, h11, h12, h13, h20, h21, h22, h23, h30, h31, h32, h33, h40, h41, h42, h43⟩ := HSK.out w' hS); go_simp) hHeld ?_
    try simp only [List.setIfInBounds_toArray, List.set_cons_zero, List.set_cons_succ]
    refine held_take (i := 13) (d := 33) (v := (.pointer (some ⟨g0, o0 + 8, none⟩))) rfl rfl (by kernel_rfl) (by kernel_rfl) (by kernel_rfl) (fun _ _ _ h => h) (by kernel_rfl) (fun w' hS => by go_simp) hHeld ?_
    try simp only [List.setIfInBounds_toArray, List.set_cons_zero, List.set_cons_succ]
    refine held_take (i := 14) (d := 34) (v := (.agg #[.int .i64 y2.kind, .int .u64 (y2.num : Int), .string y2.str, .slice A2 y2.kids.length c2])) rfl rfl (by kernel_rfl) (by kernel_rfl) (by kernel_rfl) (fun _ _ _ h => h) (by kernel_rfl) (fun w' hS => by (obtain ⟨hh, h00, h01, h02, h03, h10, h11, h12, h13, h20, h21, h22, h23, h30, h31, h32, h33, h40, h41, h42, h43⟩ := HSK.out w' hS); go_simp) hHeld ?_
    try simp only [List.setIfInBounds_toArray, List.set_cons_zero, List.set_cons_succ]
    refine wpAnyH_ready (rs := [4, 17]) (by kernel_rfl) (by simp) ?_
    refine AllReadyH.cons rfl (fun K hK => ?_) (AllReadyH.cons rfl (fun K hK => ?_) AllReadyH.nil)
    · skip
      go_simp
      go_at_call 73
      refine (HI0.out _).mono ?_
      rintro e v1 ⟨rfl, hb1⟩
      have hnow := HCUR.out.trans (hb1.mono HCUR.out.size)
      replace HCUR := Lib.hid hnow
      clear hb1 hnow
      refine hK.out _ _ (by first | with_reducible exact HCUR.out | exact HCUR.out) (fun hHeld => ?_)
      clear hK K
      refine wpAnyH_ready (rs := [9, 17]) (by kernel_rfl) (by simp) ?_
      refine AllReadyH.cons rfl (fun K hK => ?_) (AllReadyH.cons rfl (fun K hK => ?_) AllReadyH.nil)
      · skip
        go_simp
        go_at_call 73
        refine (HI1.out _).mono ?_
        rintro e v2 ⟨rfl, hb1⟩
        have hnow := HCUR.out.trans (hb1.mono HCUR.out.size)
        replace HCUR := Lib.hid hnow
        clear hb1 hnow
        refine hK.out _ _ (by first | with_reducible exact HCUR.out | exact HCUR.out) (fun hHeld => ?_)
        clear hK K
        refine held_take (i := 10) (d := 30) (v := (.agg #[.int .i64 R0, .int .i64 R1])) rfl rfl (by kernel_rfl) (by kernel_rfl) (by kernel_rfl) (fun _ _ _ h => h) (by kernel_rfl) (fun w' hS => by go_simp) hHeld ?_
        try simp only [List.setIfInBounds_toArray, List.set_cons_zero, List.set_cons_succ]
        refine wpAnyH_ready (rs := [15, 17]) (by kernel_rfl) (by simp) ?_
        refine AllReadyH.cons rfl (fun K hK => ?_) (AllReadyH.cons rfl (fun K hK => ?_) AllReadyH.nil)
        · skip
          go_simp
          go_at_call 73
          refine (HI2.out _).mono ?_
          rintro e v3 ⟨rfl, hb1⟩
          have hnow := HCUR.out.trans (hb1.mono HCUR.out.size)
          replace HCUR := Lib.hid hnow
          clear hb1 hnow
          refine hK.out _ _ (by first | with_reducible exact HCUR.out | exact HCUR.out) (fun hHeld => ?_)
          clear hK K
          refine held_take (i := 16) (d := 36) (v := (.agg #[.int .i64 R0, .int .i64 R1, .int .i64 R2, .int .i64 0, .int .i64 0, .int .i64 0, .int .i64 0, .int .i64 0, .int .i64 0, .int .i64 0, .string ⟨#[]⟩, .string ⟨#[]⟩, .int .i64 0, .slice none 0 0, .int .i64 0, .int .i64 0])) rfl rfl (by kernel_rfl) (by kernel_rfl) (by kernel_rfl) (fun _ _ _ h => h) (by kernel_rfl) (fun w' hS => by go_simp) hHeld ?_
          try simp only [List.setIfInBounds_toArray, List.set_cons_zero, List.set_cons_succ]
          refine wpAnyH_ready (rs := [17]) (by kernel_rfl) (by simp) ?_
          refine AllReadyH.cons rfl (fun K hK => ?_) AllReadyH.nil
          go_simp
          have HKP := Lib.hid (Blk.new v3 32 #[.int .i64 0, .int .i64 0, .int .i64 0, .int .i64 0, .int .i64 0, .int .i64 0, .int .i64 0, .int .i64 0, .int .i64 0, .int .i64 0, .string ⟨#[]⟩, .string ⟨#[]⟩, .int .i64 0, .slice none 0 0, .int .i64 0, .int .i64 0])
          have HPL := Lib.hid HCUR.out.size
          replace HCUR := Lib.hid (HCUR.out.alloc HCUR.out.size (.cells #[.int .i64 0, .int .i64 0, .int .i64 0, .int .i64 0, .int .i64 0, .int .i64 0, .int .i64 0, .int .i64 0, .int .i64 0, .int .i64 0, .string ⟨#[]⟩, .string ⟨#[]⟩, .int .i64 0, .slice none 0 0, .int .i64 0, .int .i64 0] 32))
          refine hK.out _ _ (by first | with_reducible exact HCUR.out | exact HCUR.out) (fun hHeld => ?_)
          clear hK K
          refine wpAnyH_ready (rs := [18]) (by kernel_rfl) (by simp) ?_
          refine AllReadyH.cons rfl (fun K hK => ?_) AllReadyH.nil
          refine step_store_blk rfl 32 (.tmp 4) (.tmp 36) rfl (v3.heap.size) 32 #[.int .i64 0, .int .i64 0, .int .i64 0, .int .i64 0, .int .i64 0, .int .i64 0, .int .i64 0, .int .i64 0, .int .i64 0, .int .i64 0, .string ⟨#[]⟩, .string ⟨#[]⟩, .int .i64 0, .slice none 0 0, .int .i64 0, .int .i64 0] #[.int .i64 R0, .int .i64 R1, .int .i64 R2, .int .i64 0, .int .i64 0, .int .i64 0, .int .i64 0, .int .i64 0, .int .i64 0, .int .i64 0, .string ⟨#[]⟩, .string ⟨#[]⟩, .int .i64 0, .slice none 0 0, .int .i64 0, .int .i64 0] (by rfl) (by rfl) HKP.out (by kernel_rfl) rfl (by kernel_rfl) ?_
          intro w9 hblk2 hgr
          have HBL := Lib.hid hblk2
          have HPL2 := HPL.out
          replace HCUR := Lib.hid (HCUR.out.trans (gr_below hgr HCUR.out.size fun b hb => by injection hb with hb; rw [← hb]; exact HPL2))
          clear hblk2 hgr HPL2
          try simp only [Act.put]
          refine hK.out _ _ (by first | with_reducible exact HCUR.out | exact HCUR.out) (fun hHeld => ?_)
          clear hK K
          refine wpAnyH_done (by kernel_rfl) ?_ _
          go_wp2_with fail
          go_meet
          case rel => exact ⟨_, rfl, HPL.out, HBL.out, HCUR.out⟩
        · skip
          go_simp
          have HKP := Lib.hid (Blk.new v2 32 #[.int .i64 0, .int .i64 0, .int .i64 0, .int .i64 0, .int .i64 0, .int .i64 0, .int .i64 0, .int .i64 0, .int .i64 0, .int .i64 0, .string ⟨#[]⟩, .string ⟨#[]⟩, .int .i64 0, .slice none 0 0, .int .i64 0, .int .i64 0])
          have HPL := Lib.hid HCUR.out.size
          replace HCUR := Lib.hid (HCUR.out.alloc HCUR.out.size (.cells #[.int .i64 0, .int .i64 0, .int .i64 0, .int .i64 0, .int .i64 0, .int .i64 0, .int .i64 0, .int .i64 0, .int .i64 0, .int .i64 0, .string ⟨#[]⟩, .string ⟨#[]⟩, .int .i64 0, .slice none 0 0, .int .i64 0, .int .i64 0] 32))
          refine hK.out _ _ (by first | with_reducible exact HCUR.out | exact HCUR.out) (fun hHeld => ?_)
          clear hK K
          refine wpAnyH_ready (rs := [15]) (by kernel_rfl) (by simp) ?_
          refine AllReadyH.cons rfl (fun K hK => ?_) AllReadyH.nil
          go_simp
          go_at_call 73
          refine (HI2.out _).mono ?_
          rintro e v3 ⟨rfl, hb1⟩
          replace HKP := Lib.hid (HKP.out.bel hb1)
          have hnow := HCUR.out.trans (hb1.mono HCUR.out.size)
          replace HCUR := Lib.hid hnow
          clear hb1 hnow
          refine hK.out _ _ (by first | with_reducible exact HCUR.out | exact HCUR.out) (fun hHeld => ?_)
          clear hK K
          refine held_take (i := 16) (d := 36) (v := (.agg #[.int .i64 R0, .int .i64 R1, .int .i64 R2, .int .i64 0, .int .i64 0, .int .i64 0, .int .i64 0, .int .i64 0, .int .i64 0, .int .i64 0, .string ⟨#[]⟩, .string ⟨#[]⟩, .int .i64 0, .slice none 0 0, .int .i64 0, .int .i64 0])) rfl rfl (by kernel_rfl) (by kernel_rfl) (by kernel_rfl) (fun _ _ _ h => h) (by kernel_rfl) (fun w' hS => by go_simp) hHeld ?_
          try simp only [List.setIfInBounds_toArray, List.set_cons_zero, List.set_cons_succ]
          refine wpAnyH_ready (rs := [18]) (by kernel_rfl) (by simp) ?_
          refine AllReadyH.cons rfl (fun K hK => ?_) AllReadyH.nil
          refine step_store_blk rfl 32 (.tmp 4) (.tmp 36) rfl (v2.heap.size) 32 #[.int .i64 0, .int .i64 0, .int .i64 0, .int .i64 0, .int .i64 0, .int .i64 0, .int .i64 0, .int .i64 0, .int .i64 0, .int .i64 0, .string ⟨#[]⟩, .string ⟨#[]⟩, .int .i64 0, .slice none 0 0, .int .i64 0, .int .i64 0] #[.int .i64 R0, .int .i64 R1, .int .i64 R2, .int .i64 0, .int .i64 0, .int .i64 0, .int .i64 0, .int .i64 0, .int .i64 0, .int .i64 0, .string ⟨#[]⟩, .string ⟨#[]⟩, .int .i64 0, .slice none 0 0, .int .i64 0, .int .i64 0] (by rfl) (by rfl) HKP.out (by kernel_rfl) rfl (by kernel_rfl) ?_
          intro w9 hblk2 hgr
          have HBL := Lib.hid hblk2
          have HPL2 := HPL.out
          replace HCUR := Lib.hid (HCUR.out.trans (gr_below hgr HCUR.out.size fun b hb => by injection hb with hb; rw [← hb]; exact HPL2))
          clear hblk2 hgr HPL2
          try simp only [Act.put]
          refine hK.out _ _ (by first | with_reducible exact HCUR.out | exact HCUR.out) (fun hHeld => ?_)
          clear hK K
          refine wpAnyH_done (by kernel_rfl) ?_ _
          go_wp2_with fail
          go_meet
          case rel => exact ⟨_, rfl, HPL.out, HBL.out, HCUR.out⟩
      · skip
        go_simp
        have HKP := Lib.hid (Blk.new v1 32 #[.int .i64 0, .int .i64 0, .int .i64 0, .int .i64 0, .int .i64 0, .int .i64 0, .int .i64 0, .int .i64 0, .int .i64 0, .int .i64 0, .string ⟨#[]⟩, .string ⟨#[]⟩, .int .i64 0, .slice none 0 0, .int .i64 0, .int .i64 0])
        have HPL := Lib.hid HCUR.out.size
        replace HCUR := Lib.hid (HCUR.out.alloc HCUR.out.size (.cells #[.int .i64 0, .int .i64 0, .int .i64 0, .int .i64 0, .int .i64 0, .int .i64 0, .int .i64 0, .int .i64 0, .int .i64 0, .int .i64 0, .string ⟨#[]⟩, .string ⟨#[]⟩, .int .i64 0, .slice none 0 0, .int .i64 0, .int .i64 0] 32))
        refine hK.out _ _ (by first | with_reducible exact HCUR.out | exact HCUR.out) (fun hHeld => ?_)
        clear hK K
        refine wpAnyH_ready (rs := [9]) (by kernel_rfl) (by simp) ?_
        refine AllReadyH.cons rfl (fun K hK => ?_) AllReadyH.nil
        go_simp
        go_at_call 73
        refine (HI1.out _).mono ?_
        rintro e v2 ⟨rfl, hb1⟩
        replace HKP := Lib.hid (HKP.out.bel hb1)
        have hnow := HCUR.out.trans (hb1.mono HCUR.out.size)
        replace HCUR := Lib.hid hnow
        clear hb1 hnow
        refine hK.out _ _ (by first | with_reducible exact HCUR.out | exact HCUR.out) (fun hHeld => ?_)
        clear hK K
        refine held_take (i := 10) (d := 30) (v := (.agg #[.int .i64 R0, .int .i64 R1])) rfl rfl (by kernel_rfl) (by kernel_rfl) (by kernel_rfl) (fun _ _ _ h => h) (by kernel_rfl) (fun w' hS => by go_simp) hHeld ?_
        try simp only [List.setIfInBounds_toArray, List.set_cons_zero, List.set_cons_succ]
        refine wpAnyH_ready (rs := [15]) (by kernel_rfl) (by simp) ?_
        refine AllReadyH.cons rfl (fun K hK => ?_) AllReadyH.nil
        go_simp
        go_at_call 73
        refine (HI2.out _).mono ?_
        rintro e v3 ⟨rfl, hb1⟩
        replace HKP := Lib.hid (HKP.out.bel hb1)
        have hnow := HCUR.out.trans (hb1.mono HCUR.out.size)
        replace HCUR := Lib.hid hnow
        clear hb1 hnow
        refine hK.out _ _ (by first | with_reducible exact HCUR.out | exact HCUR.out) (fun hHeld => ?_)
        clear hK K
        refine held_take (i := 16) (d := 36) (v := (.agg #[.int .i64 R0, .int .i64 R1, .int .i64 R2, .int .i64 0, .int .i64 0, .int .i64 0, .int .i64 0, .int .i64 0, .int .i64 0, .int .i64 0, .string ⟨#[]⟩, .string ⟨#[]⟩, .int .i64 0, .slice none 0 0, .int .i64 0, .int .i64 0])) rfl rfl (by kernel_rfl) (by kernel_rfl) (by kernel_rfl) (fun _ _ _ h => h) (by kernel_rfl) (fun w' hS => by go_simp) hHeld ?_
        try simp only [List.setIfInBounds_toArray, List.set_cons_zero, List.set_cons_succ]
        refine wpAnyH_ready (rs := [18]) (by kernel_rfl) (by simp) ?_
        refine AllReadyH.cons rfl (fun K hK => ?_) AllReadyH.nil
        refine step_store_blk rfl 32 (.tmp 4) (.tmp 36) rfl (v1.heap.size) 32 #[.int .i64 0, .int .i64 0, .int .i64 0, .int .i64 0, .int .i64 0, .int .i64 0, .int .i64 0, .int .i64 0, .int .i64 0, .int .i64 0, .string ⟨#[]⟩, .string ⟨#[]⟩, .int .i64 0, .slice none 0 0, .int .i64 0, .int .i64 0] #[.int .i64 R0, .int .i64 R1, .int .i64 R2, .int .i64 0, .int .i64 0, .int .i64 0, .int .i64 0, .int .i64 0, .int .i64 0, .int .i64 0, .string ⟨#[]⟩, .string ⟨#[]⟩, .int .i64 0, .slice none 0 0, .int .i64 0, .int .i64 0] (by rfl) (by rfl) HKP.out (by kernel_rfl) rfl (by kernel_rfl) ?_
        intro w9 hblk2 hgr
        have HBL := Lib.hid hblk2
        have HPL2 := HPL.out
        replace HCUR := Lib.hid (HCUR.out.trans (gr_below hgr HCUR.out.size fun b hb => by injection hb with hb; rw [← hb]; exact HPL2))
        clear hblk2 hgr HPL2
        try simp only [Act.put]
        refine hK.out _ _ (by first | with_reducible exact HCUR.out | exact HCUR.out) (fun hHeld => ?_)
        clear hK K
        refine wpAnyH_done (by kernel_rfl) ?_ _
        go_wp2_with fail
        go_meet
        case rel => exact ⟨_, rfl, HPL.out, HBL.out, HCUR.out⟩
    · skip
      go_simp
      have HKP := Lib.hid (Blk.new Wx.drew 32 #[.int .i64 0, .int .i64 0, .int .i64 0, .int .i64 0, .int .i64 0, .int .i64 0, .int .i64 0, .int .i64 0, .int .i64 0, .int .i64 0, .string ⟨#[]⟩, .string ⟨#[]⟩, .int .i64 0, .slice none 0 0, .int .i64 0, .int .i64 0])
      have HPL := Lib.hid HCUR.out.size
      replace HCUR := Lib.hid (HCUR.out.alloc HCUR.out.size (.cells #[.int .i64 0, .int .i64 0, .int .i64 0, .int .i64 0, .int .i64 0, .int .i64 0, .int .i64 0, .int .i64 0, .int .i64 0, .int .i64 0, .string ⟨#[]⟩, .string ⟨#[]⟩, .int .i64 0, .slice none 0 0, .int .i64 0, .int .i64 0] 32))
      refine hK.out _ _ (by first | with_reducible exact HCUR.out | exact HCUR.out) (fun hHeld => ?_)
      clear hK K
      refine wpAnyH_ready (rs := [4]) (by kernel_rfl) (by simp) ?_
      refine AllReadyH.cons rfl (fun K hK => ?_) AllReadyH.nil
      go_simp
      go_at_call 73
      refine (HI0.out _).mono ?_
      rintro e v1 ⟨rfl, hb1⟩
      replace HKP := Lib.hid (HKP.out.bel hb1)
      have hnow := HCUR.out.trans (hb1.mono HCUR.out.size)
      replace HCUR := Lib.hid hnow
      clear hb1 hnow
      refine hK.out _ _ (by first | with_reducible exact HCUR.out | exact HCUR.out) (fun hHeld => ?_)
      clear hK K
      refine wpAnyH_ready (rs := [9]) (by kernel_rfl) (by simp) ?_
      refine AllReadyH.cons rfl (fun K hK => ?_) AllReadyH.nil
      go_simp
      go_at_call 73
      refine (HI1.out _).mono ?_
      rintro e v2 ⟨rfl, hb1⟩
      replace HKP := Lib.hid (HKP.out.bel hb1)
      have hnow := HCUR.out.trans (hb1.mono HCUR.out.size)
      replace HCUR := Lib.hid hnow
      clear hb1 hnow
      refine hK.out _ _ (by first | with_reducible exact HCUR.out | exact HCUR.out) (fun hHeld => ?_)
      clear hK K
      refine held_take (i := 10) (d := 30) (v := (.agg #[.int .i64 R0, .int .i64 R1])) rfl rfl (by kernel_rfl) (by kernel_rfl) (by kernel_rfl) (fun _ _ _ h => h) (by kernel_rfl) (fun w' hS => by go_simp) hHeld ?_
      try simp only [List.setIfInBounds_toArray, List.set_cons_zero, List.set_cons_succ]
      refine wpAnyH_ready (rs := [15]) (by kernel_rfl) (by simp) ?_
      refine AllReadyH.cons rfl (fun K hK => ?_) AllReadyH.nil
      go_simp
      go_at_call 73
      refine (HI2.out _).mono ?_
      rintro e v3 ⟨rfl, hb1⟩
      replace HKP := Lib.hid (HKP.out.bel hb1)
      have hnow := HCUR.out.trans (hb1.mono HCUR.out.size)
      replace HCUR := Lib.hid hnow
      clear hb1 hnow
      refine hK.out _ _ (by first | with_reducible exact HCUR.out | exact HCUR.out) (fun hHeld => ?_)
      clear hK K
      refine held_take (i := 16) (d := 36) (v := (.agg #[.int .i64 R0, .int .i64 R1, .int .i64 R2, .int .i64 0, .int .i64 0, .int .i64 0, .int .i64 0, .int .i64 0, .int .i64 0, .int .i64 0, .string ⟨#[]⟩, .string ⟨#[]⟩, .int .i64 0, .slice none 0 0, .int .i64 0, .int .i64 0])) rfl rfl (by kernel_rfl) (by kernel_rfl) (by kernel_rfl) (fun _ _ _ h => h) (by kernel_rfl) (fun w' hS => by go_simp) hHeld ?_
      try simp only [List.setIfInBounds_toArray, List.set_cons_zero, List.set_cons_succ]
      refine wpAnyH_ready (rs := [18]) (by kernel_rfl) (by simp) ?_
      refine AllReadyH.cons rfl (fun K hK => ?_) AllReadyH.nil
      refine step_store_blk rfl 32 (.tmp 4) (.tmp 36) rfl (Wx.heap.size) 32 #[.int .i64 0, .int .i64 0, .int .i64 0, .int .i64 0, .int .i64 0, .int .i64 0, .int .i64 0, .int .i64 0, .int .i64 0, .int .i64 0, .string ⟨#[]⟩, .string ⟨#[]⟩, .int .i64 0, .slice none 0 0, .int .i64 0, .int .i64 0] #[.int .i64 R0, .int .i64 R1, .int .i64 R2, .int .i64 0, .int .i64 0, .int .i64 0, .int .i64 0, .int .i64 0, .int .i64 0, .int .i64 0, .string ⟨#[]⟩, .string ⟨#[]⟩, .int .i64 0, .slice none 0 0, .int .i64 0, .int .i64 0] (by rfl) (by rfl) HKP.out (by kernel_rfl) rfl (by kernel_rfl) ?_
      intro w9 hblk2 hgr
      have HBL := Lib.hid hblk2
      have HPL2 := HPL.out
      replace HCUR := Lib.hid (HCUR.out.trans (gr_below hgr HCUR.out.size fun b hb => by injection hb with hb; rw [← hb]; exact HPL2))
      clear hblk2 hgr HPL2
      try simp only [Act.put]
      refine hK.out _ _ (by first | with_reducible exact HCUR.out | exact HCUR.out) (fun hHeld => ?_)
      clear hK K
      refine wpAnyH_done (by kernel_rfl) ?_ _
      go_wp2_with fail
      go_meet
      case rel => exact ⟨_, rfl, HPL.out, HBL.out, HCUR.out⟩
  case rest =>
  obtain ⟨p, rfl, hpW, hc4, hbe⟩ := hcut
  generalize wc = W3 at hc4 hbe ⊢
  replace HCUR := Lib.hid hbe
  have HK4 := Lib.hid hc4
  clear hc4 hbe HI0 HI1 HI2
  obtain ⟨hh, h00, h01, h02, h03, h10, h11, h12, h13, h20, h21, h22, h23, h30, h31, h32, h33, h40, h41, h42, h43⟩ := HSK.out W3 HCUR.out
  go_wp2_with fail
  refine (HT3.out _ HCUR.out).mono ?_
  rintro e v4 ⟨rfl, hb1⟩
  have hk4 := (HK4.out.bel hb1).alloc (.cells #[.int .i64 b1, .int .i64 b2] 25)
  have hn4 := Blk.new v4 25 #[.int .i64 b1, .int .i64 b2]
  have hb4 := bel_alloc (bel_trans HCUR.out hb1) (.cells #[.int .i64 b1, .int .i64 b2] 25)
  have HP4 := Lib.hid (show p < v4.heap.size from Nat.lt_of_lt_of_le HK4.out.lt hb1.size)
  have HQ4 := Lib.hid (show W.heap.size ≤ v4.heap.size from Nat.le_trans HCUR.out.size hb1.size)
  obtain ⟨W4, hW4⟩ : ∃ v, v4.alloc (.cells #[.int .i64 b1, .int .i64 b2] 25) = v := ⟨_, rfl⟩
  rw [hW4] at hk4 hn4 hb4
  have HW4 := Lib.hid hW4
  replace HK4 := Lib.hid hk4
  have HN4 := Lib.hid hn4
  replace HCUR := Lib.hid hb4
  clear hk4 hn4 hb4 hW4 hb1 HT3 hh h00 h01 h02 h03 h10 h11 h12 h13 h20 h21 h22 h23 h30 h31 h32 h33 h40 h41 h42 h43
  go_upto_region 5 with fail
  rw [HW4.out]
  obtain ⟨hh, h00, h01, h02, h03, h10, h11, h12, h13, h20, h21, h22, h23, h30, h31, h32, h33, h40, h41, h42, h43⟩ := HSK.out W4 HCUR.out
  go_wp2_with fail
  refine (HT4.out _ HCUR.out).mono ?_
  rintro e v5 ⟨rfl, hb1⟩
  have hk4 := (HK4.out.bel hb1).alloc (.cells #[.int .i64 t1, .int .i64 t2] 25)
  have hn4 := (HN4.out.bel hb1).alloc (.cells #[.int .i64 t1, .int .i64 t2] 25)
  have hn5 := Blk.new v5 25 #[.int .i64 t1, .int .i64 t2]
  have hb5 := bel_alloc (bel_trans HCUR.out hb1) (.cells #[.int .i64 t1, .int .i64 t2] 25)
  have HP5 := Lib.hid (show p < v5.heap.size from Nat.lt_of_lt_of_le HK4.out.lt hb1.size)
  obtain ⟨W5, hW5⟩ : ∃ v, v5.alloc (.cells #[.int .i64 t1, .int .i64 t2] 25) = v := ⟨_, rfl⟩
  rw [hW5] at hk4 hn4 hn5 hb5
  have HW5 := Lib.hid hW5
  replace HK4 := Lib.hid hk4
  replace HN4 := Lib.hid hn4
  have HN5 := Lib.hid hn5
  replace HCUR := Lib.hid hb5
  clear hk4 hn4 hn5 hb5 hW5 hb1 HT4 hh h00 h01 h02 h03 h10 h11 h12 h13 h20 h21 h22 h23 h30 h31 h32 h33 h40 h41 h42 h43
  go_upto_region 6 with fail
  rw [HW5.out]
  obtain ⟨i0, i1⟩ := Bal.blk2 HN4.out
  have z3 := HK4.out.soft 3
  have z4 := HK4.out.soft 4
  have u3 := HK4.out.cell 3
  have u4 := HK4.out.cell 4
  simp at u3 u4
  go_upto_region 7 with fail
  have hk6 : Blk ((W5.setCell ⟨p, 3, none⟩ (.int .i64 b1)).setCell ⟨p, 4, none⟩ (.int .i64 b2)) p 32 #[.int .i64 R0, .int .i64 R1, .int .i64 R2, .int .i64 b1, .int .i64 b2, .int .i64 0, .int .i64 0, .int .i64 0, .int .i64 0, .int .i64 0, .string ⟨#[]⟩, .string ⟨#[]⟩, .int .i64 0, .slice none 0 0, .int .i64 0, .int .i64 0] := by simpa using (HK4.out.put 3 (.int .i64 b1)).put 4 (.int .i64 b2)
  have hn6 := (HN5.out.far (p := ⟨p, 3, none⟩) (show v5.heap.size ≠ p by have := HP5.out; omega) (.int .i64 b1)).far (p := ⟨p, 4, none⟩) (show v5.heap.size ≠ p by have := HP5.out; omega) (.int .i64 b2)
  have hb6 := (HCUR.out.setCell (p := ⟨p, 3, none⟩) hpW (.int .i64 b1)).setCell (p := ⟨p, 4, none⟩) hpW (.int .i64 b2)
  generalize (W5.setCell ⟨p, 3, none⟩ (.int .i64 b1)).setCell ⟨p, 4, none⟩ (.int .i64 b2) = W6 at hk6 hn6 hb6 ⊢
  clear i0 i1 z3 z4 u3 u4
  obtain ⟨i0, i1⟩ := Bal.blk2 hn6
  have z5 := hk6.soft 5
  have z6 := hk6.soft 6
  have u5 := hk6.cell 5
  have u6 := hk6.cell 6
  simp at u5 u6
  go_upto_region 8 with fail
  have hk7 : Blk ((W6.setCell ⟨p, 5, none⟩ (.int .i64 t1)).setCell ⟨p, 6, none⟩ (.int .i64 t2)) p 32 #[.int .i64 R0, .int .i64 R1, .int .i64 R2, .int .i64 b1, .int .i64 b2, .int .i64 t1, .int .i64 t2, .int .i64 0, .int .i64 0, .int .i64 0, .string ⟨#[]⟩, .string ⟨#[]⟩, .int .i64 0, .slice none 0 0, .int .i64 0, .int .i64 0] := by simpa using (hk6.put 5 (.int .i64 t1)).put 6 (.int .i64 t2)
  have hb7 := (hb6.setCell (p := ⟨p, 5, none⟩) hpW (.int .i64 t1)).setCell (p := ⟨p, 6, none⟩) hpW (.int .i64 t2)
  generalize (W6.setCell ⟨p, 5, none⟩ (.int .i64 t1)).setCell ⟨p, 6, none⟩ (.int .i64 t2) = W7 at hk7 hb7 ⊢
  have HK7 := Lib.hid hk7
  replace HCUR := Lib.hid (Below.drew hb7)
  have HXX := Lib.hid (HBX.out.bel hb7)
  have HB7 := Lib.hid hb7
  clear hk6 hn6 hb6 hk7 hb7 i0 i1 z5 z6 u5 u6 HK4 HN4 HN5
  cases m3 with
  | false =>
    refine wp_region_held_drew (S := (fun w' => Blk w' p 32 #[.int .i64 R0, .int .i64 R1, .int .i64 R2, .int .i64 b1, .int .i64 b2, .int .i64 t1, .int .i64 t2, .int .i64 0, .int .i64 0, .int .i64 0, .string ⟨#[]⟩, .string ⟨#[]⟩, .int .i64 0, .slice none 0 0, .int .i64 0, .int .i64 0] ∧ Below (w.heap.size + 1) W w')) (by kernel_rfl) (by first | (exact ⟨HK7.out.drew.grown HGR.out (fun e => by injection e with e; have := HSW.out; omega), (HCUR.out.mono (by have := HSW.out; omega)).trans (gr_below HGR.out (by have := HSW.out; have := HB7.out.size; show w.heap.size + 1 ≤ W7.heap.size; omega) fun b hb => by injection hb with hb; omega)⟩) | (with_reducible exact ⟨HK7.out.drew, HCUR.out.mono (by have := HSW.out; omega)⟩)) (fun hHeld => ?_)
    refine held_take (i := 0) (d := 57) (v := (.agg #[.int .i64 R0, .int .i64 R1, .int .i64 R2, .int .i64 b1, .int .i64 b2, .int .i64 t1, .int .i64 t2, .int .i64 0, .int .i64 0, .int .i64 0, .string ⟨#[]⟩, .string ⟨#[]⟩, .int .i64 0, .slice none 0 0, .int .i64 0, .int .i64 0])) rfl rfl (by kernel_rfl) (by kernel_rfl) (by kernel_rfl) (fun _ _ _ h => h) (by kernel_rfl) (run_load_blk 32 (.tmp 4) rfl p 32 #[.int .i64 R0, .int .i64 R1, .int .i64 R2, .int .i64 b1, .int .i64 b2, .int .i64 t1, .int .i64 t2, .int .i64 0, .int .i64 0, .int .i64 0, .string ⟨#[]⟩, .string ⟨#[]⟩, .int .i64 0, .slice none 0 0, .int .i64 0, .int .i64 0] _ rfl (fun _ h => h.1) Tryz.underlying32 rfl (by kernel_rfl)) hHeld ?_
    try simp only [List.setIfInBounds_toArray, List.set_cons_zero, List.set_cons_succ]
    refine held_take (i := 1) (d := 58) (v := (.bool false)) rfl rfl (by kernel_rfl) (by kernel_rfl) (by kernel_rfl) (fun _ _ _ h => h) (by kernel_rfl) (fun w hSw => by (obtain hS := hSw); go_simp) hHeld ?_
    try simp only [List.setIfInBounds_toArray, List.set_cons_zero, List.set_cons_succ]
    refine held_take (i := 2) (d := 59) (v := (.bool false)) rfl rfl (by kernel_rfl) (by kernel_rfl) (by kernel_rfl) (fun _ _ _ h => h) (by kernel_rfl) (fun w hSw => by (obtain hS := hSw); go_simp) hHeld ?_
    try simp only [List.setIfInBounds_toArray, List.set_cons_zero, List.set_cons_succ]
    refine held_skip (i := 3) (d := 60) rfl rfl (by kernel_rfl) (by kernel_rfl) (by kernel_rfl) (fun _ _ _ h => h) (by kernel_rfl) hHeld ?_
    try simp only [List.setIfInBounds_toArray, List.set_cons_zero, List.set_cons_succ]
    refine held_take (i := 4) (d := 61) (v := (.bool false)) rfl rfl (by kernel_rfl) (by kernel_rfl) (by kernel_rfl) (fun _ _ _ h => h) (by kernel_rfl) (fun w hSw => by (obtain hS := hSw); go_simp) hHeld ?_
    try simp only [List.setIfInBounds_toArray, List.set_cons_zero, List.set_cons_succ]
    refine held_take (i := 5) (d := 62) (v := (.bool false)) rfl rfl (by kernel_rfl) (by kernel_rfl) (by kernel_rfl) (fun _ _ _ h => h) (by kernel_rfl) (fun w hSw => by (obtain hS := hSw); go_simp) hHeld ?_
    try simp only [List.setIfInBounds_toArray, List.set_cons_zero, List.set_cons_succ]
    refine held_skip (i := 6) (d := 63) rfl rfl (by kernel_rfl) (by kernel_rfl) (by kernel_rfl) (fun _ _ _ h => h) (by kernel_rfl) hHeld ?_
    try simp only [List.setIfInBounds_toArray, List.set_cons_zero, List.set_cons_succ]
    refine held_skip (i := 7) (d := 64) rfl rfl (by kernel_rfl) (by kernel_rfl) (by kernel_rfl) (fun _ _ _ h => h) (by kernel_rfl) hHeld ?_
    try simp only [List.setIfInBounds_toArray, List.set_cons_zero, List.set_cons_succ]
    refine held_skip (i := 8) (d := 65) rfl rfl (by kernel_rfl) (by kernel_rfl) (by kernel_rfl) (fun _ _ _ h => h) (by kernel_rfl) hHeld ?_
    try simp only [List.setIfInBounds_toArray, List.set_cons_zero, List.set_cons_succ]
    refine held_skip (i := 9) (d := 66) rfl rfl (by kernel_rfl) (by kernel_rfl) (by kernel_rfl) (fun _ _ _ h => h) (by kernel_rfl) hHeld ?_
    try simp only [List.setIfInBounds_toArray, List.set_cons_zero, List.set_cons_succ]
    refine held_skip (i := 10) (d := 67) rfl rfl (by kernel_rfl) (by kernel_rfl) (by kernel_rfl) (fun _ _ _ h => h) (by kernel_rfl) hHeld ?_
    try simp only [List.setIfInBounds_toArray, List.set_cons_zero, List.set_cons_succ]
    refine held_skip (i := 11) (d := 68) rfl rfl (by kernel_rfl) (by kernel_rfl) (by kernel_rfl) (fun _ _ _ h => h) (by kernel_rfl) hHeld ?_
    try simp only [List.setIfInBounds_toArray, List.set_cons_zero, List.set_cons_succ]
    refine held_skip (i := 12) (d := 69) rfl rfl (by kernel_rfl) (by kernel_rfl) (by kernel_rfl) (fun _ _ _ h => h) (by kernel_rfl) hHeld ?_
    try simp only [List.setIfInBounds_toArray, List.set_cons_zero, List.set_cons_succ]
    refine held_skip (i := 13) (d := 70) rfl rfl (by kernel_rfl) (by kernel_rfl) (by kernel_rfl) (fun _ _ _ h => h) (by kernel_rfl) hHeld ?_
    try simp only [List.setIfInBounds_toArray, List.set_cons_zero, List.set_cons_succ]
    refine held_take (i := 14) (d := 71) (v := (.bool false)) rfl rfl (by kernel_rfl) (by kernel_rfl) (by kernel_rfl) (fun _ _ _ h => h) (by kernel_rfl) (fun w hSw => by (obtain hS := hSw); go_simp) hHeld ?_
    try simp only [List.setIfInBounds_toArray, List.set_cons_zero, List.set_cons_succ]
    refine wpAnyH_ready (rs := [15]) (by kernel_rfl) (by simp) ?_
    refine AllReadyH.cons rfl (fun K hK => ?_) AllReadyH.nil
    refine step_store_blk rfl 32 (.tmp 2) (.tmp 57) rfl (w.heap.size + 1) 32 #[.int .i64 0, .int .i64 0, .int .i64 0, .int .i64 0, .int .i64 0, .int .i64 0, .int .i64 0, .int .i64 0, .int .i64 0, .int .i64 0, .string ⟨#[]⟩, .string ⟨#[]⟩, .int .i64 0, .slice none 0 0, .int .i64 0, .int .i64 0] #[.int .i64 R0, .int .i64 R1, .int .i64 R2, .int .i64 b1, .int .i64 b2, .int .i64 t1, .int .i64 t2, .int .i64 0, .int .i64 0, .int .i64 0, .string ⟨#[]⟩, .string ⟨#[]⟩, .int .i64 0, .slice none 0 0, .int .i64 0, .int .i64 0] (by rfl) (by rfl) HXX.out.drew (by kernel_rfl) rfl (by kernel_rfl) ?_
    intro w9 hblk2 hgr
    have HBL := Lib.hid hblk2
    have HGR := Lib.hid hgr
    clear hblk2 hgr
    try simp only [Act.put]
    refine hK.out _ _ (by first | (exact ⟨HK7.out.drew.grown HGR.out (fun e => by injection e with e; have := HSW.out; omega), (HCUR.out.mono (by have := HSW.out; omega)).trans (gr_below HGR.out (by have := HSW.out; have := HB7.out.size; show w.heap.size + 1 ≤ W7.heap.size; omega) fun b hb => by injection hb with hb; omega)⟩) | (with_reducible exact ⟨HK7.out.drew, HCUR.out.mono (by have := HSW.out; omega)⟩)) (fun hHeld => ?_)
    clear hK K
    refine held_take (i := 16) (d := 3) (v := (.bool false)) rfl rfl (by kernel_rfl) (by kernel_rfl) (by kernel_rfl) (fun _ _ _ h => h) (by kernel_rfl) (fun w hSw => by (obtain hS := hSw); go_simp) hHeld ?_
    try simp only [List.setIfInBounds_toArray]
    refine wpAnyH_done (by kernel_rfl) ?_ _
    go_wp2_with fail
    refine bodyPost_ret (v := .tuple #[.agg #[.int .i64 R0, .int .i64 R1, .int .i64 R2, .int .i64 b1, .int .i64 b2, .int .i64 t1, .int .i64 t2, .int .i64 0, .int .i64 0, .int .i64 0, .string ⟨#[]⟩, .string ⟨#[]⟩, .int .i64 0, .slice none 0 0, .int .i64 0, .int .i64 0], .bool false]) (results_blk_tmp Tryz.results38 _ _ (w.heap.size + 1) 32 _ _ _ rfl rfl HBL.out Tryz.underlying32 rfl (by kernel_rfl)) rfl ?_
    exact ⟨by simp, (HB0.out.trans (HB7.out.mono HB0.out.size)).drew.trans (gr_below HGR.out (by have := HB0.out.size; have := HB7.out.size; show w.heap.size ≤ W7.heap.size; omega) fun b hb => by injection hb with hb; omega)⟩
  | true =>
    cases m4 with
    | false =>
      refine wp_region_held_drew (S := (fun w' => Blk w' p 32 #[.int .i64 R0, .int .i64 R1, .int .i64 R2, .int .i64 b1, .int .i64 b2, .int .i64 t1, .int .i64 t2, .int .i64 0, .int .i64 0, .int .i64 0, .string ⟨#[]⟩, .string ⟨#[]⟩, .int .i64 0, .slice none 0 0, .int .i64 0, .int .i64 0] ∧ Below (w.heap.size + 1) W w')) (by kernel_rfl) (by first | (exact ⟨HK7.out.drew.grown HGR.out (fun e => by injection e with e; have := HSW.out; omega), (HCUR.out.mono (by have := HSW.out; omega)).trans (gr_below HGR.out (by have := HSW.out; have := HB7.out.size; show w.heap.size + 1 ≤ W7.heap.size; omega) fun b hb => by injection hb with hb; omega)⟩) | (with_reducible exact ⟨HK7.out.drew, HCUR.out.mono (by have := HSW.out; omega)⟩)) (fun hHeld => ?_)
      refine held_take (i := 0) (d := 57) (v := (.agg #[.int .i64 R0, .int .i64 R1, .int .i64 R2, .int .i64 b1, .int .i64 b2, .int .i64 t1, .int .i64 t2, .int .i64 0, .int .i64 0, .int .i64 0, .string ⟨#[]⟩, .string ⟨#[]⟩, .int .i64 0, .slice none 0 0, .int .i64 0, .int .i64 0])) rfl rfl (by kernel_rfl) (by kernel_rfl) (by kernel_rfl) (fun _ _ _ h => h) (by kernel_rfl) (run_load_blk 32 (.tmp 4) rfl p 32 #[.int .i64 R0, .int .i64 R1, .int .i64 R2, .int .i64 b1, .int .i64 b2, .int .i64 t1, .int .i64 t2, .int .i64 0, .int .i64 0, .int .i64 0, .string ⟨#[]⟩, .string ⟨#[]⟩, .int .i64 0, .slice none 0 0, .int .i64 0, .int .i64 0] _ rfl (fun _ h => h.1) Tryz.underlying32 rfl (by kernel_rfl)) hHeld ?_
      try simp only [List.setIfInBounds_toArray, List.set_cons_zero, List.set_cons_succ]
      refine held_take (i := 1) (d := 58) (v := (.bool true)) rfl rfl (by kernel_rfl) (by kernel_rfl) (by kernel_rfl) (fun _ _ _ h => h) (by kernel_rfl) (fun w hSw => by (obtain hS := hSw); go_simp) hHeld ?_
      try simp only [List.setIfInBounds_toArray, List.set_cons_zero, List.set_cons_succ]
      refine held_take (i := 2) (d := 59) (v := (.bool true)) rfl rfl (by kernel_rfl) (by kernel_rfl) (by kernel_rfl) (fun _ _ _ h => h) (by kernel_rfl) (fun w hSw => by (obtain hS := hSw); go_simp) hHeld ?_
      try simp only [List.setIfInBounds_toArray, List.set_cons_zero, List.set_cons_succ]
      refine held_take (i := 3) (d := 60) (v := (.bool false)) rfl rfl (by kernel_rfl) (by kernel_rfl) (by kernel_rfl) (fun _ _ _ h => h) (by kernel_rfl) (fun w hSw => by (obtain hS := hSw); go_simp) hHeld ?_
      try simp only [List.setIfInBounds_toArray, List.set_cons_zero, List.set_cons_succ]
      refine held_take (i := 4) (d := 61) (v := (.bool false)) rfl rfl (by kernel_rfl) (by kernel_rfl) (by kernel_rfl) (fun _ _ _ h => h) (by kernel_rfl) (fun w hSw => by (obtain hS := hSw); go_simp) hHeld ?_
      try simp only [List.setIfInBounds_toArray, List.set_cons_zero, List.set_cons_succ]
      refine held_take (i := 5) (d := 62) (v := (.bool false)) rfl rfl (by kernel_rfl) (by kernel_rfl) (by kernel_rfl) (fun _ _ _ h => h) (by kernel_rfl) (fun w hSw => by (obtain hS := hSw); go_simp) hHeld ?_
      try simp only [List.setIfInBounds_toArray, List.set_cons_zero, List.set_cons_succ]
      refine held_skip (i := 6) (d := 63) rfl rfl (by kernel_rfl) (by kernel_rfl) (by kernel_rfl) (fun _ _ _ h => h) (by kernel_rfl) hHeld ?_
      try simp only [List.setIfInBounds_toArray, List.set_cons_zero, List.set_cons_succ]
      refine held_skip (i := 7) (d := 64) rfl rfl (by kernel_rfl) (by kernel_rfl) (by kernel_rfl) (fun _ _ _ h => h) (by kernel_rfl) hHeld ?_
      try simp only [List.setIfInBounds_toArray, List.set_cons_zero, List.set_cons_succ]
      refine held_skip (i := 8) (d := 65) rfl rfl (by kernel_rfl) (by kernel_rfl) (by kernel_rfl) (fun _ _ _ h => h) (by kernel_rfl) hHeld ?_
      try simp only [List.setIfInBounds_toArray, List.set_cons_zero, List.set_cons_succ]
      refine held_skip (i := 9) (d := 66) rfl rfl (by kernel_rfl) (by kernel_rfl) (by kernel_rfl) (fun _ _ _ h => h) (by kernel_rfl) hHeld ?_
      try simp only [List.setIfInBounds_toArray, List.set_cons_zero, List.set_cons_succ]
      refine held_skip (i := 10) (d := 67) rfl rfl (by kernel_rfl) (by kernel_rfl) (by kernel_rfl) (fun _ _ _ h => h) (by kernel_rfl) hHeld ?_
      try simp only [List.setIfInBounds_toArray, List.set_cons_zero, List.set_cons_succ]
      refine held_skip (i := 11) (d := 68) rfl rfl (by kernel_rfl) (by kernel_rfl) (by kernel_rfl) (fun _ _ _ h => h) (by kernel_rfl) hHeld ?_
      try simp only [List.setIfInBounds_toArray, List.set_cons_zero, List.set_cons_succ]
      refine held_skip (i := 12) (d := 69) rfl rfl (by kernel_rfl) (by kernel_rfl) (by kernel_rfl) (fun _ _ _ h => h) (by kernel_rfl) hHeld ?_
      try simp only [List.setIfInBounds_toArray, List.set_cons_zero, List.set_cons_succ]
      refine held_skip (i := 13) (d := 70) rfl rfl (by kernel_rfl) (by kernel_rfl) (by kernel_rfl) (fun _ _ _ h => h) (by kernel_rfl) hHeld ?_
      try simp only [List.setIfInBounds_toArray, List.set_cons_zero, List.set_cons_succ]
      refine held_take (i := 14) (d := 71) (v := (.bool false)) rfl rfl (by kernel_rfl) (by kernel_rfl) (by kernel_rfl) (fun _ _ _ h => h) (by kernel_rfl) (fun w hSw => by (obtain hS := hSw); go_simp) hHeld ?_
      try simp only [List.setIfInBounds_toArray, List.set_cons_zero, List.set_cons_succ]
      refine wpAnyH_ready (rs := [15]) (by kernel_rfl) (by simp) ?_
      refine AllReadyH.cons rfl (fun K hK => ?_) AllReadyH.nil
      refine step_store_blk rfl 32 (.tmp 2) (.tmp 57) rfl (w.heap.size + 1) 32 #[.int .i64 0, .int .i64 0, .int .i64 0, .int .i64 0, .int .i64 0, .int .i64 0, .int .i64 0, .int .i64 0, .int .i64 0, .int .i64 0, .string ⟨#[]⟩, .string ⟨#[]⟩, .int .i64 0, .slice none 0 0, .int .i64 0, .int .i64 0] #[.int .i64 R0, .int .i64 R1, .int .i64 R2, .int .i64 b1, .int .i64 b2, .int .i64 t1, .int .i64 t2, .int .i64 0, .int .i64 0, .int .i64 0, .string ⟨#[]⟩, .string ⟨#[]⟩, .int .i64 0, .slice none 0 0, .int .i64 0, .int .i64 0] (by rfl) (by rfl) HXX.out.drew (by kernel_rfl) rfl (by kernel_rfl) ?_
      intro w9 hblk2 hgr
      have HBL := Lib.hid hblk2
      have HGR := Lib.hid hgr
      clear hblk2 hgr
      try simp only [Act.put]
      refine hK.out _ _ (by first | (exact ⟨HK7.out.drew.grown HGR.out (fun e => by injection e with e; have := HSW.out; omega), (HCUR.out.mono (by have := HSW.out; omega)).trans (gr_below HGR.out (by have := HSW.out; have := HB7.out.size; show w.heap.size + 1 ≤ W7.heap.size; omega) fun b hb => by injection hb with hb; omega)⟩) | (with_reducible exact ⟨HK7.out.drew, HCUR.out.mono (by have := HSW.out; omega)⟩)) (fun hHeld => ?_)
      clear hK K
      refine held_take (i := 16) (d := 3) (v := (.bool false)) rfl rfl (by kernel_rfl) (by kernel_rfl) (by kernel_rfl) (fun _ _ _ h => h) (by kernel_rfl) (fun w hSw => by (obtain hS := hSw); go_simp) hHeld ?_
      try simp only [List.setIfInBounds_toArray]
      refine wpAnyH_done (by kernel_rfl) ?_ _
      go_wp2_with fail
      refine bodyPost_ret (v := .tuple #[.agg #[.int .i64 R0, .int .i64 R1, .int .i64 R2, .int .i64 b1, .int .i64 b2, .int .i64 t1, .int .i64 t2, .int .i64 0, .int .i64 0, .int .i64 0, .string ⟨#[]⟩, .string ⟨#[]⟩, .int .i64 0, .slice none 0 0, .int .i64 0, .int .i64 0], .bool false]) (results_blk_tmp Tryz.results38 _ _ (w.heap.size + 1) 32 _ _ _ rfl rfl HBL.out Tryz.underlying32 rfl (by kernel_rfl)) rfl ?_
      exact ⟨by simp, (HB0.out.trans (HB7.out.mono HB0.out.size)).drew.trans (gr_below HGR.out (by have := HB0.out.size; have := HB7.out.size; show w.heap.size ≤ W7.heap.size; omega) fun b hb => by injection hb with hb; omega)⟩
    | true =>
      refine wp_region_held_drew (S := (fun w' => Blk w' p 32 #[.int .i64 R0, .int .i64 R1, .int .i64 R2, .int .i64 b1, .int .i64 b2, .int .i64 t1, .int .i64 t2, .int .i64 0, .int .i64 0, .int .i64 0, .string ⟨#[]⟩, .string ⟨#[]⟩, .int .i64 0, .slice none 0 0, .int .i64 0, .int .i64 0] ∧ Below (w.heap.size + 1) W w')) (by kernel_rfl) (by first | (exact ⟨HK7.out.drew.grown HGR.out (fun e => by injection e with e; have := HSW.out; omega), (HCUR.out.mono (by have := HSW.out; omega)).trans (gr_below HGR.out (by have := HSW.out; have := HB7.out.size; show w.heap.size + 1 ≤ W7.heap.size; omega) fun b hb => by injection hb with hb; omega)⟩) | (with_reducible exact ⟨HK7.out.drew, HCUR.out.mono (by have := HSW.out; omega)⟩)) (fun hHeld => ?_)
      refine held_take (i := 0) (d := 57) (v := (.agg #[.int .i64 R0, .int .i64 R1, .int .i64 R2, .int .i64 b1, .int .i64 b2, .int .i64 t1, .int .i64 t2, .int .i64 0, .int .i64 0, .int .i64 0, .string ⟨#[]⟩, .string ⟨#[]⟩, .int .i64 0, .slice none 0 0, .int .i64 0, .int .i64 0])) rfl rfl (by kernel_rfl) (by kernel_rfl) (by kernel_rfl) (fun _ _ _ h => h) (by kernel_rfl) (run_load_blk 32 (.tmp 4) rfl p 32 #[.int .i64 R0, .int .i64 R1, .int .i64 R2, .int .i64 b1, .int .i64 b2, .int .i64 t1, .int .i64 t2, .int .i64 0, .int .i64 0, .int .i64 0, .string ⟨#[]⟩, .string ⟨#[]⟩, .int .i64 0, .slice none 0 0, .int .i64 0, .int .i64 0] _ rfl (fun _ h => h.1) Tryz.underlying32 rfl (by kernel_rfl)) hHeld ?_
      try simp only [List.setIfInBounds_toArray, List.set_cons_zero, List.set_cons_succ]
      refine held_take (i := 1) (d := 58) (v := (.bool true)) rfl rfl (by kernel_rfl) (by kernel_rfl) (by kernel_rfl) (fun _ _ _ h => h) (by kernel_rfl) (fun w hSw => by (obtain hS := hSw); go_simp) hHeld ?_
      try simp only [List.setIfInBounds_toArray, List.set_cons_zero, List.set_cons_succ]
      refine held_take (i := 2) (d := 59) (v := (.bool true)) rfl rfl (by kernel_rfl) (by kernel_rfl) (by kernel_rfl) (fun _ _ _ h => h) (by kernel_rfl) (fun w hSw => by (obtain hS := hSw); go_simp) hHeld ?_
      try simp only [List.setIfInBounds_toArray, List.set_cons_zero, List.set_cons_succ]
      refine held_take (i := 3) (d := 60) (v := (.bool true)) rfl rfl (by kernel_rfl) (by kernel_rfl) (by kernel_rfl) (fun _ _ _ h => h) (by kernel_rfl) (fun w hSw => by (obtain hS := hSw); go_simp) hHeld ?_
      try simp only [List.setIfInBounds_toArray, List.set_cons_zero, List.set_cons_succ]
      refine held_take (i := 4) (d := 61) (v := (.bool true)) rfl rfl (by kernel_rfl) (by kernel_rfl) (by kernel_rfl) (fun _ _ _ h => h) (by kernel_rfl) (fun w hSw => by (obtain hS := hSw); go_simp) hHeld ?_
      try simp only [List.setIfInBounds_toArray, List.set_cons_zero, List.set_cons_succ]
      refine held_take (i := 5) (d := 62) (v := (.bool true)) rfl rfl (by kernel_rfl) (by kernel_rfl) (by kernel_rfl) (fun _ _ _ h => h) (by kernel_rfl) (fun w hSw => by (obtain hS := hSw); go_simp) hHeld ?_
      try simp only [List.setIfInBounds_toArray, List.set_cons_zero, List.set_cons_succ]
      refine held_take (i := 6) (d := 63) (v := (.pointer (some ⟨w.heap.size, 3, none⟩))) rfl rfl (by kernel_rfl) (by kernel_rfl) (by kernel_rfl) (fun _ _ _ h => h) (by kernel_rfl) (fun w hSw => by (obtain hS := hSw); go_simp) hHeld ?_
      try simp only [List.setIfInBounds_toArray, List.set_cons_zero, List.set_cons_succ]
      refine held_take (i := 7) (d := 64) (v := (.slice (some ⟨g0, o0, none⟩) n c)) rfl rfl (by kernel_rfl) (by kernel_rfl) (by kernel_rfl) (fun _ _ _ h => h) (by kernel_rfl) (fun w' hS => by (have hh := (hS.2.cell (p := ⟨w.heap.size, 3, none⟩) (by show w.heap.size < w.heap.size + 1; omega)).trans (blk4 HX.out).2.2.2); go_simp) hHeld ?_
      try simp only [List.setIfInBounds_toArray, List.set_cons_zero, List.set_cons_succ]
      refine held_take (i := 8) (d := 65) (v := (.int .i64 (n : Int))) rfl rfl (by kernel_rfl) (by kernel_rfl) (by kernel_rfl) (fun _ _ _ h => h) (by kernel_rfl) (fun w hSw => by (obtain hS := hSw); go_simp) hHeld ?_
      try simp only [List.setIfInBounds_toArray, List.set_cons_zero, List.set_cons_succ]
      refine held_take (i := 9) (d := 66) (v := (.bool ((n : Int) == 5))) rfl rfl (by kernel_rfl) (by kernel_rfl) (by kernel_rfl) (fun _ _ _ h => h) (by kernel_rfl) (fun w hSw => by (obtain hS := hSw); go_simp) hHeld ?_
      try simp only [List.setIfInBounds_toArray, List.set_cons_zero, List.set_cons_succ]
      refine held_take (i := 10) (d := 67) (v := (.pointer (some ⟨p, 2, none⟩))) rfl rfl (by kernel_rfl) (by kernel_rfl) (by kernel_rfl) (fun _ _ _ h => h) (by kernel_rfl) (fun w hSw => by (obtain hS := hSw); go_simp) hHeld ?_
      try simp only [List.setIfInBounds_toArray, List.set_cons_zero, List.set_cons_succ]
      refine held_take (i := 11) (d := 68) (v := (.int .i64 R2)) rfl rfl (by kernel_rfl) (by kernel_rfl) (by kernel_rfl) (fun _ _ _ h => h) (by kernel_rfl) (fun w' hS => by (have hh := hS.1.cell 2); simp at hh; go_simp) hHeld ?_
      try simp only [List.setIfInBounds_toArray, List.set_cons_zero, List.set_cons_succ]
      refine held_take (i := 12) (d := 69) (v := (.bool (R2 == 0))) rfl rfl (by kernel_rfl) (by kernel_rfl) (by kernel_rfl) (fun _ _ _ h => h) (by kernel_rfl) (fun w hSw => by (obtain hS := hSw); go_simp) hHeld ?_
      try simp only [List.setIfInBounds_toArray, List.set_cons_zero, List.set_cons_succ]
      refine held_take (i := 13) (d := 70) (v := (.bool (((n : Int) == 5) == (R2 == 0)))) rfl rfl (by kernel_rfl) (by kernel_rfl) (by kernel_rfl) (fun _ _ _ h => h) (by kernel_rfl) (fun w hSw => by (obtain hS := hSw); go_simp) hHeld ?_
      try simp only [List.setIfInBounds_toArray, List.set_cons_zero, List.set_cons_succ]
      refine held_take (i := 14) (d := 71) (v := (.bool (((n : Int) == 5) == (R2 == 0)))) rfl rfl (by kernel_rfl) (by kernel_rfl) (by kernel_rfl) (fun _ _ _ h => h) (by kernel_rfl) (fun w hSw => by (obtain hS := hSw); go_simp) hHeld ?_
      try simp only [List.setIfInBounds_toArray, List.set_cons_zero, List.set_cons_succ]
      refine wpAnyH_ready (rs := [15]) (by kernel_rfl) (by simp) ?_
      refine AllReadyH.cons rfl (fun K hK => ?_) AllReadyH.nil
      refine step_store_blk rfl 32 (.tmp 2) (.tmp 57) rfl (w.heap.size + 1) 32 #[.int .i64 0, .int .i64 0, .int .i64 0, .int .i64 0, .int .i64 0, .int .i64 0, .int .i64 0, .int .i64 0, .int .i64 0, .int .i64 0, .string ⟨#[]⟩, .string ⟨#[]⟩, .int .i64 0, .slice none 0 0, .int .i64 0, .int .i64 0] #[.int .i64 R0, .int .i64 R1, .int .i64 R2, .int .i64 b1, .int .i64 b2, .int .i64 t1, .int .i64 t2, .int .i64 0, .int .i64 0, .int .i64 0, .string ⟨#[]⟩, .string ⟨#[]⟩, .int .i64 0, .slice none 0 0, .int .i64 0, .int .i64 0] (by rfl) (by rfl) HXX.out.drew (by kernel_rfl) rfl (by kernel_rfl) ?_
      intro w9 hblk2 hgr
      have HBL := Lib.hid hblk2
      have HGR := Lib.hid hgr
      clear hblk2 hgr
      try simp only [Act.put]
      refine hK.out _ _ (by first | (exact ⟨HK7.out.drew.grown HGR.out (fun e => by injection e with e; have := HSW.out; omega), (HCUR.out.mono (by have := HSW.out; omega)).trans (gr_below HGR.out (by have := HSW.out; have := HB7.out.size; show w.heap.size + 1 ≤ W7.heap.size; omega) fun b hb => by injection hb with hb; omega)⟩) | (with_reducible exact ⟨HK7.out.drew, HCUR.out.mono (by have := HSW.out; omega)⟩)) (fun hHeld => ?_)
      clear hK K
      refine held_take (i := 16) (d := 3) (v := (.bool (((n : Int) == 5) == (R2 == 0)))) rfl rfl (by kernel_rfl) (by kernel_rfl) (by kernel_rfl) (fun _ _ _ h => h) (by kernel_rfl) (fun w hSw => by (obtain hS := hSw); go_simp) hHeld ?_
      try simp only [List.setIfInBounds_toArray]
      refine wpAnyH_done (by kernel_rfl) ?_ _
      go_wp2_with fail
      refine bodyPost_ret (v := .tuple #[.agg #[.int .i64 R0, .int .i64 R1, .int .i64 R2, .int .i64 b1, .int .i64 b2, .int .i64 t1, .int .i64 t2, .int .i64 0, .int .i64 0, .int .i64 0, .string ⟨#[]⟩, .string ⟨#[]⟩, .int .i64 0, .slice none 0 0, .int .i64 0, .int .i64 0], .bool (((n : Int) == 5) == (R2 == 0))]) (results_blk_tmp Tryz.results38 _ _ (w.heap.size + 1) 32 _ _ _ rfl rfl HBL.out Tryz.underlying32 rfl (by kernel_rfl)) rfl ?_
      exact ⟨by simp, (HB0.out.trans (HB7.out.mono HB0.out.size)).drew.trans (gr_below HGR.out (by have := HB0.out.size; have := HB7.out.size; show w.heap.size ≤ W7.heap.size; omega) fun b hb => by injection hb with hb; omega)⟩
end Go.Proofs.YtbjooblaamjppaaGreat.Rk
