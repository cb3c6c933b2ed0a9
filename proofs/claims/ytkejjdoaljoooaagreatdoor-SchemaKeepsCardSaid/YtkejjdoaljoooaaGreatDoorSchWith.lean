/-
  Texts of earlier layers, as one.
-/
import Derived.Test.YtkejjdoaljoooaaGreatDoorSchEx
/- The document's Great: what is not great has at most twelve records. -/
namespace Go.Proofs.YtkejjdoaljoooaaGreatDoor.Sc
open Lib (hid)
open Go.RowKit Mem Ids Rk
def GrRel (w : World) (n : Nat) (i : Value) (wr : World) : Prop := ∃ k : Nat, k ≤ n ∧ k ≤ 12 ∧ i = .int .i64 (k : Int) ∧ wr = w
set_option maxRecDepth 20000 in
set_option maxHeartbeats 4000000 in
theorem great_any (A : Option Addr) (n c : Nat) (qs : List Pt) (w : World) (hA : Recs w A n c qs) :
 Calls Tryz.prog 5 #[.slice A n c] w (fun e w' => ∃ t, e = .returned (.bool t) ∧ (t = false → n ≤ 12) ∧ w' = w) := by
 have HA := hid hA;have l1 := hA.le;have l2 := hA.cap;unfold maxLen at l2;clear hA;go_enter Tryz.func5, Tryz.ntmps5
 go_wp2_with fail
 go_loopw [3] (GrRel w n) (fun i _ => n - (intOf i).toNat)
 case atStart => exact ⟨0, Nat.zero_le _, Nat.zero_le _, rfl, rfl⟩
 case round =>
  obtain ⟨k, hk, hk2, rfl, rfl⟩ := hrel;by_cases hlt : k < n ∧ k < 12
  · obtain ⟨hlt, hlt2⟩ := hlt
    obtain ⟨g, o, q, rfl, hgl, hq, hra, hdep⟩ := HA.out.at_ hlt;have c10 := hra 10 (.string q.r.cm.ky) rfl;have c11 := hra 11 (.string q.r.cm.vl) rfl;have c13 := hra 13 (.slice q.V q.n q.c) rfl;have d1 := hdep.le;have d2 := hdep.cap;unfold maxLen at d2;have b1 : decide ((k : Int) < (n : Int)) = true := decide_eq_true (by omega);have b2 : decide ((k : Int) < 12) = true := decide_eq_true (by omega);clear hra hdep hq;obtain ⟨sk, hsk⟩ : ∃ sk, q.r.cm.ky.size = sk := ⟨_, rfl⟩
    obtain ⟨sv, hsv⟩ : ∃ sv, q.r.cm.vl.size = sv := ⟨_, rfl⟩
    by_cases h1 : q.n > 60
    · have t1 : decide ((q.n : Int) > 60) = true := decide_eq_true (by omega)
      go_wp2_with fail
      go_ret;exact ⟨true, rfl, fun h => (by cases h), rfl⟩
    · have t1 : decide ((q.n : Int) > 60) = false := decide_eq_false (by omega)
      by_cases h2 : sk > 200
      · have t2 : decide ((sk : Int) > 200) = true := decide_eq_true (by omega)
        go_wp2_with fail
        go_ret;exact ⟨true, rfl, fun h => (by cases h), rfl⟩
      · have t2 : decide ((sk : Int) > 200) = false := decide_eq_false (by omega)
        by_cases h3 : sv > 2000
        · have t3 : decide ((sv : Int) > 2000) = true := decide_eq_true (by omega)
          go_wp2_with fail
          go_ret;exact ⟨true, rfl, fun h => (by cases h), rfl⟩
        · have t3 : decide ((sv : Int) > 2000) = false := decide_eq_false (by omega)
          go_wp2_with fail
          refine ⟨⟨k + 1, by omega, by omega, by simp, rfl⟩, by simp [intOf]; omega⟩
  · by_cases hlt : k < n
    · have b1 : decide ((k : Int) < (n : Int)) = true := decide_eq_true (by omega)
      have b2 : decide ((k : Int) < 12) = false := decide_eq_false (by omega);obtain ⟨tt, htt⟩ : ∃ tt, decide ((n : Int) > 12) = tt := ⟨_, rfl⟩
      go_wp2_with fail
      go_ret;exact ⟨_, rfl, fun h => (by rw [← htt] at h; have := of_decide_eq_false h; omega), rfl⟩
    · have b1 : decide ((k : Int) < (n : Int)) = false := decide_eq_false (by omega)
      go_wp2_with fail
      go_ret;exact ⟨_, rfl, fun h => (by have := of_decide_eq_false h; omega), rfl⟩
end Go.Proofs.YtkejjdoaljoooaaGreatDoor.Sc
/- The document's With: records in the order of their ids, with one more, or another one. -/
namespace Go.Proofs.YtkejjdoaljoooaaGreatDoor.Sc
open Lib (hid)
open Go.RowKit Mem Ids Rk Go.Shelf Lg
theorem infoW : (Tryz.prog.info? 43).map (fun i => (i.zero, i.size, i.bytes)) = some (some (.agg #[.int .i64 0, .int .i64 0, .int .i64 0, .int .i64 0, .int .i64 0, .int .i64 0, .int .i64 0, .int .i64 0, .int .i64 0, .int .i64 0, .string ⟨#[]⟩, .string ⟨#[]⟩, .int .i64 0, .slice none 0 0, .int .i64 0, .int .i64 0]), 16, 160) := by kernel_rfl
theorem range_belW {w w' : World} {g o : Nat} {cs : List Value} (h : w.rangeAt g o cs) (hg : g < w.heap.size) (hb : Below w.heap.size w w') : w'.rangeAt g o cs := fun j v hv => (hb.cell (p := ⟨g, o + j, none⟩) hg).trans (h j v hv)
theorem run_midW {P : Program} {oi : Oper} {a : Act} {S : World → Prop} (ty : TypeId) (x : Operand) (ho : oi.op = .load ty x) (g o : Nat) (cs : List Value) (d : TypeDesc) (hx : a.eval x = .pointer (some ⟨g, o, none⟩)) (hS : ∀ w, S w → w.rangeAt g o cs) (hu : P.underlying ty = some d) (hd : d.isRow = true) (hi : (P.info? ty).map (·.size) = some cs.length) :
 ∀ w, S w → (execOp a.eval oi).run P w = .ok (.value (.agg cs.toArray)) w := fun w hw => by
 unfold execOp;simp only [ho, hx, Instr.loadAt, Instr.sureAddr, Sem.run_bind, Sem.run_pure, Result.andThen_ok, run_loadVar_mid w g o ty cs d (hS w hw) hu hd hi]
theorem range_ids {w : World} {g o : Nat} {x : Pt} (h : w.rangeAt g o (cellsOf x)) : w.rangeAt g o [.int .i64 x.r.id.1, .int .i64 x.r.id.2] := fun j v hv => by
 match j, hv with
 | 0, hv => exact h 0 v hv
 | 1, hv => exact h 1 v hv
 | n + 2, hv => simp at hv
theorem blk_range0 {w : World} {b : Nat} {t : TypeId} {x : Pt} (h : Blk w b t #[.int .i64 x.r.id.1, .int .i64 x.r.id.2, .int .i64 x.r.st, .int .i64 x.r.bl.1, .int .i64 x.r.bl.2, .int .i64 x.r.tk.1, .int .i64 x.r.tk.2, .int .i64 x.r.cm.kd, .int .i64 x.r.cm.cl, .int .i64 x.r.cm.sq, .string x.r.cm.ky, .string x.r.cm.vl, .int .i64 x.r.cm.rv, .slice x.V x.n x.c, .int .i64 x.r.at_.sq, .int .i64 x.r.at_.tg]) : w.rangeAt b 0 (cellsOf x) := fun j v hv => by
 rw [Nat.zero_add];refine (h.cell j).trans ?_;have e : (#[.int .i64 x.r.id.1, .int .i64 x.r.id.2, .int .i64 x.r.st, .int .i64 x.r.bl.1, .int .i64 x.r.bl.2, .int .i64 x.r.tk.1, .int .i64 x.r.tk.2, .int .i64 x.r.cm.kd, .int .i64 x.r.cm.cl, .int .i64 x.r.cm.sq, .string x.r.cm.ky, .string x.r.cm.vl, .int .i64 x.r.cm.rv, .slice x.V x.n x.c, .int .i64 x.r.at_.sq, .int .i64 x.r.at_.tg] : Array Value) = (cellsOf x).toArray := rfl;rw [e];simpa using hv
theorem append_lit {U : World} {B : Nat} {V : Option Addr} {c : Nat} {ps : List Pt} (x : Pt) (hown : U.ownsRow B 43 16 (.slice V ps.length c) ps.length (flat ps)) (hB : B ≤ U.heap.size) (hn : ps.length ≤ 100000) :
 ∃ V' c' U', (Builtin.append_ #[22, 22] 22 #[.slice V ps.length c, .slice (some ⟨U.heap.size, 0, none⟩) 1 1]).run Tryz.prog (U.alloc (.cells #[.int .i64 x.r.id.1, .int .i64 x.r.id.2, .int .i64 x.r.st, .int .i64 x.r.bl.1, .int .i64 x.r.bl.2, .int .i64 x.r.tk.1, .int .i64 x.r.tk.2, .int .i64 x.r.cm.kd, .int .i64 x.r.cm.cl, .int .i64 x.r.cm.sq, .string x.r.cm.ky, .string x.r.cm.vl, .int .i64 x.r.cm.rv, .slice x.V x.n x.c, .int .i64 x.r.at_.sq, .int .i64 x.r.at_.tg] 43)) = .ok (.slice V' (ps.length + 1) c') U' ∧ U'.ownsRow B 43 16 (.slice V' (ps ++ [x]).length c') (ps ++ [x]).length (flat (ps ++ [x])) ∧ Below B U U' := by
 obtain ⟨i0, hi, hz0, hz1, hz2⟩ := info_parts infoW;have hb1 := Below.refl B U |>.alloc hB (.cells #[.int .i64 x.r.id.1, .int .i64 x.r.id.2, .int .i64 x.r.st, .int .i64 x.r.bl.1, .int .i64 x.r.bl.2, .int .i64 x.r.tk.1, .int .i64 x.r.tk.2, .int .i64 x.r.cm.kd, .int .i64 x.r.cm.cl, .int .i64 x.r.cm.sq, .string x.r.cm.ky, .string x.r.cm.vl, .int .i64 x.r.cm.rv, .slice x.V x.n x.c, .int .i64 x.r.at_.sq, .int .i64 x.r.at_.tg] 43);obtain ⟨V', c', w', hr, ho, _, hb⟩ := append_rec (ty := 22) (c := 1) Tryz.underlying22 hi hz0 hz1 hz2 rfl (by decide) (hown.alloc (.cells #[.int .i64 x.r.id.1, .int .i64 x.r.id.2, .int .i64 x.r.st, .int .i64 x.r.bl.1, .int .i64 x.r.bl.2, .int .i64 x.r.tk.1, .int .i64 x.r.tk.2, .int .i64 x.r.cm.kd, .int .i64 x.r.cm.cl, .int .i64 x.r.cm.sq, .string x.r.cm.ky, .string x.r.cm.vl, .int .i64 x.r.cm.rv, .slice x.V x.n x.c, .int .i64 x.r.at_.sq, .int .i64 x.r.at_.tg] 43)) (blk_range0 (x := x) (Blk.new U 43 #[.int .i64 x.r.id.1, .int .i64 x.r.id.2, .int .i64 x.r.st, .int .i64 x.r.bl.1, .int .i64 x.r.bl.2, .int .i64 x.r.tk.1, .int .i64 x.r.tk.2, .int .i64 x.r.cm.kd, .int .i64 x.r.cm.cl, .int .i64 x.r.cm.sq, .string x.r.cm.ky, .string x.r.cm.vl, .int .i64 x.r.cm.rv, .slice x.V x.n x.c, .int .i64 x.r.at_.sq, .int .i64 x.r.at_.tg])) (by omega) (by rw [size_alloc]; omega);exact ⟨V', c', w', hr, by rw [List.length_append]; exact ho, hb1.trans hb⟩
theorem rest_nil (b : Bool) (q : Pt) : restK ptId b q [] = if b = true then [] else [q] := by
 unfold restK;cases b <;> rfl
theorem rest_true (q x : Pt) (t : List Pt) : restK ptId true q (x :: t) = (if ptId x = ptId q then [] else [x]) ++ restK ptId true q t := by
 unfold restK;rw [if_pos rfl, if_pos rfl, List.filter_cons];by_cases h : ptId x = ptId q
 · rw [if_pos h]; simp [h]
 · rw [if_neg h]; simp [h]
theorem rest_lt (q x : Pt) (t : List Pt) (h : lt (ptId x) (ptId q) = true) : restK ptId false q (x :: t) = x :: restK ptId false q t := by
 unfold restK;rw [if_neg (by simp), if_neg (by simp), withK_cons, if_pos h]
theorem rest_ge (q x : Pt) (t : List Pt) (h : lt (ptId x) (ptId q) = false) : restK ptId false q (x :: t) = q :: restK ptId true q (x :: t) := by
 unfold restK;rw [if_neg (by simp), if_pos rfl, withK_cons, if_neg (by rw [h]; simp)]
def WiRel (w : World) (n : Nat) (qs : List Pt) (q : Pt) (i out done : Value) (wr : World) : Prop :=
 ∃ (k : Nat) (V : Option Addr) (c2 : Nat) (ps : List Pt) (b : Bool), k ≤ n ∧ i = .int .i64 (k : Int) ∧ out = .slice V ps.length c2 ∧ done = .bool b ∧ ps.length ≤ k + (if b = true then 1 else 0) ∧ ps ++ restK ptId b q (qs.drop k) = withK ptId q qs ∧ wr.ownsRow (w.heap.size + 1) 43 16 (.slice V ps.length c2) ps.length (flat ps) ∧ Blk wr w.heap.size 43 #[.int .i64 q.r.id.1, .int .i64 q.r.id.2, .int .i64 q.r.st, .int .i64 q.r.bl.1, .int .i64 q.r.bl.2, .int .i64 q.r.tk.1, .int .i64 q.r.tk.2, .int .i64 q.r.cm.kd, .int .i64 q.r.cm.cl, .int .i64 q.r.cm.sq, .string q.r.cm.ky, .string q.r.cm.vl, .int .i64 q.r.cm.rv, .slice q.V q.n q.c, .int .i64 q.r.at_.sq, .int .i64 q.r.at_.tg] ∧ Below w.heap.size w wr ∧ w.heap.size + 1 ≤ wr.heap.size
theorem wi_next {w U U' : World} {B : Nat} (hB : B = w.heap.size + 1) {vs : Array Value} (hbk : Blk U w.heap.size 43 vs) (hbl : Below w.heap.size w U) (hs : w.heap.size + 1 ≤ U.heap.size) (hb : Below B U U') : Blk U' w.heap.size 43 vs ∧ Below w.heap.size w U' ∧ w.heap.size + 1 ≤ U'.heap.size :=
 ⟨hbk.below hb (by omega), hbl.trans (hb.mono (by omega)), Nat.le_trans hs hb.size⟩
set_option maxRecDepth 20000 in
set_option maxHeartbeats 8000000 in
theorem with_any (A : Option Addr) (n c : Nat) (qs : List Pt) (q : Pt) (w : World) (hA : Recs w A n c qs) (hd : Dep w q) (hn : n ≤ 1000) :
 Calls Tryz.prog 12 #[.slice A n c, val q] w (fun e w' => ∃ V k c', e = .returned (.slice V k c') ∧ Recs w' V k c' (withK ptId q qs) ∧ (∀ g o, V = some ⟨g, o, none⟩ → w.heap.size ≤ g) ∧ Below w.heap.size w w') := by
 obtain ⟨W, hW⟩ : ∃ W, w.alloc (.cells #[.int .i64 q.r.id.1, .int .i64 q.r.id.2, .int .i64 q.r.st, .int .i64 q.r.bl.1, .int .i64 q.r.bl.2, .int .i64 q.r.tk.1, .int .i64 q.r.tk.2, .int .i64 q.r.cm.kd, .int .i64 q.r.cm.cl, .int .i64 q.r.cm.sq, .string q.r.cm.ky, .string q.r.cm.vl, .int .i64 q.r.cm.rv, .slice q.V q.n q.c, .int .i64 q.r.at_.sq, .int .i64 q.r.at_.tg] 43) = W := ⟨_, rfl⟩
 have hb0 : Below w.heap.size w W := by rw [← hW]; exact bel_alloc (Below.refl _ _) _
 have hblk : Blk W w.heap.size 43 #[.int .i64 q.r.id.1, .int .i64 q.r.id.2, .int .i64 q.r.st, .int .i64 q.r.bl.1, .int .i64 q.r.bl.2, .int .i64 q.r.tk.1, .int .i64 q.r.tk.2, .int .i64 q.r.cm.kd, .int .i64 q.r.cm.cl, .int .i64 q.r.cm.sq, .string q.r.cm.ky, .string q.r.cm.vl, .int .i64 q.r.cm.rv, .slice q.V q.n q.c, .int .i64 q.r.at_.sq, .int .i64 q.r.at_.tg] := by rw [← hW]; exact Blk.new w _ _
 have hs0 : w.heap.size + 1 ≤ W.heap.size := by rw [← hW]; simp
 have H0 := hid (And.intro hb0 (And.intro hblk hs0));have HA := hid (And.intro hA hd);have HW := hid hW;have l1 := hA.le;have l2 := hA.cap;unfold maxLen at l2;clear hb0 hblk hs0 hA hd hW;unfold val;go_enter Tryz.func12, Tryz.ntmps12
 go_upto_region 1 with fail
 rw [HW.out];go_wp2_with fail
 go_loopw [7, 5, 6] (WiRel w n qs q) (fun i _ _ _ => n - (intOf i).toNat)
 case atStart => exact ⟨0, none, 0, [], false, Nat.zero_le _, rfl, rfl, rfl, Nat.zero_le _, rfl, World.ownsRow_nil _ _ _ _, H0.out.2.1, H0.out.1, H0.out.2.2⟩
 case round =>
  obtain ⟨k, V, c2, ps, b, hk, rfl, rfl, rfl, hpk, heq, hown, hbk, hbel, hsz⟩ := hrel;by_cases hlt : k < n
  · obtain ⟨g, o, x, rfl, hgl, hx, hra, hdep⟩ := HA.out.1.at_ hlt
    have hdr : qs.drop k = x :: qs.drop (k + 1) := by
     obtain ⟨hkl, he⟩ := List.getElem?_eq_some_iff.1 hx;rw [List.drop_eq_getElem_cons hkl, he]
    rw [hdr] at heq;have hxr := range_belW hra hgl hbel;have HS := hid (show wr.drew.rangeAt g (o + k * 16) [.int .i64 x.r.id.1, .int .i64 x.r.id.2] ∧ wr.drew.rangeAt w.heap.size 0 [.int .i64 q.r.id.1, .int .i64 q.r.id.2] from ⟨range_ids hxr, range_ids (blk_range0 hbk)⟩);have HG := hid (show g < wr.drew.heap.size ∧ w.heap.size < wr.drew.heap.size from ⟨Nat.lt_of_lt_of_le hgl hbel.size, hsz⟩);have HX := hid (And.intro hra hgl);have HP := hid (And.intro hown (And.intro hbk (And.intro hbel hsz)));have HQ := hid heq;obtain ⟨N, hN⟩ : ∃ N, decide (x.r.id = q.r.id) = N := ⟨_, rfl⟩
    have HN := hid hN;clear hdr hra hdep hxr hown hbk hbel hsz heq hgl hN;cases b with
    | true =>
      go_upto_region 6 with fail
      refine wp_region_held_drew (S := (fun w' => w'.rangeAt g (o + k * 16) [.int .i64 x.r.id.1, .int .i64 x.r.id.2] ∧ w'.rangeAt w.heap.size 0 [.int .i64 q.r.id.1, .int .i64 q.r.id.2])) (by kernel_rfl) HS.out (fun hHeld => ?_);refine hs_take 0 14 (.bool true) rfl rfl (by kernel_rfl) (fun _ _ _ h => h) (fun w hSw => by (obtain ⟨_, _⟩ := hSw); go_simp) hHeld ?_;try simp only [n0, n1, n2]
      refine hs_take 1 15 (.bool false) rfl rfl (by kernel_rfl) (fun _ _ _ h => h) (fun w hSw => by (obtain ⟨_, _⟩ := hSw); go_simp) hHeld ?_;try simp only [n0, n1, n2]
      refine hs_take 2 16 (.bool false) rfl rfl (by kernel_rfl) (fun _ _ _ h => h) (fun w hSw => by (obtain ⟨_, _⟩ := hSw); go_simp) hHeld ?_;try simp only [n0, n1, n2]
      refine held_skip (i := 3) (d := 17) rfl rfl (by kernel_rfl) (by kernel_rfl) (by kernel_rfl) (fun _ _ _ h => h) (by kernel_rfl) hHeld ?_;try simp only [n0, n1, n2]
      refine held_skip (i := 4) (d := 18) rfl rfl (by kernel_rfl) (by kernel_rfl) (by kernel_rfl) (fun _ _ _ h => h) (by kernel_rfl) hHeld ?_;try simp only [n0, n1, n2]
      refine held_skip (i := 5) (d := 19) rfl rfl (by kernel_rfl) (by kernel_rfl) (by kernel_rfl) (fun _ _ _ h => h) (by kernel_rfl) hHeld ?_;try simp only [n0, n1, n2]
      refine held_skip (i := 6) (d := 20) rfl rfl (by kernel_rfl) (by kernel_rfl) (by kernel_rfl) (fun _ _ _ h => h) (by kernel_rfl) hHeld ?_;try simp only [n0, n1, n2]
      refine held_skip (i := 7) (d := 21) rfl rfl (by kernel_rfl) (by kernel_rfl) (by kernel_rfl) (fun _ _ _ h => h) (by kernel_rfl) hHeld ?_;try simp only [n0, n1, n2]
      refine held_skip (i := 8) (d := 22) rfl rfl (by kernel_rfl) (by kernel_rfl) (by kernel_rfl) (fun _ _ _ h => h) (by kernel_rfl) hHeld ?_;try simp only [n0, n1, n2]
      refine held_skip (i := 9) (d := 23) rfl rfl (by kernel_rfl) (by kernel_rfl) (by kernel_rfl) (fun _ _ _ h => h) (by kernel_rfl) hHeld ?_;try simp only [n0, n1, n2]
      refine held_skip (i := 10) (d := 24) rfl rfl (by kernel_rfl) (by kernel_rfl) (by kernel_rfl) (fun _ _ _ h => h) (by kernel_rfl) hHeld ?_;try simp only [n0, n1, n2]
      refine held_skip (i := 11) (d := 25) rfl rfl (by kernel_rfl) (by kernel_rfl) (by kernel_rfl) (fun _ _ _ h => h) (by kernel_rfl) hHeld ?_;try simp only [n0, n1, n2]
      refine hs_take 12 26 (.bool false) rfl rfl (by kernel_rfl) (fun _ _ _ h => h) (fun w hSw => by (obtain ⟨_, _⟩ := hSw); go_simp) hHeld ?_;try simp only [n0, n1, n2]
      refine wpAnyH_done (by kernel_rfl) ?_ _;skip;have HPD := hid (show Blk wr.drew w.heap.size 43 #[.int .i64 q.r.id.1, .int .i64 q.r.id.2, .int .i64 q.r.st, .int .i64 q.r.bl.1, .int .i64 q.r.bl.2, .int .i64 q.r.tk.1, .int .i64 q.r.tk.2, .int .i64 q.r.cm.kd, .int .i64 q.r.cm.cl, .int .i64 q.r.cm.sq, .string q.r.cm.ky, .string q.r.cm.vl, .int .i64 q.r.cm.rv, .slice q.V q.n q.c, .int .i64 q.r.at_.sq, .int .i64 q.r.at_.tg] ∧ Below w.heap.size w wr.drew ∧ w.heap.size + 1 ≤ wr.drew.heap.size from ⟨HP.out.2.1, HP.out.2.2.1.drew, HP.out.2.2.2⟩);have HU := hid (show World.ownsRow wr.drew.drew (w.heap.size + 1) 43 16 (.slice V (ps).length c2) (ps).length (flat (ps)) ∧ Blk wr.drew.drew w.heap.size 43 #[.int .i64 q.r.id.1, .int .i64 q.r.id.2, .int .i64 q.r.st, .int .i64 q.r.bl.1, .int .i64 q.r.bl.2, .int .i64 q.r.tk.1, .int .i64 q.r.tk.2, .int .i64 q.r.cm.kd, .int .i64 q.r.cm.cl, .int .i64 q.r.cm.sq, .string q.r.cm.ky, .string q.r.cm.vl, .int .i64 q.r.cm.rv, .slice q.V q.n q.c, .int .i64 q.r.at_.sq, .int .i64 q.r.at_.tg] ∧ Below w.heap.size w wr.drew.drew ∧ w.heap.size + 1 ≤ wr.drew.drew.heap.size from ⟨HP.out.1, HPD.out.1, (HPD.out.2.1).drew, HPD.out.2.2⟩);have hxr := range_belW HX.out.1 HX.out.2 HU.out.2.2.1;have HS9 := hid (show wr.drew.drew.rangeAt g (o + k * 16) [.int .i64 x.r.id.1, .int .i64 x.r.id.2] ∧ wr.drew.drew.rangeAt w.heap.size 0 [.int .i64 q.r.id.1, .int .i64 q.r.id.2] from ⟨range_ids hxr, range_ids (blk_range0 HU.out.2.1)⟩);have HXR := hid (show wr.drew.drew.rangeAt g (o + k * 16) [.int .i64 x.r.id.1, .int .i64 x.r.id.2, .int .i64 x.r.st, .int .i64 x.r.bl.1, .int .i64 x.r.bl.2, .int .i64 x.r.tk.1, .int .i64 x.r.tk.2, .int .i64 x.r.cm.kd, .int .i64 x.r.cm.cl, .int .i64 x.r.cm.sq, .string x.r.cm.ky, .string x.r.cm.vl, .int .i64 x.r.cm.rv, .slice x.V x.n x.c, .int .i64 x.r.at_.sq, .int .i64 x.r.at_.tg] from hxr);have hlen : (ps).length ≤ k + (if true = true then 1 else 0) := hpk;have HLN := hid hlen;obtain ⟨V8, c8, U8, hrun, hown8, hb8⟩ := append_lit (ps := ps) x HU.out.1 HU.out.2.2.2 (by simp only [if_true] at hlen; omega);have hnx := wi_next rfl HU.out.2.1 HU.out.2.2.1 HU.out.2.2.2 hb8;have HRUN := hid hrun;have H8 := hid (And.intro hown8 hnx);clear hxr hrun hown8 hb8 hnx hlen;go_upto_region 9 with fail
      refine wp_region_held_drew (S := (fun w' => w'.rangeAt g (o + k * 16) [.int .i64 x.r.id.1, .int .i64 x.r.id.2] ∧ w'.rangeAt w.heap.size 0 [.int .i64 q.r.id.1, .int .i64 q.r.id.2])) (by kernel_rfl) HS9.out (fun hHeld => ?_);refine hs_take 0 31 (.slice (some ⟨g, o, none⟩) n c) rfl rfl (by kernel_rfl) (fun _ _ _ h => h) (fun w hSw => by (obtain ⟨_, _⟩ := hSw); go_simp) hHeld ?_;try simp only [n0, n1, n2]
      refine hs_take 1 32 (.int .i64 (k : Int)) rfl rfl (by kernel_rfl) (fun _ _ _ h => h) (fun w hSw => by (obtain ⟨_, _⟩ := hSw); go_simp) hHeld ?_;try simp only [n0, n1, n2]
      refine hs_take 2 33 (.pointer (some ⟨g, o + k * 16, none⟩)) rfl rfl (by kernel_rfl) (fun _ _ _ h => h) (fun w hSw => by (obtain ⟨_, _⟩ := hSw); go_simp) hHeld ?_;try simp only [n0, n1, n2]
      refine hs_take 3 34 (.pointer (some ⟨g, o + k * 16, none⟩)) rfl rfl (by kernel_rfl) (fun _ _ _ h => h) (fun w hSw => by (obtain ⟨_, _⟩ := hSw); go_simp) hHeld ?_;try simp only [n0, n1, n2]
      refine hs_take 4 35 (.agg #[.int .i64 x.r.id.1, .int .i64 x.r.id.2]) rfl rfl (by kernel_rfl) (fun _ _ _ h => h) (run_midW 34 (.tmp 34) rfl g (o + k * 16) [.int .i64 x.r.id.1, .int .i64 x.r.id.2] _ rfl (fun _ h => h.1) Tryz.underlying34 rfl (by kernel_rfl)) hHeld ?_;try simp only [n0, n1, n2]
      refine hs_take 5 36 (.pointer (some ⟨w.heap.size, 0, none⟩)) rfl rfl (by kernel_rfl) (fun _ _ _ h => h) (fun w hSw => by (obtain ⟨_, _⟩ := hSw); go_simp) hHeld ?_;try simp only [n0, n1, n2]
      refine hs_take 6 37 (.agg #[.int .i64 q.r.id.1, .int .i64 q.r.id.2]) rfl rfl (by kernel_rfl) (fun _ _ _ h => h) (run_midW 34 (.tmp 36) rfl w.heap.size (0) [.int .i64 q.r.id.1, .int .i64 q.r.id.2] _ rfl (fun _ h => h.2) Tryz.underlying34 rfl (by kernel_rfl)) hHeld ?_;try simp only [n0, n1, n2]
      refine hs_take 7 38 (.bool (!N)) rfl rfl (by kernel_rfl) (fun _ _ _ h => h) (fun w _ => by (go_simp; rw [← HN.out]; by_cases e1 : x.r.id.1 = q.r.id.1 <;> by_cases e2 : x.r.id.2 = q.r.id.2 <;> simp [e1, e2, Prod.ext_iff])) hHeld ?_;try simp only [n0, n1, n2]
      refine wpAnyH_done (by kernel_rfl) ?_ _;skip;cases N with
      | true =>
        have hxq : ptId x = ptId q := of_decide_eq_true HN.out;have HXQ := hid hxq;clear hxq;go_wp2_with fail
        refine ⟨⟨k + 1, V, c2, ps, true, by omega, by simp, rfl, rfl, ?_, ?_, HU.out.1, HU.out.2.1, HU.out.2.2.1, HU.out.2.2.2⟩, by simp [intOf]; omega⟩
        · have h := HLN.out
          simp only [if_true] at h ⊢;omega
        · have h := HQ.out
          rw [rest_true, if_pos HXQ.out, List.nil_append] at h;exact h
      | false =>
        have hxq : ptId x ≠ ptId q := of_decide_eq_false HN.out;have HXQ := hid hxq;clear hxq;go_wp2_with (first | (with_reducible refine wpList_load_mid rfl 43 (.tmp 42) rfl g (o + k * 16) rfl _ _ HXR.out Tryz.underlying43 rfl (by kernel_rfl) ?_) | (at_builtin; refine wpList_append_w (.tmp 39) (.tmp 44) rfl rfl HRUN.out ?_))
        refine ⟨⟨k + 1, V8, c8, ps ++ [x], true, by omega, by simp, by simp [List.length_append], rfl, ?_, ?_, H8.out.1, H8.out.2.1, H8.out.2.2.1, H8.out.2.2.2⟩, by simp [intOf]; omega⟩
        · have h := HLN.out
          rw [List.length_append, List.length_singleton];omega
        · have h := HQ.out
          rw [rest_true, if_neg HXQ.out, ← List.append_assoc] at h;exact h
    | false =>
      have hls := refless_any (ptId x) (ptId q) wr.drew;obtain ⟨L, hL⟩ : ∃ L, lt (ptId x) (ptId q) = L := ⟨_, rfl⟩
      have HLS := hid hls;have HL := hid hL;clear hls hL;go_upto_region 6 with fail
      refine wp_region_held_drew (S := (fun w' => w'.rangeAt g (o + k * 16) [.int .i64 x.r.id.1, .int .i64 x.r.id.2] ∧ w'.rangeAt w.heap.size 0 [.int .i64 q.r.id.1, .int .i64 q.r.id.2])) (by kernel_rfl) HS.out (fun hHeld => ?_);refine hs_take 0 14 (.bool false) rfl rfl (by kernel_rfl) (fun _ _ _ h => h) (fun w hSw => by (obtain ⟨_, _⟩ := hSw); go_simp) hHeld ?_;try simp only [n0, n1, n2]
      refine hs_take 1 15 (.bool true) rfl rfl (by kernel_rfl) (fun _ _ _ h => h) (fun w hSw => by (obtain ⟨_, _⟩ := hSw); go_simp) hHeld ?_;try simp only [n0, n1, n2]
      refine hs_take 2 16 (.bool true) rfl rfl (by kernel_rfl) (fun _ _ _ h => h) (fun w hSw => by (obtain ⟨_, _⟩ := hSw); go_simp) hHeld ?_;try simp only [n0, n1, n2]
      refine hs_take 3 17 (.slice (some ⟨g, o, none⟩) n c) rfl rfl (by kernel_rfl) (fun _ _ _ h => h) (fun w hSw => by (obtain ⟨_, _⟩ := hSw); go_simp) hHeld ?_;try simp only [n0, n1, n2]
      refine hs_take 4 18 (.int .i64 (k : Int)) rfl rfl (by kernel_rfl) (fun _ _ _ h => h) (fun w hSw => by (obtain ⟨_, _⟩ := hSw); go_simp) hHeld ?_;try simp only [n0, n1, n2]
      refine hs_take 5 19 (.pointer (some ⟨g, o + k * 16, none⟩)) rfl rfl (by kernel_rfl) (fun _ _ _ h => h) (fun w hSw => by (obtain ⟨_, _⟩ := hSw); go_simp) hHeld ?_;try simp only [n0, n1, n2]
      refine hs_take 6 20 (.pointer (some ⟨g, o + k * 16, none⟩)) rfl rfl (by kernel_rfl) (fun _ _ _ h => h) (fun w hSw => by (obtain ⟨_, _⟩ := hSw); go_simp) hHeld ?_;try simp only [n0, n1, n2]
      refine hs_take 7 21 (.agg #[.int .i64 x.r.id.1, .int .i64 x.r.id.2]) rfl rfl (by kernel_rfl) (fun _ _ _ h => h) (run_midW 34 (.tmp 20) rfl g (o + k * 16) [.int .i64 x.r.id.1, .int .i64 x.r.id.2] _ rfl (fun _ h => h.1) Tryz.underlying34 rfl (by kernel_rfl)) hHeld ?_;try simp only [n0, n1, n2]
      refine hs_take 8 22 (.pointer (some ⟨w.heap.size, 0, none⟩)) rfl rfl (by kernel_rfl) (fun _ _ _ h => h) (fun w hSw => by (obtain ⟨_, _⟩ := hSw); go_simp) hHeld ?_;try simp only [n0, n1, n2]
      refine hs_take 9 23 (.agg #[.int .i64 q.r.id.1, .int .i64 q.r.id.2]) rfl rfl (by kernel_rfl) (fun _ _ _ h => h) (run_midW 34 (.tmp 22) rfl w.heap.size (0) [.int .i64 q.r.id.1, .int .i64 q.r.id.2] _ rfl (fun _ h => h.2) Tryz.underlying34 rfl (by kernel_rfl)) hHeld ?_;try simp only [n0, n1, n2]
      refine wpAnyH_ready (rs := [10]) (by kernel_rfl) (by simp) ?_;refine AllReadyH.cons rfl (fun K hK => ?_) AllReadyH.nil;go_simp;refine (HLS.out).mono ?_;rintro e w2 ⟨rfl, hb2⟩;rw [HL.out];have HB2 := hid (And.intro hb2 (And.intro (range_belW HS.out.1 HG.out.1 hb2) (range_belW HS.out.2 HG.out.2 hb2)));clear hb2;refine hK.out _ _ (by first | exact HB2.out.2 | exact HS.out) (fun hHeld => ?_);clear hK K;refine hs_take 11 25 (.bool (!L)) rfl rfl (by kernel_rfl) (fun _ _ _ h => h) (fun w hSw => by (obtain ⟨_, _⟩ := hSw); go_simp) hHeld ?_;try simp only [n0, n1, n2]
      refine hs_take 12 26 (.bool (!L)) rfl rfl (by kernel_rfl) (fun _ _ _ h => h) (fun w hSw => by (obtain ⟨_, _⟩ := hSw); go_simp) hHeld ?_;try simp only [n0, n1, n2]
      refine wpAnyH_done (by kernel_rfl) ?_ _;skip;have hbw2 : Below wr.heap.size wr w2 := ((Below.refl wr.heap.size wr).drew).trans HB2.out.1;have hown2 : w2.ownsRow (w.heap.size + 1) 43 16 (.slice V ps.length c2) ps.length (flat ps) := ownsRow_below HP.out.1 hbw2;have hbk2 : Blk w2 w.heap.size 43 #[.int .i64 q.r.id.1, .int .i64 q.r.id.2, .int .i64 q.r.st, .int .i64 q.r.bl.1, .int .i64 q.r.bl.2, .int .i64 q.r.tk.1, .int .i64 q.r.tk.2, .int .i64 q.r.cm.kd, .int .i64 q.r.cm.cl, .int .i64 q.r.cm.sq, .string q.r.cm.ky, .string q.r.cm.vl, .int .i64 q.r.cm.rv, .slice q.V q.n q.c, .int .i64 q.r.at_.sq, .int .i64 q.r.at_.tg] ∧ Below w.heap.size w w2 ∧ w.heap.size + 1 ≤ w2.heap.size := ⟨HP.out.2.1.bel hbw2, HP.out.2.2.1.trans (hbw2.mono HP.out.2.2.1.size), Nat.le_trans HP.out.2.2.2 hbw2.size⟩
      have H2 := hid (And.intro hown2 hbk2);clear hbw2 hown2 hbk2;cases L with
      | true =>
        have HU := hid (show World.ownsRow w2.drew (w.heap.size + 1) 43 16 (.slice V (ps).length c2) (ps).length (flat (ps)) ∧ Blk w2.drew w.heap.size 43 #[.int .i64 q.r.id.1, .int .i64 q.r.id.2, .int .i64 q.r.st, .int .i64 q.r.bl.1, .int .i64 q.r.bl.2, .int .i64 q.r.tk.1, .int .i64 q.r.tk.2, .int .i64 q.r.cm.kd, .int .i64 q.r.cm.cl, .int .i64 q.r.cm.sq, .string q.r.cm.ky, .string q.r.cm.vl, .int .i64 q.r.cm.rv, .slice q.V q.n q.c, .int .i64 q.r.at_.sq, .int .i64 q.r.at_.tg] ∧ Below w.heap.size w w2.drew ∧ w.heap.size + 1 ≤ w2.drew.heap.size from ⟨H2.out.1, H2.out.2.1, (H2.out.2.2.1).drew, H2.out.2.2.2⟩);have hxr := range_belW HX.out.1 HX.out.2 HU.out.2.2.1;have HS9 := hid (show w2.drew.rangeAt g (o + k * 16) [.int .i64 x.r.id.1, .int .i64 x.r.id.2] ∧ w2.drew.rangeAt w.heap.size 0 [.int .i64 q.r.id.1, .int .i64 q.r.id.2] from ⟨range_ids hxr, range_ids (blk_range0 HU.out.2.1)⟩);have HXR := hid (show w2.drew.rangeAt g (o + k * 16) [.int .i64 x.r.id.1, .int .i64 x.r.id.2, .int .i64 x.r.st, .int .i64 x.r.bl.1, .int .i64 x.r.bl.2, .int .i64 x.r.tk.1, .int .i64 x.r.tk.2, .int .i64 x.r.cm.kd, .int .i64 x.r.cm.cl, .int .i64 x.r.cm.sq, .string x.r.cm.ky, .string x.r.cm.vl, .int .i64 x.r.cm.rv, .slice x.V x.n x.c, .int .i64 x.r.at_.sq, .int .i64 x.r.at_.tg] from hxr);have hlen : (ps).length ≤ k + (if false = true then 1 else 0) := hpk;have HLN := hid hlen;obtain ⟨V8, c8, U8, hrun, hown8, hb8⟩ := append_lit (ps := ps) x HU.out.1 HU.out.2.2.2 (by simp only [Bool.false_eq_true, if_false] at hlen; omega);have hnx := wi_next rfl HU.out.2.1 HU.out.2.2.1 HU.out.2.2.2 hb8;have HRUN := hid hrun;have H8 := hid (And.intro hown8 hnx);clear hxr hrun hown8 hb8 hnx hlen;go_upto_region 9 with fail
        refine wp_region_held_drew (S := (fun w' => w'.rangeAt g (o + k * 16) [.int .i64 x.r.id.1, .int .i64 x.r.id.2] ∧ w'.rangeAt w.heap.size 0 [.int .i64 q.r.id.1, .int .i64 q.r.id.2])) (by kernel_rfl) HS9.out (fun hHeld => ?_);refine hs_take 0 31 (.slice (some ⟨g, o, none⟩) n c) rfl rfl (by kernel_rfl) (fun _ _ _ h => h) (fun w hSw => by (obtain ⟨_, _⟩ := hSw); go_simp) hHeld ?_;try simp only [n0, n1, n2]
        refine hs_take 1 32 (.int .i64 (k : Int)) rfl rfl (by kernel_rfl) (fun _ _ _ h => h) (fun w hSw => by (obtain ⟨_, _⟩ := hSw); go_simp) hHeld ?_;try simp only [n0, n1, n2]
        refine hs_take 2 33 (.pointer (some ⟨g, o + k * 16, none⟩)) rfl rfl (by kernel_rfl) (fun _ _ _ h => h) (fun w hSw => by (obtain ⟨_, _⟩ := hSw); go_simp) hHeld ?_;try simp only [n0, n1, n2]
        refine hs_take 3 34 (.pointer (some ⟨g, o + k * 16, none⟩)) rfl rfl (by kernel_rfl) (fun _ _ _ h => h) (fun w hSw => by (obtain ⟨_, _⟩ := hSw); go_simp) hHeld ?_;try simp only [n0, n1, n2]
        refine hs_take 4 35 (.agg #[.int .i64 x.r.id.1, .int .i64 x.r.id.2]) rfl rfl (by kernel_rfl) (fun _ _ _ h => h) (run_midW 34 (.tmp 34) rfl g (o + k * 16) [.int .i64 x.r.id.1, .int .i64 x.r.id.2] _ rfl (fun _ h => h.1) Tryz.underlying34 rfl (by kernel_rfl)) hHeld ?_;try simp only [n0, n1, n2]
        refine hs_take 5 36 (.pointer (some ⟨w.heap.size, 0, none⟩)) rfl rfl (by kernel_rfl) (fun _ _ _ h => h) (fun w hSw => by (obtain ⟨_, _⟩ := hSw); go_simp) hHeld ?_;try simp only [n0, n1, n2]
        refine hs_take 6 37 (.agg #[.int .i64 q.r.id.1, .int .i64 q.r.id.2]) rfl rfl (by kernel_rfl) (fun _ _ _ h => h) (run_midW 34 (.tmp 36) rfl w.heap.size (0) [.int .i64 q.r.id.1, .int .i64 q.r.id.2] _ rfl (fun _ h => h.2) Tryz.underlying34 rfl (by kernel_rfl)) hHeld ?_;try simp only [n0, n1, n2]
        refine hs_take 7 38 (.bool (!N)) rfl rfl (by kernel_rfl) (fun _ _ _ h => h) (fun w _ => by (go_simp; rw [← HN.out]; by_cases e1 : x.r.id.1 = q.r.id.1 <;> by_cases e2 : x.r.id.2 = q.r.id.2 <;> simp [e1, e2, Prod.ext_iff])) hHeld ?_;try simp only [n0, n1, n2]
        refine wpAnyH_done (by kernel_rfl) ?_ _;skip;cases N with
        | true =>
          have hxq : ptId x = ptId q := of_decide_eq_true HN.out;exact absurd hxq (lt_ne HL.out)
        | false =>
          have hxq : ptId x ≠ ptId q := of_decide_eq_false HN.out;have HXQ := hid hxq;clear hxq;go_wp2_with (first | (with_reducible refine wpList_load_mid rfl 43 (.tmp 42) rfl g (o + k * 16) rfl _ _ HXR.out Tryz.underlying43 rfl (by kernel_rfl) ?_) | (at_builtin; refine wpList_append_w (.tmp 39) (.tmp 44) rfl rfl HRUN.out ?_))
          refine ⟨⟨k + 1, V8, c8, ps ++ [x], false, by omega, by simp, by simp [List.length_append], rfl, ?_, ?_, H8.out.1, H8.out.2.1, H8.out.2.2.1, H8.out.2.2.2⟩, by simp [intOf]; omega⟩
          · have h := HLN.out
            rw [List.length_append, List.length_singleton];omega
          · have h := HQ.out
            rw [rest_lt _ _ _ HL.out] at h;rw [List.append_assoc];exact h
      | false =>
        obtain ⟨VA, cA, UA, hrunA, hownA, hbA⟩ := append_lit (ps := ps) q H2.out.1 H2.out.2.2.2 (by simp only [Bool.false_eq_true, if_false] at hpk; omega);have hnxA := wi_next rfl H2.out.2.1 H2.out.2.2.1 H2.out.2.2.2 hbA;have HRUNA := hid hrunA;have HAP := hid (And.intro hownA hnxA);clear hrunA hownA hbA hnxA;go_upto_region 9 with (first | (with_reducible refine wpList_load_blk rfl 43 (.tmp 3) rfl w.heap.size 43 _ _ rfl H2.out.2.1 Tryz.underlying43 rfl (by kernel_rfl) ?_) | (at_builtin; refine wpList_append_w (.tmp 27) (.tmp 29) rfl rfl HRUNA.out ?_))
        have HQ2 := hid (show (ps ++ [q]) ++ restK ptId true q (x :: qs.drop (k + 1)) = withK ptId q qs from by have h := HQ.out; rw [rest_ge _ _ _ HL.out] at h; rw [List.append_assoc]; exact h);have HU := hid (show World.ownsRow UA.drew (w.heap.size + 1) 43 16 (.slice VA (ps ++ [q]).length cA) (ps ++ [q]).length (flat (ps ++ [q])) ∧ Blk UA.drew w.heap.size 43 #[.int .i64 q.r.id.1, .int .i64 q.r.id.2, .int .i64 q.r.st, .int .i64 q.r.bl.1, .int .i64 q.r.bl.2, .int .i64 q.r.tk.1, .int .i64 q.r.tk.2, .int .i64 q.r.cm.kd, .int .i64 q.r.cm.cl, .int .i64 q.r.cm.sq, .string q.r.cm.ky, .string q.r.cm.vl, .int .i64 q.r.cm.rv, .slice q.V q.n q.c, .int .i64 q.r.at_.sq, .int .i64 q.r.at_.tg] ∧ Below w.heap.size w UA.drew ∧ w.heap.size + 1 ≤ UA.drew.heap.size from ⟨HAP.out.1, HAP.out.2.1, (HAP.out.2.2.1).drew, HAP.out.2.2.2⟩);have hxr := range_belW HX.out.1 HX.out.2 HU.out.2.2.1;have HS9 := hid (show UA.drew.rangeAt g (o + k * 16) [.int .i64 x.r.id.1, .int .i64 x.r.id.2] ∧ UA.drew.rangeAt w.heap.size 0 [.int .i64 q.r.id.1, .int .i64 q.r.id.2] from ⟨range_ids hxr, range_ids (blk_range0 HU.out.2.1)⟩);have HXR := hid (show UA.drew.rangeAt g (o + k * 16) [.int .i64 x.r.id.1, .int .i64 x.r.id.2, .int .i64 x.r.st, .int .i64 x.r.bl.1, .int .i64 x.r.bl.2, .int .i64 x.r.tk.1, .int .i64 x.r.tk.2, .int .i64 x.r.cm.kd, .int .i64 x.r.cm.cl, .int .i64 x.r.cm.sq, .string x.r.cm.ky, .string x.r.cm.vl, .int .i64 x.r.cm.rv, .slice x.V x.n x.c, .int .i64 x.r.at_.sq, .int .i64 x.r.at_.tg] from hxr);have hlen : (ps ++ [q]).length ≤ k + (if true = true then 1 else 0) := (by rw [List.length_append, List.length_singleton]; simp only [Bool.false_eq_true, if_false] at hpk; simp only [if_true]; omega)
        have HLN := hid hlen;obtain ⟨V8, c8, U8, hrun, hown8, hb8⟩ := append_lit (ps := ps ++ [q]) x HU.out.1 HU.out.2.2.2 (by simp only [if_true] at hlen; omega);have hnx := wi_next rfl HU.out.2.1 HU.out.2.2.1 HU.out.2.2.2 hb8;have HRUN := hid hrun;have H8 := hid (And.intro hown8 hnx);have hpl : (ps ++ [q]).length = ps.length + 1 := (by simp);rw [hpl] at HRUN;clear hxr hrun hown8 hb8 hnx hlen;refine wp_region_held_drew (S := (fun w' => w'.rangeAt g (o + k * 16) [.int .i64 x.r.id.1, .int .i64 x.r.id.2] ∧ w'.rangeAt w.heap.size 0 [.int .i64 q.r.id.1, .int .i64 q.r.id.2])) (by kernel_rfl) HS9.out (fun hHeld => ?_);refine hs_take 0 31 (.slice (some ⟨g, o, none⟩) n c) rfl rfl (by kernel_rfl) (fun _ _ _ h => h) (fun w hSw => by (obtain ⟨_, _⟩ := hSw); go_simp) hHeld ?_;try simp only [n0, n1, n2]
        refine hs_take 1 32 (.int .i64 (k : Int)) rfl rfl (by kernel_rfl) (fun _ _ _ h => h) (fun w hSw => by (obtain ⟨_, _⟩ := hSw); go_simp) hHeld ?_;try simp only [n0, n1, n2]
        refine hs_take 2 33 (.pointer (some ⟨g, o + k * 16, none⟩)) rfl rfl (by kernel_rfl) (fun _ _ _ h => h) (fun w hSw => by (obtain ⟨_, _⟩ := hSw); go_simp) hHeld ?_;try simp only [n0, n1, n2]
        refine hs_take 3 34 (.pointer (some ⟨g, o + k * 16, none⟩)) rfl rfl (by kernel_rfl) (fun _ _ _ h => h) (fun w hSw => by (obtain ⟨_, _⟩ := hSw); go_simp) hHeld ?_;try simp only [n0, n1, n2]
        refine hs_take 4 35 (.agg #[.int .i64 x.r.id.1, .int .i64 x.r.id.2]) rfl rfl (by kernel_rfl) (fun _ _ _ h => h) (run_midW 34 (.tmp 34) rfl g (o + k * 16) [.int .i64 x.r.id.1, .int .i64 x.r.id.2] _ rfl (fun _ h => h.1) Tryz.underlying34 rfl (by kernel_rfl)) hHeld ?_;try simp only [n0, n1, n2]
        refine hs_take 5 36 (.pointer (some ⟨w.heap.size, 0, none⟩)) rfl rfl (by kernel_rfl) (fun _ _ _ h => h) (fun w hSw => by (obtain ⟨_, _⟩ := hSw); go_simp) hHeld ?_;try simp only [n0, n1, n2]
        refine hs_take 6 37 (.agg #[.int .i64 q.r.id.1, .int .i64 q.r.id.2]) rfl rfl (by kernel_rfl) (fun _ _ _ h => h) (run_midW 34 (.tmp 36) rfl w.heap.size (0) [.int .i64 q.r.id.1, .int .i64 q.r.id.2] _ rfl (fun _ h => h.2) Tryz.underlying34 rfl (by kernel_rfl)) hHeld ?_;try simp only [n0, n1, n2]
        refine hs_take 7 38 (.bool (!N)) rfl rfl (by kernel_rfl) (fun _ _ _ h => h) (fun w _ => by (go_simp; rw [← HN.out]; by_cases e1 : x.r.id.1 = q.r.id.1 <;> by_cases e2 : x.r.id.2 = q.r.id.2 <;> simp [e1, e2, Prod.ext_iff])) hHeld ?_;try simp only [n0, n1, n2]
        refine wpAnyH_done (by kernel_rfl) ?_ _;skip;cases N with
        | true =>
          have hxq : ptId x = ptId q := of_decide_eq_true HN.out;have HXQ := hid hxq;clear hxq;go_wp2_with fail
          refine ⟨⟨k + 1, VA, cA, ps ++ [q], true, by omega, by simp, by rw [List.length_append]; rfl, rfl, ?_, ?_, HU.out.1, HU.out.2.1, HU.out.2.2.1, HU.out.2.2.2⟩, by simp [intOf]; omega⟩
          · have h := HLN.out
            simp only [if_true] at h ⊢;omega
          · have h := HQ2.out
            rw [rest_true, if_pos HXQ.out, List.nil_append] at h;exact h
        | false =>
          have hxq : ptId x ≠ ptId q := of_decide_eq_false HN.out;have HXQ := hid hxq;clear hxq;go_wp2_with (first | (with_reducible refine wpList_load_mid rfl 43 (.tmp 42) rfl g (o + k * 16) rfl _ _ HXR.out Tryz.underlying43 rfl (by kernel_rfl) ?_) | (at_builtin; refine wpList_append_w (.tmp 39) (.tmp 44) rfl rfl HRUN.out ?_))
          refine ⟨⟨k + 1, V8, c8, ps ++ [q] ++ [x], true, by omega, by simp, by simp [List.length_append], rfl, ?_, ?_, H8.out.1, H8.out.2.1, H8.out.2.2.1, H8.out.2.2.2⟩, by simp [intOf]; omega⟩
          · have h := HLN.out
            rw [List.length_append, List.length_singleton];omega
          · have h := HQ2.out
            rw [rest_true, if_neg HXQ.out, ← List.append_assoc] at h;exact h
  · obtain rfl : k = n := by omega
    have hdr : qs.drop k = [] := List.drop_of_length_le (by rw [HA.out.1.len]; exact Nat.le_refl _);rw [hdr, rest_nil] at heq;have HP := hid (And.intro hown (And.intro hbk (And.intro hbel hsz)));have HQ := hid heq
    have dep : ∀ U : World, Below w.heap.size w U → ∀ y ∈ withK ptId q qs, Dep U y := fun U hb y hy => by
     rcases (mem_withK ptId q y qs).1 hy with rfl | h
     · exact Rs.below HA.out.2 hb
     · exact Rs.below (HA.out.1.dep y h.1) hb
    have HD := hid dep;clear hown hbk hbel hsz heq hdr dep;cases b with
    | true =>
      go_wp2_with fail
      go_ret;have he : ps = withK ptId q qs := (by simpa using HQ.out);rw [← he];exact ⟨V, _, c2, rfl, Recs.own HP.out.1 (by rw [he]; exact HD.out _ HP.out.2.2.1), fun g o e => by have := (HP.out.1.lt g (by rw [e]; rfl)).1; omega, HP.out.2.2.1⟩
    | false =>
      have hpk2 : ps.length ≤ 1000 := (by simp only [Bool.false_eq_true, if_false] at hpk; omega);obtain ⟨V8, c8, U8, hrun, hown8, hb8⟩ := append_lit q HP.out.1 HP.out.2.2.2 (by omega);have hnx := wi_next rfl HP.out.2.1 HP.out.2.2.1 HP.out.2.2.2 hb8;have HRUN := hid hrun;have H8 := hid (And.intro hown8 hnx);clear hrun hown8 hb8 hnx;go_wp2_with (first | (with_reducible refine wpList_load_blk rfl 43 (.tmp 3) rfl w.heap.size 43 _ _ rfl HP.out.2.1 Tryz.underlying43 rfl (by kernel_rfl) ?_) | (at_builtin; refine wpList_append_w (.tmp 48) (.tmp 50) rfl rfl HRUN.out ?_))
      go_ret;have he : ps ++ [q] = withK ptId q qs := (by simpa using HQ.out);have ho := H8.out.1;rw [he] at ho;have hl : ps.length + 1 = (withK ptId q qs).length := (by rw [← he]; simp);rw [hl];exact ⟨V8, _, c8, rfl, Recs.own ho (HD.out _ H8.out.2.2.1), fun g o e => by have := (ho.lt g (by rw [e]; rfl)).1; omega, H8.out.2.2.1⟩
end Go.Proofs.YtkejjdoaljoooaaGreatDoor.Sc
/- What SchemaKeeps keeps from round to round: a store on a disk, what was put in it, and what may stand there besides. -/
namespace Go.Proofs.YtkejjdoaljoooaaGreatDoor.Sc
open Lib (hid)
open Go.RowKit Mem Dsk Lg Rk
def HDown (I : Held) : Prop := ∀ (p : Nat) (S : Nat → Prop) (d : Dk) (w : World), I w S p d → Calls Tryz.prog 10 #[Dsk.ptr p] w (fun e w' => e = .returned (.bool d.dn) ∧ Stays I p S d w w')
def Kst (I : Held) (w0 : World) (p s v : Nat) (og : Option Nat) (d : Dk) (V1 : Option Addr) (n1 c1 : Nat) (rs : List Pt) (V2 : Option Addr) (n2 c2 : Nat) (ms : List Pt) (w : World) : Prop :=
 ∃ S, I w S p d ∧ FSt s v p og w S ∧ FA w0 w (Plus S s) ∧ FRecs V1 n1 c1 rs w (Plus S s) ∧ FRecs V2 n2 c2 ms w (Plus S s)
section
variable {I : Held} {w0 w w' : World} {p s v : Nat} {og : Option Nat} {d d' : Dk} {V1 : Option Addr} {n1 c1 : Nat} {rs : List Pt} {V2 : Option Addr} {n2 c2 : Nat} {ms : List Pt} {S S' : Nat → Prop}
theorem Kst.go (hI : I w' S' p d') (hst : FSt s v p og w S) (hfa : FA w0 w (Plus S s)) (h1 : FRecs V1 n1 c1 rs w (Plus S s)) (h2 : FRecs V2 n2 c2 ms w (Plus S s)) (hg : Dsk.Grew S S' w) (hk : Keeps S w w') : Kst I w0 p s v og d' V1 n1 c1 rs V2 n2 c2 ms w' :=
 ⟨S', hI, (frame_st s v p og).go hst hk hg, (frame_a w0).go hfa (plus_keeps hk) (plus_grew hg), (frame_recs V1 n1 c1 rs).go h1 (plus_keeps hk) (plus_grew hg), (frame_recs V2 n2 c2 ms).go h2 (plus_keeps hk) (plus_grew hg)⟩
theorem Kst.put {og' : Option Nat} (hI : I w' S' p d') (hst : FSt s v p og' w' S') (hfa : FA w0 w (Plus S s)) (h1 : FRecs V1 n1 c1 rs w (Plus S s)) (hg : Dsk.Grew S S' w) (hk : Keeps (Plus S s) w w') : Kst I w0 p s v og' d' V1 n1 c1 rs V1 n1 c1 rs w' :=
 ⟨S', hI, hst, (frame_a w0).go hfa hk (plus_grew hg), (frame_recs V1 n1 c1 rs).go h1 hk (plus_grew hg), (frame_recs V1 n1 c1 rs).go h1 hk (plus_grew hg)⟩
theorem Kst.bel (hH : Has2 I) (h : Kst I w0 p s v og d V1 n1 c1 rs V2 n2 c2 ms w) (hb : Below w.heap.size w w') : Kst I w0 p s v og d V1 n1 c1 rs V2 n2 c2 ms w' := by
 obtain ⟨S, hI, hst, hfa, h1, h2⟩ := h;exact Kst.go (have_bel hH hI hb) hst hfa h1 h2 (Dsk.Grew.refl S w) (Keeps.ofBelow hb)
theorem frecs_with {V : Option Addr} {k c : Nat} {q : Pt} {B : Nat} (hR : Recs w V k c (withK ptId q rs)) (hn : ∀ g o, V = some ⟨g, o, none⟩ → B ≤ g) (hS : ∀ k, S k → k < B) (hq : FDep q w S) (hrs : ∀ y ∈ rs, FDep y w S) : FRecs V k c (withK ptId q rs) w S :=
 ⟨hR, fun _ g o e hs => (by have := hn g o e; have := hS _ hs; omega), fun y hy => by
  rcases (mem_withK ptId q y rs).1 hy with rfl | h
  · exact hq
  · exact hrs y h.1⟩
theorem with_held {puts : List Rc} {q : Pt} (h : rs.map (·.r) = heldK Rc.id puts) : (withK ptId q rs).map (·.r) = heldK Rc.id (puts ++ [q.r]) := by
 rw [heldK_snoc, ← h];exact withK_map Rc.id (fun q : Pt => q.r) q rs
theorem Kst.with_ (hH : Has2 I) {V : Option Addr} {k c : Nat} {q : Pt} (h : Kst I w0 p s v og d V1 n1 c1 rs V2 n2 c2 ms w) (hb : Below w.heap.size w w') (hR : Recs w' V k c (withK ptId q rs)) (hn : ∀ g o, V = some ⟨g, o, none⟩ → w.heap.size ≤ g) (hq : Ids.Rs w0 q.V q.n q.c q.r.at_.dp) :
 Kst I w0 p s v og d V k c (withK ptId q rs) V k c (withK ptId q rs) w' ∧ Kst I w0 p s v og d V1 n1 c1 rs V k c (withK ptId q rs) w' := by
 have h' := h.bel hH hb;obtain ⟨S, hI, hst, hfa, h1, h2⟩ := h;obtain ⟨S', hI', hst', hfa', h1', h2'⟩ := Kst.go (V1 := V1) (n1 := n1) (c1 := c1) (rs := rs) (V2 := V1) (n2 := n1) (c2 := c1) (ms := rs) (have_bel hH hI hb) hst hfa h1 h1 (Dsk.Grew.refl S w) (Keeps.ofBelow hb)
 have hlow : ∀ k, Plus S s k → k < w.heap.size := fun k hk => by
  rcases hk with hk | hk
  · exact hH.low hI _ hk
  · rw [hk]; exact hst.1.lt
 have hfa2 : FA w0 w' (Plus S s) := (frame_a w0).go hfa (Keeps.ofBelow hb) (Dsk.Grew.refl _ w);have hst2 := (frame_st s v p og).go hst (Keeps.ofBelow hb) (Dsk.Grew.refl S w);have h12 := (frame_recs V1 n1 c1 rs).go h1 (Keeps.ofBelow hb) (Dsk.Grew.refl _ w);have hW : FRecs V k c (withK ptId q rs) w' (Plus S s) := frecs_with hR hn hlow (frs_arg hq hfa2.1.1 hfa2.1.2) h12.dep;exact ⟨⟨S, have_bel hH hI hb, hst2, hfa2, hW, hW⟩, ⟨S, have_bel hH hI hb, hst2, hfa2, h12, hW⟩⟩
end
structure Kpl (v : Nat) (puts : List Rc) (oq : Option Rc) (T : List Nat) (kk : Int) (dn : Bool) (og : Option Nat) (g : Nat) (rs ms : List Pt) (k : Nat) : Prop where
 good : ∀ x ∈ puts, Good v x
 rs_ : rs.map (·.r) = heldK Rc.id puts
 cnt : puts.length ≤ k
 tail : T = [] ∨ ∃ x, oq = some x ∧ T = form (lay v x)
 next : ∀ x, oq = some x → Good v x ∧ ms.map (·.r) = heldK Rc.id (puts ++ [x])
 up : dn = false → T = [] ∧ og = some g
 fuse : 0 ≤ kk ∧ kk ≤ 30
 room : (((forms (stored v puts)).length + T.length : Nat) : Int) ≤ 1048576
theorem Kpl.fine {v : Nat} {puts : List Rc} {oq : Option Rc} {T : List Nat} {kk : Int} {dn : Bool} {og : Option Nat} {g : Nat} {rs ms : List Pt} {k : Nat} (h : Kpl v puts oq T kk dn og g rs ms k) : Dsk.Fine (sd 1048576 true (forms (stored v puts)) T kk dn) :=
 fine_sd (fun h => by cases h) (by omega) (by omega) h.room (by have := h.fuse; omega)
theorem put_codes (v : Nat) (r : Rc) : (put v r).2 = 0 ∨ (put v r).2 = 4 ∨ (put v r).2 = 17 := by
 unfold put;split
 · unfold recOld
   split
   · split
     · exact .inr (.inr rfl)
     · exact .inl rfl
   · exact .inr (.inl rfl)
 · unfold rchk
   split
   · exact .inl rfl
   · exact .inr (.inl rfl)
theorem put_seven {r : Int} {A p : List Nat} {k : Int} (h : (putD p (sd r true A [] k false)).1 = 7) : (whole (doAppend nlog (form p)) (sd r true A [] k false)).1 ≠ 0 := by
 intro h0;by_cases hk : k = 0
 · subst hk
   rw [fail_sd] at h0;cases h0
 · have e := add_sd (r := r) (ex := true) (A := A) (T := []) (k := k) (fun h => by cases h) hk (form p)
   split at e
   · rw [e] at h0
     cases h0
   · unfold putD at h
     rw [if_neg (by rw [h0]; simp), e] at h;have h2 := sync_code (r := r) (A := A) (T := [] ++ form p) (k := burn k);have h3 : (if burn k = 0 then 15 else 0) = 7 := h2.symm.trans h;split at h3 <;> cases h3
theorem put_room {v : Nat} {puts : List Rc} {x : Rc} (h : ¬ ((1048576 : Int) < ((forms (stored v puts)).length : Int) + ((form (lay v x)).length : Int))) : (((forms (stored v (puts ++ [x]))).length + ([] : List Nat).length : Nat) : Int) ≤ 1048576 := by
 rw [stored_snoc, List.length_append, List.length_nil];omega
theorem kpl_boot {v : Nat} (hv : v = 1 ∨ v = 2) {puts : List Rc} {oq : Option Rc} {T : List Nat} {kk : Int} {dn : Bool} {og : Option Nat} {g : Nat} {rs ms : List Pt} {k : Nat} (h : Kpl v puts oq T kk dn og g rs ms k) (keep : Int) :
 ∃ d1 d2 c l rr ps, Dsk.boot [keep] (sd 1048576 true (forms (stored v puts)) T kk dn) = d1 ∧ Rdb d1 d2 c l rr ∧ readOf v l = (heldK Rc.id ps, 0) ∧ openR v l d1 d2 = (0, d2) ∧ (heldK Rc.id ps = rs.map (·.r) ∨ heldK Rc.id ps = ms.map (·.r)) := by
 obtain ⟨d1, c, l, rr, d2, hb, hf, hrd, hlt, hlen, hR, hl, h0, h1⟩ := boot_reads (r := 1048576) (ls := stored v puts) (T := T) (q := oq.map (lay v)) (k := kk) (dn := dn) keep (by omega) (by omega) (stored_ok hv h.good)
  (fun p hp => by
   cases oq with
   | none => cases hp
   | some x =>
     injection hp with hp;have hg := (h.next x rfl).1;have := lay_len hg;rw [← hp];exact ⟨by omega, lay_lt hg⟩)
  (by
   rcases h.tail with h' | ⟨x, rfl, h'⟩
   · exact .inl h'
   · exact .inr ⟨lay v x, rfl, h'⟩) h.room
 obtain ⟨ps, hps, hgood, hx⟩ : ∃ ps, l = stored v ps ∧ (∀ x ∈ ps, Good v x) ∧ (ps = puts ∨ ∃ x, oq = some x ∧ ps = puts ++ [x]) := by
  rcases hl with rfl | ⟨p, hp, rfl⟩
  · exact ⟨puts, rfl, h.good, .inl rfl⟩
  · cases oq with
    | none => cases hp
    | some x =>
      injection hp with hp;refine ⟨puts ++ [x], ?_, fun y hy => ?_, .inr ⟨x, rfl, rfl⟩⟩
      · unfold stored
        rw [List.map_append, ← hp];rfl
      · rcases List.mem_append.1 hy with hy | hy
        · exact h.good y hy
        · rw [List.mem_singleton.1 hy]
          exact (h.next x rfl).1
 subst hps
 have hcl : (stored v ps).length ≤ c.length := by
  have h2 := count_forms (stored v ps);have h3 := congrArg List.length hR.eq;rw [List.length_append] at h3;omega
 obtain ⟨j, hsd⟩ := boot_sd 1048576 (forms (stored v puts)) T kk keep dn;rw [hb] at hsd
 have hcA : forms (stored v puts) ++ T.take j = c := by
  have h3 := read_sd (r := 1048576) (ex := true) (A := forms (stored v puts) ++ T.take j) (k := -1) (fun h => by cases h);rw [← hsd, hrd] at h3;injection h3 with h3;exact h3.symm
 rw [hcA] at hsd
 have hcm : c.length ≤ 1048576 := by
  have h4 := h.room;rw [← hcA, List.length_append, List.length_take];omega
 have hfc : (forms (stored v ps)).length ≤ c.length := by
  have h3 := congrArg List.length hR.eq;rw [List.length_append] at h3;omega
 have hf2 : Dsk.Fine d2 := by
  by_cases hr : rr = []
  · rw [h0 hr]; exact hf
  · have h2 := h1 hr
    rw [hsd, cut_sd hfc] at h2;injection h2 with _ h2;rw [← h2];exact fine_sd (fun h => by cases h) (by omega) (by omega) (by rw [List.length_nil, Nat.add_zero, List.length_take]; omega) (by decide)
 refine ⟨d1, d2, c, stored v ps, rr, ps, hb, ⟨.inl hrd, hlt, hlen, hR, le_stored hgood, by omega, h0, h1, hf, hf2⟩, read_stored hv hgood, open_old hv hgood d1 d2, ?_⟩;rcases hx with rfl | ⟨x, hx, rfl⟩
 · exact .inl h.rs_.symm
 · exact .inr (h.next x hx).2.symm
end Go.Proofs.YtkejjdoaljoooaaGreatDoor.Sc
