/-
  Texts of earlier layers, as one.
-/
import Derived.Test.YtkejjdoaljoooaaGreatDoorSchA
/- The example's record; what is read of a store; plain mathematics but for the program's types. -/
namespace Go.Proofs.YtkejjdoaljoooaaGreatDoor.Sc
open Lib (hid)
open Go.RowKit Mem Dsk Lg Rk
def exR : Rc := { zeroRc with id := (1, 1), bl := (2, 0) }
def exQ : Pt := ⟨exR, none, 0, 0⟩
theorem fit_num (v : Int) (h : v ≤ 1000) : Cod.Fit (Cmd.numIt v) := by
 rw [Cod.fit_eq];refine ⟨?_, (show (0 : Nat) < 2 ^ 63 by decide), (show (0 : Nat) < 2 ^ 63 by decide), fun _ h => by cases h⟩;show v.toNat < 2 ^ 64;omega
theorem fit_two {a b : Cod.It} (ha : Cod.Fit a) (hb : Cod.Fit b) : Cod.Fit (.mk 2 0 ByteArray.empty [a, b]) := by
 rw [Cod.fit_eq];refine ⟨(show (0 : Nat) < 2 ^ 64 by decide), (show (0 : Nat) < 2 ^ 63 by decide), (show (2 : Nat) < 2 ^ 63 by decide), fun y hy => ?_⟩;have hy : y ∈ [a, b] := hy;simp only [List.mem_cons, List.not_mem_nil, or_false] at hy;rcases hy with rfl | rfl
 · exact ha
 · exact hb
theorem ex_rgt : rgt exR = true := by decide
theorem ex_put (v : Nat) : put v exR = (laidIt exR (Att.attIt exR.at_), 0) := by
 unfold put;split
 · unfold recOld
   rw [if_pos ex_rgt, if_neg (by decide)];rfl
 · unfold recItem rchk
   rw [if_pos ex_rgt, if_pos ex_rgt];rfl
theorem ex_fronts : laidIt exR (Att.attIt exR.at_) = .mk 2 0 ByteArray.empty [Cmd.numIt 1, Cmd.numIt 1, Cmd.numIt 0, Bal.balIt (2, 0), Bal.balIt (0, 0)] := rfl
theorem ex_good (v : Nat) : Good v exR := by
 refine ⟨by rw [ex_put], ?_⟩;rw [ex_put, ex_fronts, Cod.fit_eq];refine ⟨by decide, by decide, by decide, fun y hy => ?_⟩;have hy : y ∈ [Cmd.numIt 1, Cmd.numIt 1, Cmd.numIt 0, Bal.balIt (2, 0), Bal.balIt (0, 0)] := hy;simp only [List.mem_cons, List.not_mem_nil, or_false] at hy;rcases hy with rfl | rfl | rfl | rfl | rfl
 · exact fit_num _ (by omega)
 · exact fit_num _ (by omega)
 · exact fit_num _ (by omega)
 · exact fit_two (fit_num _ (by omega)) (fit_num _ (by omega))
 · exact fit_two (fit_num _ (by omega)) (fit_num _ (by omega))
theorem ex_len (v : Nat) : (lay v exR).length ≤ 100 := by
 have h := Cod.length_form_le (put v exR).1 (ex_good v).fit
 have e : Cod.wt (put v exR).1 = 10 := by
  rw [ex_put, ex_fronts];simp [Cod.wt, Cod.wts, Cmd.numIt, Bal.balIt]
 rw [e] at h;exact h
theorem form_short {p : List Nat} (h : p.length ≤ 100) : (form p).length ≤ 113 := by
 have := Num.size_le p.length (by omega);rw [length_form];omega
theorem hdr_len (v : Nat) : (hdr v).length = 15 := rfl
theorem hdr_form (v : Nat) : (form (hdr v)).length ≤ 28 := by
 have := Num.size_le (hdr v).length (by rw [hdr_len]; decide);rw [length_form, hdr_len] at *;omega
theorem forms_ex (v : Nat) : (forms (stored v [exR])).length ≤ 141 := by
 have h0 : forms (stored v [exR]) = form (hdr v) ++ form (lay v exR) := by simp [forms, stored]
 have h1 := hdr_form v;have h2 := form_short (ex_len v);rw [h0, List.length_append];omega
theorem forms_one (v : Nat) : forms [hdr v] = form (hdr v) := by simp [forms]
theorem stored_snoc (v : Nat) (rs : List Rc) (r : Rc) : forms (stored v (rs ++ [r])) = forms (stored v rs) ++ form (lay v r) := by
 unfold stored;rw [List.map_append, ← List.cons_append, forms_append];simp [forms]
theorem count_forms (l : List (List Nat)) : l.length ≤ (forms l).length := by
 induction l with
 | nil => exact Nat.le_refl _
 | cons p t ih =>
   have h : forms (p :: t) = form p ++ forms t := (by simp [forms]);have h2 := length_form p;rw [h, List.length_append, List.length_cons];omega
theorem le_stored {v : Nat} {rs : List Rc} (hg : ∀ r ∈ rs, Good v r) : ∀ b ∈ stored v rs, b.length ≤ 1000000 := by
 intro p hp;rcases List.mem_cons.1 hp with rfl | hp
 · rw [hdr_len]; decide
 · obtain ⟨r, hr, rfl⟩ := List.mem_map.1 hp
   exact lay_len (hg r hr)
theorem rdb_stored {v : Nat} (hv : v = 1 ∨ v = 2) {rs : List Rc} (hg : ∀ r ∈ rs, Good v r) {r : Int} (h0 : 0 ≤ r) (hr : r ≤ 1000000000) (hl : ((forms (stored v rs)).length : Int) ≤ r) :
 Rdb (sd r true (forms (stored v rs)) [] (-1) false) (sd r true (forms (stored v rs)) [] (-1) false) (forms (stored v rs)) (stored v rs) [] := by
 have hok := stored_ok hv hg;have hf : Dsk.Fine (sd r true (forms (stored v rs)) [] (-1) false) := fine_sd (fun h => by cases h) h0 (by omega) (by rw [List.length_nil, Nat.add_zero]; exact hl) (by decide);refine ⟨.inl (read_sd (fun h => by cases h)), hok.lt, by omega, reads_forms hok, le_stored hg, ?_, fun _ => rfl, fun h => absurd rfl h, hf, hf⟩;have := count_forms (stored v rs);omega
theorem rdb_none {r : Int} (h0 : 0 ≤ r) (hr : r ≤ 1000000000) : Rdb (sd r false [] [] (-1) false) (sd r false [] [] (-1) false) [] [] [] := by
 have hf : Dsk.Fine (sd r false [] [] (-1) false) := fine_sd (fun _ => ⟨rfl, rfl⟩) h0 (by omega) (by show ((0 : Nat) : Int) ≤ r; omega) (by decide);have hrd : Reads (forms []) [] [] := reads_forms (l := []) fun p h => by cases h
 exact ⟨.inr (read_sd (fun _ => rfl)), fun _ h => (by cases h), (by decide), hrd, fun _ h => (by cases h), (by decide), fun _ => rfl, fun h => absurd rfl h, hf, hf⟩
theorem open_new {v : Nat} (r : Int) : openR v [] (sd r false [] [] (-1) false) (sd r false [] [] (-1) false) = if r < ((form (hdr v)).length : Int) then (7, sd r false [] [] (-1) false) else (0, sd r true (forms (stored v [])) [] (-1) false) := by
 unfold openR beginR;rw [read_none, if_neg (by simp), if_pos rfl, put_up (fun _ => rfl)];simp only [List.length_nil, List.nil_append, stored, List.map_nil, forms_one];rw [show ((0 : Nat) : Int) + ((form (hdr v)).length : Int) = ((form (hdr v)).length : Int) by omega]
theorem open_old {v : Nat} (hv : v = 1 ∨ v = 2) {rs : List Rc} (hg : ∀ r ∈ rs, Good v r) (d d2 : Dk) : openR v (stored v rs) d d2 = (0, d2) := by
 unfold openR beginR;rw [read_stored hv hg, if_neg (by simp), if_neg (by simp [stored])]
theorem ex_puts : putD (lay 1 exR) (sd 1000 true (forms (stored 1 [])) [] (-1) false) = (0, sd 1000 true (forms (stored 1 [exR])) [] (-1) false) := by
 rw [put_up (fun h => by cases h)];have h1 := forms_ex 1;have h2 := stored_snoc 1 [] exR;rw [List.nil_append] at h2;rw [h2, List.length_append] at h1;rw [if_neg (by omega), h2]
theorem ex_writes : writes (forms (stored 2 [exR])) (sd 1000 true (forms (stored 1 [exR])) [] (-1) false) = (0, sd 1000 true (forms (stored 2 [exR])) [] (-1) false) :=
 writes_sd (by have := forms_ex 1; have := forms_ex 2; omega)
def FBlk (b : Nat) (t : TypeId) (vs : Array Value) (w : World) (S : Nat → Prop) : Prop := Blk w b t vs ∧ ¬ S b
theorem frame_blk (b : Nat) (t : TypeId) (vs : Array Value) : Dsk.Frame (FBlk b t vs) := by
 refine ⟨fun {w w' S S'} h hk hg => ⟨(hk.block b h.1.lt h.2).trans h.1, fun hs => ?_⟩⟩;rcases hg _ hs with h' | h'
 · exact h.2 h'
 · exact absurd h.1.lt (by omega)
theorem ftab_new {w w' : World} {S : Nat → Prop} (ht : Cr.Tab w) (hb : Below w.heap.size w w') (hS : ∀ k, S k → w.heap.size ≤ k) : FTab w' S :=
 ⟨ht.below hb, fun hs => by have h1 := World.block_lt_of_cell? _ _ (ht 0 (by decide)); have h2 := hS _ hs; simp only at h1; omega⟩
theorem ftab_sub {w : World} {S : Nat → Prop} {s : Nat} (h : FTab w (Plus S s)) : FTab w S := ⟨h.1, fun hs => h.2 (.inl hs)⟩
end Go.Proofs.YtkejjdoaljoooaaGreatDoor.Sc
/- The document's SameRecs: records that are the same. -/
namespace Go.Proofs.YtkejjdoaljoooaaGreatDoor.Sc
open Lib (hid)
open Go.RowKit Mem Ids Rk
theorem range_belS {w w' : World} {g o : Nat} {cs : List Value} (h : w.rangeAt g o cs) (hg : g < w.heap.size) (hb : Below w.heap.size w w') : w'.rangeAt g o cs := fun j v hv => (hb.cell (p := ⟨g, o + j, none⟩) hg).trans (h j v hv)
theorem run_midS {P : Program} {oi : Oper} {a : Act} {S : World → Prop} (ty : TypeId) (x : Operand) (ho : oi.op = .load ty x) (g o : Nat) (cs : List Value) (d : TypeDesc) (hx : a.eval x = .pointer (some ⟨g, o, none⟩)) (hS : ∀ w, S w → w.rangeAt g o cs) (hu : P.underlying ty = some d) (hd : d.isRow = true) (hi : (P.info? ty).map (·.size) = some cs.length) :
 ∀ w, S w → (execOp a.eval oi).run P w = .ok (.value (.agg cs.toArray)) w := fun w hw => by
 unfold execOp;simp only [ho, hx, Instr.loadAt, Instr.sureAddr, Sem.run_bind, Sem.run_pure, Result.andThen_ok, run_loadVar_mid w g o ty cs d (hS w hw) hu hd hi]
def SmRel (w : World) (n : Nat) (i : Value) (wr : World) : Prop := ∃ k : Nat, k ≤ n ∧ i = .int .i64 (k : Int) ∧ Below w.heap.size w wr
set_option maxRecDepth 20000 in
set_option maxHeartbeats 4000000 in
theorem samerecs_any (A : Option Addr) (n c : Nat) (qs : List Pt) (B : Option Addr) (m c2 : Nat) (ps : List Pt) (w : World) (hA : Recs w A n c qs) (hB : Recs w B m c2 ps) :
 Calls Tryz.prog 14 #[.slice A n c, .slice B m c2] w (fun e w' => ∃ t, e = .returned (.bool t) ∧ (qs.map (·.r) = ps.map (·.r) → t = true) ∧ Below w.heap.size w w') := by
 have HA := hid hA;have HB := hid hB;have l1 := hA.le;have l2 := hA.cap;have l3 := hB.le;have l4 := hB.cap;unfold maxLen at l2 l4;have L1 := hid hA.len;have L2 := hid hB.len;clear hA hB;go_enter Tryz.func14, Tryz.ntmps14
 by_cases hnm : n = m
 · subst hnm
   have z0 : ((n : Int) != (n : Int)) = false := (by simp);go_wp2_with fail
   go_loopw [5] (SmRel w n) (fun i _ => n - (intOf i).toNat)
   case atStart => exact ⟨0, Nat.zero_le _, rfl, Below.refl _ _⟩
   case round =>
    obtain ⟨k, hk, rfl, hbel⟩ := hrel;by_cases hlt : k < n
    · obtain ⟨g, o, q, rfl, hgl, hq, hra, hdep⟩ := (HA.out.below hbel).at_ hlt
      obtain ⟨g2, o2, p, rfl, hgl2, hp, hrb, hdep2⟩ := (HB.out.below hbel).at_ hlt;have hsm : Calls Tryz.prog 28 #[.agg #[.int .i64 q.r.id.1, .int .i64 q.r.id.2, .int .i64 q.r.st, .int .i64 q.r.bl.1, .int .i64 q.r.bl.2, .int .i64 q.r.tk.1, .int .i64 q.r.tk.2, .int .i64 q.r.cm.kd, .int .i64 q.r.cm.cl, .int .i64 q.r.cm.sq, .string q.r.cm.ky, .string q.r.cm.vl, .int .i64 q.r.cm.rv, .slice q.V q.n q.c, .int .i64 q.r.at_.sq, .int .i64 q.r.at_.tg], .agg #[.int .i64 p.r.id.1, .int .i64 p.r.id.2, .int .i64 p.r.st, .int .i64 p.r.bl.1, .int .i64 p.r.bl.2, .int .i64 p.r.tk.1, .int .i64 p.r.tk.2, .int .i64 p.r.cm.kd, .int .i64 p.r.cm.cl, .int .i64 p.r.cm.sq, .string p.r.cm.ky, .string p.r.cm.vl, .int .i64 p.r.cm.rv, .slice p.V p.n p.c, .int .i64 p.r.at_.sq, .int .i64 p.r.at_.tg]] wr.drew (Tells (rsame q.r p.r) wr.drew) := refrsame_any q.r.id.1 q.r.id.2 q.r.st q.r.bl.1 q.r.bl.2 q.r.tk.1 q.r.tk.2 q.r.cm.kd q.r.cm.cl q.r.cm.sq q.r.cm.ky q.r.cm.vl q.r.cm.rv q.V q.n q.c q.r.at_.sq q.r.at_.tg q.r.at_.dp p.r.id.1 p.r.id.2 p.r.st p.r.bl.1 p.r.bl.2 p.r.tk.1 p.r.tk.2 p.r.cm.kd p.r.cm.cl p.r.cm.sq p.r.cm.ky p.r.cm.vl p.r.cm.rv p.V p.n p.c p.r.at_.sq p.r.at_.tg p.r.at_.dp wr.drew hdep.drew hdep2.drew;obtain ⟨T, hT⟩ : ∃ T, rsame q.r p.r = T := ⟨_, rfl⟩
      have HSM := hid hsm;have HT := hid hT;have HS := hid (show wr.drew.rangeAt g (o + k * 16) [.int .i64 q.r.id.1, .int .i64 q.r.id.2, .int .i64 q.r.st, .int .i64 q.r.bl.1, .int .i64 q.r.bl.2, .int .i64 q.r.tk.1, .int .i64 q.r.tk.2, .int .i64 q.r.cm.kd, .int .i64 q.r.cm.cl, .int .i64 q.r.cm.sq, .string q.r.cm.ky, .string q.r.cm.vl, .int .i64 q.r.cm.rv, .slice q.V q.n q.c, .int .i64 q.r.at_.sq, .int .i64 q.r.at_.tg] ∧ wr.drew.rangeAt g2 (o2 + k * 16) [.int .i64 p.r.id.1, .int .i64 p.r.id.2, .int .i64 p.r.st, .int .i64 p.r.bl.1, .int .i64 p.r.bl.2, .int .i64 p.r.tk.1, .int .i64 p.r.tk.2, .int .i64 p.r.cm.kd, .int .i64 p.r.cm.cl, .int .i64 p.r.cm.sq, .string p.r.cm.ky, .string p.r.cm.vl, .int .i64 p.r.cm.rv, .slice p.V p.n p.c, .int .i64 p.r.at_.sq, .int .i64 p.r.at_.tg] from ⟨hra, hrb⟩);have HQ := hid (show g < wr.drew.heap.size ∧ g2 < wr.drew.heap.size ∧ qs[k]? = some q ∧ ps[k]? = some p from ⟨hgl, hgl2, hq, hp⟩);have HBL := hid hbel;clear hgl hgl2 hq hp hra hrb hdep hdep2 hsm hT hbel;go_upto_region 6 with fail
      refine wp_region_held_drew (S := (fun w' => w'.rangeAt g (o + k * 16) [.int .i64 q.r.id.1, .int .i64 q.r.id.2, .int .i64 q.r.st, .int .i64 q.r.bl.1, .int .i64 q.r.bl.2, .int .i64 q.r.tk.1, .int .i64 q.r.tk.2, .int .i64 q.r.cm.kd, .int .i64 q.r.cm.cl, .int .i64 q.r.cm.sq, .string q.r.cm.ky, .string q.r.cm.vl, .int .i64 q.r.cm.rv, .slice q.V q.n q.c, .int .i64 q.r.at_.sq, .int .i64 q.r.at_.tg] ∧ w'.rangeAt g2 (o2 + k * 16) [.int .i64 p.r.id.1, .int .i64 p.r.id.2, .int .i64 p.r.st, .int .i64 p.r.bl.1, .int .i64 p.r.bl.2, .int .i64 p.r.tk.1, .int .i64 p.r.tk.2, .int .i64 p.r.cm.kd, .int .i64 p.r.cm.cl, .int .i64 p.r.cm.sq, .string p.r.cm.ky, .string p.r.cm.vl, .int .i64 p.r.cm.rv, .slice p.V p.n p.c, .int .i64 p.r.at_.sq, .int .i64 p.r.at_.tg])) (by kernel_rfl) HS.out (fun hHeld => ?_);refine hs_take 0 17 (.slice (some ⟨g, o, none⟩) n c) rfl rfl (by kernel_rfl) (fun _ _ _ h => h) (fun w hSw => by (obtain ⟨_, _⟩ := hSw); go_simp) hHeld ?_;try simp only [n0, n1, n2]
      refine hs_take 1 18 (.int .i64 (k : Int)) rfl rfl (by kernel_rfl) (fun _ _ _ h => h) (fun w hSw => by (obtain ⟨_, _⟩ := hSw); go_simp) hHeld ?_;try simp only [n0, n1, n2]
      refine hs_take 2 19 (.pointer (some ⟨g, o + k * 16, none⟩)) rfl rfl (by kernel_rfl) (fun _ _ _ h => h) (fun w hSw => by (obtain ⟨_, _⟩ := hSw); go_simp) hHeld ?_;try simp only [n0, n1, n2]
      refine hs_take 3 20 (.agg #[.int .i64 q.r.id.1, .int .i64 q.r.id.2, .int .i64 q.r.st, .int .i64 q.r.bl.1, .int .i64 q.r.bl.2, .int .i64 q.r.tk.1, .int .i64 q.r.tk.2, .int .i64 q.r.cm.kd, .int .i64 q.r.cm.cl, .int .i64 q.r.cm.sq, .string q.r.cm.ky, .string q.r.cm.vl, .int .i64 q.r.cm.rv, .slice q.V q.n q.c, .int .i64 q.r.at_.sq, .int .i64 q.r.at_.tg]) rfl rfl (by kernel_rfl) (fun _ _ _ h => h) (run_midS 43 (.tmp 19) rfl g (o + k * 16) [.int .i64 q.r.id.1, .int .i64 q.r.id.2, .int .i64 q.r.st, .int .i64 q.r.bl.1, .int .i64 q.r.bl.2, .int .i64 q.r.tk.1, .int .i64 q.r.tk.2, .int .i64 q.r.cm.kd, .int .i64 q.r.cm.cl, .int .i64 q.r.cm.sq, .string q.r.cm.ky, .string q.r.cm.vl, .int .i64 q.r.cm.rv, .slice q.V q.n q.c, .int .i64 q.r.at_.sq, .int .i64 q.r.at_.tg] _ rfl (fun _ h => h.1) Tryz.underlying43 rfl (by kernel_rfl)) hHeld ?_;try simp only [n0, n1, n2]
      refine hs_take 4 21 (.slice (some ⟨g2, o2, none⟩) n c2) rfl rfl (by kernel_rfl) (fun _ _ _ h => h) (fun w hSw => by (obtain ⟨_, _⟩ := hSw); go_simp) hHeld ?_;try simp only [n0, n1, n2]
      refine hs_take 5 22 (.int .i64 (k : Int)) rfl rfl (by kernel_rfl) (fun _ _ _ h => h) (fun w hSw => by (obtain ⟨_, _⟩ := hSw); go_simp) hHeld ?_;try simp only [n0, n1, n2]
      refine hs_take 6 23 (.pointer (some ⟨g2, o2 + k * 16, none⟩)) rfl rfl (by kernel_rfl) (fun _ _ _ h => h) (fun w hSw => by (obtain ⟨_, _⟩ := hSw); go_simp) hHeld ?_;try simp only [n0, n1, n2]
      refine hs_take 7 24 (.agg #[.int .i64 p.r.id.1, .int .i64 p.r.id.2, .int .i64 p.r.st, .int .i64 p.r.bl.1, .int .i64 p.r.bl.2, .int .i64 p.r.tk.1, .int .i64 p.r.tk.2, .int .i64 p.r.cm.kd, .int .i64 p.r.cm.cl, .int .i64 p.r.cm.sq, .string p.r.cm.ky, .string p.r.cm.vl, .int .i64 p.r.cm.rv, .slice p.V p.n p.c, .int .i64 p.r.at_.sq, .int .i64 p.r.at_.tg]) rfl rfl (by kernel_rfl) (fun _ _ _ h => h) (run_midS 43 (.tmp 23) rfl g2 (o2 + k * 16) [.int .i64 p.r.id.1, .int .i64 p.r.id.2, .int .i64 p.r.st, .int .i64 p.r.bl.1, .int .i64 p.r.bl.2, .int .i64 p.r.tk.1, .int .i64 p.r.tk.2, .int .i64 p.r.cm.kd, .int .i64 p.r.cm.cl, .int .i64 p.r.cm.sq, .string p.r.cm.ky, .string p.r.cm.vl, .int .i64 p.r.cm.rv, .slice p.V p.n p.c, .int .i64 p.r.at_.sq, .int .i64 p.r.at_.tg] _ rfl (fun _ h => h.2) Tryz.underlying43 rfl (by kernel_rfl)) hHeld ?_;try simp only [n0, n1, n2]
      refine wpAnyH_ready (rs := [8]) (by kernel_rfl) (by simp) ?_;refine AllReadyH.cons rfl (fun K hK => ?_) AllReadyH.nil;go_simp;refine (HSM.out).mono ?_;rintro e w2 ⟨rfl, hb2⟩;rw [HT.out];have HB2 := hid (And.intro hb2 (And.intro (range_belS HS.out.1 HQ.out.1 hb2) (range_belS HS.out.2 HQ.out.2.1 hb2)));clear hb2;refine hK.out _ _ (by first | exact HB2.out.2 | exact HS.out) (fun hHeld => ?_);clear hK K;refine hs_take 9 26 (.bool (!T)) rfl rfl (by kernel_rfl) (fun _ _ _ h => h) (fun w hSw => by (obtain ⟨_, _⟩ := hSw); go_simp) hHeld ?_;try simp only [n0, n1, n2]
      refine wpAnyH_done (by kernel_rfl) ?_ _;skip;have HBR := hid (HBL.out.trans ((((Below.refl wr.heap.size wr).drew).trans HB2.out.1).mono HBL.out.size));cases T with
      | true =>
        go_wp2_with fail
        refine ⟨⟨k + 1, by omega, by simp, HBR.out⟩, by simp [intOf]; omega⟩
      | false =>
        go_wp2_with fail
        go_ret;refine ⟨false, rfl, fun e => ?_, HBR.out⟩;have h1 := congrArg (fun l : List Rc => l[k]?) e;simp only [List.getElem?_map, HQ.out.2.2.1, HQ.out.2.2.2, Option.map_some] at h1;injection h1 with h1;have h2 := HT.out;rw [h1, rsame_refl] at h2;exact h2.symm
    · obtain rfl : k = n := by omega
      have HBL := hid hbel;clear hbel;go_wp2_with fail
      go_ret;exact ⟨true, rfl, fun _ => rfl, HBL.out⟩
 · have z0 : ((n : Int) != (m : Int)) = true := by rw [bne_iff_ne]; omega
   have HN := hid hnm;clear hnm;go_wp2_with fail
   go_ret;refine ⟨false, rfl, fun e => ?_, Below.refl _ _⟩;have h1 := congrArg List.length e;rw [List.length_map, List.length_map, L1.out, L2.out] at h1;exact absurd h1 HN.out
end Go.Proofs.YtkejjdoaljoooaaGreatDoor.Sc
/- The document's example: a record put in an old store, which is made a new one. -/
namespace Go.Proofs.YtkejjdoaljoooaaGreatDoor.Sc
open Lib (hid)
open Go.RowKit Mem Dsk Lg Rk
def FA (w0 : World) (w : World) (S : Nat → Prop) : Prop := FNew w0 w S ∧ FTab w S
theorem frame_a (w0 : World) : Dsk.Frame (FA w0) := (frame_new w0).and frame_tab
theorem fa_sub {w0 w : World} {S : Nat → Prop} {s : Nat} (h : FA w0 w (Plus S s)) : FA w0 w S := ⟨⟨fun k hk => h.1.1 k (.inl hk), h.1.2⟩, ftab_sub h.2⟩
theorem ex_dep (w : World) : Dep w exQ := Ids.Rs.nil_ w
set_option maxRecDepth 20000 in
set_option maxHeartbeats 4000000 in
theorem sawake_any {I : Held} (hH : Has2 I) (hS : HasSch I) (w : World) (ht : Cr.Tab w) : Calls Tryz.prog 6 #[] w (Tells true w) := by
 have hnw := hH.new 1000 w;have HNW := hid hnw;have HH := hid (And.intro hH hS);have HT := hid ht;clear hnw hH hS ht;go_enter Tryz.func6, Tryz.ntmps6
 go_wp2_with fail
 refine HNW.out.mono ?_;rintro e w1 ⟨p, S1, rfl, hI1, hn1, hb1⟩;have hfa1 : FA w w1 S1 := ⟨⟨hn1, hb1⟩, ftab_new HT.out hb1 hn1⟩
 have hop : Calls Tryz.prog 8 #[Dsk.ptr p, .int .i64 1] w1 (OpenS I p S1 1 [] (0, sd 1000 true (forms (stored 1 [])) [] (-1) false) w1) := by
  have h := HH.out.2.open_ 1 (.inl rfl) p S1 (newDk 1000) (newDk 1000) [] [] [] w1 hI1 hfa1.2 (rdb_none (r := 1000) (by omega) (by omega));rw [read_none, show newDk 1000 = sd 1000 false [] [] (-1) false from rfl, open_new, if_neg (by have := hdr_form 1; omega)] at h;exact h
 have HOP := hid hop;have H1 := hid hfa1;clear hop hfa1 hI1 hn1 hb1;unfold Dsk.ptr at *;go_wp2_with fail
 refine HOP.out.mono ?_;rintro e w2 hos;rcases hos with ⟨_, s, g, V, n, c, qs, rfl, hqs, S2, hI2, hg2, hk2, hst2, hfr2⟩ | ⟨h0, _⟩
 case inr => exact absurd rfl h0
 have hfa2 := (frame_a w).go H1.out hk2 hg2;have hz := Blk.new w2 43 #[.int .i64 0, .int .i64 0, .int .i64 0, .int .i64 0, .int .i64 0, .int .i64 0, .int .i64 0, .int .i64 0, .int .i64 0, .int .i64 0, .string ⟨#[]⟩, .string ⟨#[]⟩, .int .i64 0, .slice none 0 0, .int .i64 0, .int .i64 0];have hl2 := hfr2.row.le;have hl3 := hfr2.row.cap;have H2 := hid (And.intro hI2 (And.intro hst2 (And.intro hfa2 hz)));clear hqs hI2 hg2 hk2 hst2 hfr2 hfa2 hz HOP;go_upto_region 6 with (with_reducible refine wpList_store_blk rfl 43 (.tmp 5) (.tmp 26) rfl w2.heap.size 43 #[.int .i64 0, .int .i64 0, .int .i64 0, .int .i64 0, .int .i64 0, .int .i64 0, .int .i64 0, .int .i64 0, .int .i64 0, .int .i64 0, .string ⟨#[]⟩, .string ⟨#[]⟩, .int .i64 0, .slice none 0 0, .int .i64 0, .int .i64 0] #[.int .i64 1, .int .i64 1, .int .i64 0, .int .i64 2, .int .i64 0, .int .i64 0, .int .i64 0, .int .i64 0, .int .i64 0, .int .i64 0, .string ⟨#[]⟩, .string ⟨#[]⟩, .int .i64 0, .slice none 0 0, .int .i64 0, .int .i64 0] rfl rfl H2.out.2.2.2 (by kernel_rfl) rfl (by kernel_rfl) ?_; intro w3 hblk3 hg3)
 have hb3 : Below w2.heap.size w2 w3 := (bel_alloc (Below.refl _ _) _).grown hg3 (by simp) fun k e => by injection e with e; omega
 have hlow2 := HH.out.1.low H2.out.1;have hs2 := H2.out.2.1.1.lt
 have hns : ¬ Plus S2 s w2.heap.size := fun h => by
  rcases h with h | h
  · exact Nat.lt_irrefl _ (hlow2 _ h)
  · omega
 have hF3 := ((frame_a w).and (frame_blk w2.heap.size 43 #[.int .i64 1, .int .i64 1, .int .i64 0, .int .i64 2, .int .i64 0, .int .i64 0, .int .i64 0, .int .i64 0, .int .i64 0, .int .i64 0, .string ⟨#[]⟩, .string ⟨#[]⟩, .int .i64 0, .slice none 0 0, .int .i64 0, .int .i64 0]))
 have hfa3 : FA w w3 (Plus S2 s) := (frame_a w).go H2.out.2.2.1 (Keeps.ofBelow hb3) (Dsk.Grew.refl (Plus S2 s) w2);have hI3 := have_bel HH.out.1 H2.out.1 hb3;have hst3 := (frame_st s 1 p (some g)).go H2.out.2.1 (Keeps.ofBelow hb3) (Dsk.Grew.refl S2 w2);have hpu : Calls Tryz.prog 11 #[.pointer (some ⟨s, 0, none⟩), .agg #[.int .i64 1, .int .i64 1, .int .i64 0, .int .i64 2, .int .i64 0, .int .i64 0, .int .i64 0, .int .i64 0, .int .i64 0, .int .i64 0, .string ⟨#[]⟩, .string ⟨#[]⟩, .int .i64 0, .slice none 0 0, .int .i64 0, .int .i64 0]] w3 (PutIs I p s g S2 1 exR (sd 1000 true (forms (stored 1 [])) [] (-1) false) w3) := HH.out.2.put 1 (.inl rfl) p s g S2 exQ _ w3 hI3 hfa3.2 hst3 (rdb_stored (v := 1) (rs := []) (.inl rfl) (fun _ h => by cases h) (r := 1000) (by omega) (by omega) (by have := hdr_form 1; simp only [stored, List.map_nil, forms_one]; omega)).fine (ex_dep w3);have HPU := hid hpu;have H3 := hid (And.intro hfa3 (And.intro hblk3 hns));have HF := hid hF3;clear hb3 hlow2 hs2 hns hfa3 hI3 hst3 hpu hblk3 hg3 hF3;go_wp2_with (with_reducible refine wpList_load_blk rfl 43 (.tmp 5) rfl w2.heap.size 43 #[.int .i64 1, .int .i64 1, .int .i64 0, .int .i64 2, .int .i64 0, .int .i64 0, .int .i64 0, .int .i64 0, .int .i64 0, .int .i64 0, .string ⟨#[]⟩, .string ⟨#[]⟩, .int .i64 0, .slice none 0 0, .int .i64 0, .int .i64 0] _ rfl H3.out.2.1 Tryz.underlying43 rfl (by kernel_rfl) ?_)
 refine HPU.out.mono ?_;rintro e w4 hpi;rcases hpi with ⟨h0, _⟩ | ⟨_, _, rfl, og, S3, hI4, hst4, _, hg4, hk4⟩
 case inl => exact absurd (by rw [ex_put]) h0
 rw [ex_puts] at hI4 ⊢;simp only at hI4;have hfb4 := HF.out.go ⟨H3.out.1, H3.out.2.1, H3.out.2.2⟩ hk4 (plus_grew hg4);have hrb4 := rdb_stored (v := 1) (rs := [exR]) (.inl rfl) (fun x hx => by rw [List.mem_singleton.1 hx]; exact ex_good 1) (r := 1000) (by omega) (by omega) (by have := forms_ex 1; omega)
 have hfw : Calls Tryz.prog 17 #[.pointer (some ⟨p, 0, none⟩)] w4 (Does I p S3 (0, sd 1000 true (forms (stored 2 [exR])) [] (-1) false) w4) := by
  have h := HH.out.2.forward p S3 _ _ _ _ exR w4 hI4 (ftab_sub hfb4.1.2) hrb4 (ex_good 1) (ex_good 2);rw [ex_writes] at h;exact h
 have HFW := hid hfw;have H4 := hid hfb4;clear hI4 hst4 hg4 hk4 hfb4 hrb4 hfw HPU;go_wp2_with fail
 refine HFW.out.mono ?_;rintro e w5 ⟨rfl, S4, hI5, hg5, hk5⟩;simp only at hI5;have hfb5 := HF.out.go H4.out (plus_keeps hk5) (plus_grew hg5)
 have hop : Calls Tryz.prog 8 #[.pointer (some ⟨p, 0, none⟩), .int .i64 2] w5 (OpenS I p S4 2 [exR] (0, sd 1000 true (forms (stored 2 [exR])) [] (-1) false) w5) := by
  have hg : ∀ x ∈ [exR], Good 2 x := fun x hx => by rw [List.mem_singleton.1 hx]; exact ex_good 2
  have h := HH.out.2.open_ 2 (.inr rfl) p S4 _ _ _ _ _ w5 hI5 (ftab_sub hfb5.1.2) (rdb_stored (v := 2) (rs := [exR]) (.inr rfl) hg (r := 1000) (by omega) (by omega) (by have := forms_ex 2; omega));rw [read_stored (.inr rfl) hg, open_old (.inr rfl) hg] at h;exact h
 have HOP := hid hop;have H5 := hid (And.intro (fa_sub hfb5.1) (And.intro hfb5.2.1 fun h => hfb5.2.2 (.inl h)));clear hI5 hg5 hk5 hfb5 hop HFW H4;go_wp2_with fail
 refine HOP.out.mono ?_;rintro e w6 hos;rcases hos with ⟨_, s6, g6, V6, n6, c6, qs6, rfl, hqs6, S6, hI6, hg6, hk6, hst6, hfr6⟩ | ⟨h0, _⟩
 case inr => exact absurd rfl h0
 have hfb6 := HF.out.go H5.out hk6 hg6;have hblk6 : Blk w6 w2.heap.size 43 #[.int .i64 1, .int .i64 1, .int .i64 0, .int .i64 2, .int .i64 0, .int .i64 0, .int .i64 0, .int .i64 0, .int .i64 0, .int .i64 0, .string ⟨#[]⟩, .string ⟨#[]⟩, .int .i64 0, .slice none 0 0, .int .i64 0, .int .i64 0] := hfb6.2.1;have hr6 : Recs (w6.alloc (.cells #[.int .i64 1, .int .i64 1, .int .i64 0, .int .i64 2, .int .i64 0, .int .i64 0, .int .i64 0, .int .i64 0, .int .i64 0, .int .i64 0, .string ⟨#[]⟩, .string ⟨#[]⟩, .int .i64 0, .slice none 0 0, .int .i64 0, .int .i64 0] 43)) (some ⟨w6.heap.size, 0, none⟩) 1 1 [exQ] := Recs.lit w6 exQ 43 (ex_dep w6);have hsa := samerecs_any V6 n6 c6 qs6 (some ⟨w6.heap.size, 0, none⟩) 1 1 [exQ] (w6.alloc (.cells #[.int .i64 1, .int .i64 1, .int .i64 0, .int .i64 2, .int .i64 0, .int .i64 0, .int .i64 0, .int .i64 0, .int .i64 0, .int .i64 0, .string ⟨#[]⟩, .string ⟨#[]⟩, .int .i64 0, .slice none 0 0, .int .i64 0, .int .i64 0] 43)) (hfr6.row.alloc _) hr6;have HSA := hid hsa;have hl6 := hfr6.row.le;have hc6 := hfr6.row.cap;have H6 := hid (And.intro hqs6 (And.intro hfb6.1.1.2 hblk6));clear hqs6 hI6 hg6 hk6 hst6 hfr6 hfb6 hblk6 hr6 hsa HOP H5;go_wp2_with (with_reducible refine wpList_load_blk_w 43 (.tmp 5) rfl w2.heap.size 43 #[.int .i64 1, .int .i64 1, .int .i64 0, .int .i64 2, .int .i64 0, .int .i64 0, .int .i64 0, .int .i64 0, .int .i64 0, .int .i64 0, .string ⟨#[]⟩, .string ⟨#[]⟩, .int .i64 0, .slice none 0 0, .int .i64 0, .int .i64 0] _ rfl (by kernel_rfl) H6.out.2.2 Tryz.underlying43 rfl (by kernel_rfl) ?_)
 refine HSA.out.mono ?_;rintro e w7 ⟨tt, rfl, htt, hb7⟩;have htr : tt = true := htt (by rw [H6.out.1]; rfl);subst htr;have HB := hid (H6.out.2.1.trans ((bel_alloc (Below.refl w6.heap.size w6) _).trans (hb7.mono (by simp)) |>.mono H6.out.2.1.size));clear htt hb7;go_wp2_with fail
 go_ret;exact ⟨rfl, HB.out⟩
end Go.Proofs.YtkejjdoaljoooaaGreatDoor.Sc
