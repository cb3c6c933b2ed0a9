/-
  Texts of earlier layers, as one.
-/
import Derived.Test.YthlhchaoedcdbaaGreatDoorRCod
import Derived.Test.YthlhchaoedcdbaaGreatDoorRRunR
/- Commands, plainly: what is wrong with one, whether it writes, whether two meet, and its item. -/
namespace Go.Proofs.YthlhchaoedcdbaaGreatDoor.Cmd
open Lib (hid)
open Mem Run
structure Cm where
 kd : Int
 cl : Int
 sq : Int
 ky : ByteArray
 vl : ByteArray
 rv : Int
theorem Cm.ext_iff' {a b : Cm} : a = b ↔ a.kd = b.kd ∧ a.cl = b.cl ∧ a.sq = b.sq ∧ a.ky = b.ky ∧ a.vl = b.vl ∧ a.rv = b.rv := by
 cases a; cases b; simp
def eqv (a b : Cm) : Bool := a.kd == b.kd && a.cl == b.cl && a.sq == b.sq && decide (bts a.ky = bts b.ky) && decide (bts a.vl = bts b.vl) && a.rv == b.rv
theorem eqv_iff {a b : Cm} : eqv a b = true ↔ a = b := by
 rw [Cm.ext_iff'];simp only [eqv, Bool.and_eq_true, beq_iff_eq, decide_eq_true_eq, and_assoc];constructor
 · rintro ⟨h1, h2, h3, h4, h5, h6⟩
   exact ⟨h1, h2, h3, bts_inj h4, bts_inj h5, h6⟩
 · rintro ⟨h1, h2, h3, h4, h5, h6⟩
   exact ⟨h1, h2, h3, by rw [h4], by rw [h5], h6⟩
theorem eqv_refl (a : Cm) : eqv a a = true := eqv_iff.2 rfl
def zeroCm : Cm := ⟨0, 0, 0, ⟨#[]⟩, ⟨#[]⟩, 0⟩
def un (c : Cm) : Cm :=
 if c.kd = 4 then zeroCm
 else if c.kd = 2 then { zeroCm with rv := c.rv }
 else if c.kd = 1 ∨ c.kd = 3 ∨ c.kd = 5 then { zeroCm with vl := c.vl, rv := c.rv }
 else if c.kd = 0 ∨ c.kd = 6 then { c with kd := 0 }
 else c
def client (k : Int) : Bool := k != 0 && k != 6
def unformed (c : Cm) : Bool :=
 decide (c.kd < 0) || decide (c.kd > 6) || (!client c.kd && (c.cl != 0 || c.sq != 0 || !decide (bts c.ky = []))) || (client c.kd && (c.cl == 0 || c.sq == 0)) ||
  (c.kd != 2 && c.kd != 4 && !decide (bts c.vl = [])) || (c.kd != 4 && c.rv != 0)
def out (v most : Int) : Bool := decide (v < 0) || decide (v > most)
def far (c : Cm) : Bool := out c.cl 1048576 || out c.sq 1099511627776 || out c.rv 1099511627776
def chk (c : Cm) : Int :=
 if unformed c then 4
 else if far c then 6
 else if decide ((c.vl.size : Int) > 1024) then 12
 else if c.kd == 5 then begRet (beg (bts c.ky))
 else if client c.kd then begRet (key (bts c.ky))
 else 0
theorem bz : bts ⟨#[]⟩ = [] := rfl
theorem unformed_un (c : Cm) : unformed c = (!eqv (un c) zeroCm || (client c.kd && (c.cl == 0 || c.sq == 0))) := by
 obtain ⟨kd, cl, sq, ky, vl, rv⟩ := c;simp only [unformed, un, client];by_cases h4 : kd = 4
 · subst h4
   simp [eqv_refl]
 by_cases h2 : kd = 2
 · subst h2
   simp [zeroCm, eqv, Bool.or_comm, bne]
 by_cases h1 : kd = 1 ∨ kd = 3 ∨ kd = 5
 · rw [if_neg h4, if_neg h2, if_pos h1]
   have e0 : (kd != 0) = true := (by simp; omega);have e6 : (kd != 6) = true := (by simp; omega);have e2 : (kd != 2) = true := (by simpa using h2);have e4 : (kd != 4) = true := (by simpa using h4);have e7 : decide (kd < 0) = false := (by simp; omega);have e8 : decide (kd > 6) = false := (by simp; omega);simp only [e0, e6, e2, e4, e7, e8, zeroCm, eqv, bz];by_cases p : bts vl = [] <;> by_cases q : rv = 0 <;> simp [p, q, bne, Bool.or_comm]
 by_cases h0 : kd = 0 ∨ kd = 6
 · rw [if_neg h4, if_neg h2, if_neg h1, if_pos h0]
   have e0 : (kd != 0 && kd != 6) = false := (by rcases h0 with rfl | rfl <;> rfl);have e2 : (kd != 2) = true := (by simpa using h2);have e4 : (kd != 4) = true := (by simpa using h4);have e7 : decide (kd < 0) = false := (by simp; omega);have e8 : decide (kd > 6) = false := (by simp; omega);simp only [e0, e2, e4, e7, e8, zeroCm, eqv, bz];by_cases a : cl = 0 <;> by_cases b : sq = 0 <;> by_cases c : bts ky = [] <;> by_cases p : bts vl = [] <;> by_cases q : rv = 0 <;> simp [a, b, c, p, q, bne]
 · rw [if_neg h4, if_neg h2, if_neg h1, if_neg h0]
   have hz : ¬ ((⟨kd, cl, sq, ky, vl, rv⟩ : Cm) = zeroCm) := fun h => h0 (.inl (by have := (Cm.ext_iff'.1 h).1; exact this))
   have hz' : eqv ⟨kd, cl, sq, ky, vl, rv⟩ zeroCm = false := by
    cases h : eqv ⟨kd, cl, sq, ky, vl, rv⟩ zeroCm with
    | false => rfl
    | true => exact absurd (eqv_iff.1 h) hz
   rw [hz'];have : decide (kd < 0) = true ∨ decide (kd > 6) = true := (by simp; omega);rcases this with h | h <;> simp [h]
def great (c : Cm) : Bool := decide ((c.ky.size : Int) > 200) || decide ((c.vl.size : Int) > 2000)
end Go.Proofs.YthlhchaoedcdbaaGreatDoor.Cmd
/- cmd.called, outside, Writes, unnamed, covers; the document's Writes and Great: what they answer. -/
namespace Go.Proofs.YthlhchaoedcdbaaGreatDoor.Cw
open Lib (hid)
open Go.RowKit Mem Run Cmd
theorem called_any (kd cl sq : Int) (ky vl : ByteArray) (rv : Int) (w : World) :
 Calls Tryz.prog 125 #[.agg #[.int .i64 kd, .int .i64 cl, .int .i64 sq, .string ky, .string vl, .int .i64 rv]] w (Tells (client kd) w) := by
 go_enter Tryz.func125, Tryz.ntmps125
 go_wp2_with fail
 all_goals
  go_ret;exact ⟨by simp_all [client], bel_alloc (Below.refl _ _) _⟩
theorem great_any (kd cl sq : Int) (ky vl : ByteArray) (rv : Int) (w : World) :
 Calls Tryz.prog 18 #[.agg #[.int .i64 kd, .int .i64 cl, .int .i64 sq, .string ky, .string vl, .int .i64 rv]] w (Tells (great ⟨kd, cl, sq, ky, vl, rv⟩) w) := by
 go_enter Tryz.func18, Tryz.ntmps18
 go_wp2_with fail
 all_goals
  go_ret;exact ⟨by simp_all [great], bel_alloc (Below.refl _ _) _⟩
theorem outside_any (v m : Int) (w : World) : Calls Tryz.prog 126 #[.int .i64 v, .int .i64 m] w fun e w' => e = .returned (.bool (out v m)) ∧ w = w' := by
 go_enter Tryz.func126, Tryz.ntmps126
 go_wp2_with fail
 all_goals
  go_ret;exact ⟨by simp_all [out], rfl⟩
end Go.Proofs.YthlhchaoedcdbaaGreatDoor.Cw
/- cmd.unnamed; whether two commands are the same. -/
namespace Go.Proofs.YthlhchaoedcdbaaGreatDoor.Cw
open Lib (hid)
open Go.RowKit Mem Run Cmd
theorem toList_iff (a b : ByteArray) : a.toList = b.toList ↔ bts a = bts b := by
 have h := eq_tell a b;constructor
 · intro e
   rw [e] at h;simpa using h
 · intro e
   rw [decide_eq_true e] at h;simpa using h
theorem eql_cmd (akd acl asq : Int) (aky avl : ByteArray) (arv : Int) (bkd bcl bsq : Int) (bky bvl : ByteArray) (brv : Int) (w : World) : Sem.run Tryz.prog (binOp .eql 27 (.agg #[.int .i64 akd, .int .i64 acl, .int .i64 asq, .string aky, .string avl, .int .i64 arv]) (.agg #[.int .i64 bkd, .int .i64 bcl, .int .i64 bsq, .string bky, .string bvl, .int .i64 brv])) w = .ok (.bool (eqv ⟨akd, acl, asq, aky, avl, arv⟩ ⟨bkd, bcl, bsq, bky, bvl, brv⟩)) w := by
 have u3 := Tryz.underlying3;have a3 := Tryz.isAgg3;have z3 := Tryz.sizeOf3;have u9 := Tryz.underlying9;have a9 := Tryz.isAgg9;have z9 := Tryz.sizeOf9;have hS : Tryz.prog.underlying 27 = some (.struct (Tryz.prog.fieldsOf 27)) := by kernel_rfl
 have hp : Tryz.prog.stoodInHeld 27 = false := by kernel_rfl
 rw [run_eql_struct, show (10000 : Nat) = 9999 + 1 from rfl, run_equalIn_agg w 9999 27 _ _ hS hp];simp only [Program.fieldsOf, Tryz.underlying27];go_simp;simp only [eqv, toList_iff];by_cases h1 : akd = bkd <;> by_cases h2 : acl = bcl <;> by_cases h3 : asq = bsq <;> by_cases h4 : bts aky = bts bky <;> by_cases h5 : bts avl = bts bvl <;> by_cases h6 : arv = brv <;> simp [h1, h2, h3, h4, h5, h6]
theorem neq_cmd (akd acl asq : Int) (aky avl : ByteArray) (arv : Int) (bkd bcl bsq : Int) (bky bvl : ByteArray) (brv : Int) (w : World) : Sem.run Tryz.prog (binOp .neq 27 (.agg #[.int .i64 akd, .int .i64 acl, .int .i64 asq, .string aky, .string avl, .int .i64 arv]) (.agg #[.int .i64 bkd, .int .i64 bcl, .int .i64 bsq, .string bky, .string bvl, .int .i64 brv])) w = .ok (.bool (!eqv ⟨akd, acl, asq, aky, avl, arv⟩ ⟨bkd, bcl, bsq, bky, bvl, brv⟩)) w := by
 have u3 := Tryz.underlying3;have a3 := Tryz.isAgg3;have z3 := Tryz.sizeOf3;have u9 := Tryz.underlying9;have a9 := Tryz.isAgg9;have z9 := Tryz.sizeOf9;have hS : Tryz.prog.underlying 27 = some (.struct (Tryz.prog.fieldsOf 27)) := by kernel_rfl
 have hp : Tryz.prog.stoodInHeld 27 = false := by kernel_rfl
 rw [run_neq_struct, show (10000 : Nat) = 9999 + 1 from rfl, run_equalIn_agg w 9999 27 _ _ hS hp];simp only [Program.fieldsOf, Tryz.underlying27];go_simp;simp only [eqv, toList_iff];by_cases h1 : akd = bkd <;> by_cases h2 : acl = bcl <;> by_cases h3 : asq = bsq <;> by_cases h4 : bts aky = bts bky <;> by_cases h5 : bts avl = bts bvl <;> by_cases h6 : arv = brv <;> simp [h1, h2, h3, h4, h5, h6]
theorem unnamed_any (kd cl sq : Int) (ky vl : ByteArray) (rv : Int) (w : World) :
 Calls Tryz.prog 124 #[.agg #[.int .i64 kd, .int .i64 cl, .int .i64 sq, .string ky, .string vl, .int .i64 rv]] w fun e w' => ∃ c : Cm, e = .returned (.agg #[.int .i64 c.kd, .int .i64 c.cl, .int .i64 c.sq, .string c.ky, .string c.vl, .int .i64 c.rv]) ∧ c = un ⟨kd, cl, sq, ky, vl, rv⟩ ∧ Below w.heap.size w w' := by
 go_enter Tryz.func124, Tryz.ntmps124
 go_wp2_with fail
 all_goals
  refine bodyPost_ret (v := .agg #[.int .i64 (un ⟨kd, cl, sq, ky, vl, rv⟩).kd, .int .i64 (un ⟨kd, cl, sq, ky, vl, rv⟩).cl, .int .i64 (un ⟨kd, cl, sq, ky, vl, rv⟩).sq, .string (un ⟨kd, cl, sq, ky, vl, rv⟩).ky, .string (un ⟨kd, cl, sq, ky, vl, rv⟩).vl, .int .i64 (un ⟨kd, cl, sq, ky, vl, rv⟩).rv]) (by simp_all [results, Tryz.results124, go_sem, un, zeroCm]) rfl ⟨un ⟨kd, cl, sq, ky, vl, rv⟩, rfl, rfl, bel_alloc (bel_alloc (Below.refl _ _) _) _⟩
end Go.Proofs.YthlhchaoedcdbaaGreatDoor.Cw
/- cmd.covers and Meet. -/
namespace Go.Proofs.YthlhchaoedcdbaaGreatDoor.Cw
open Lib (hid)
open Go.RowKit Mem Run Cmd
theorem blk6 {w : World} {g : Nat} {t : TypeId} {a b c d e f : Value} (h : Blk w g t #[a, b, c, d, e, f]) : w.cell? ⟨g, 0, none⟩ = some a ∧ w.cell? ⟨g, 1, none⟩ = some b ∧ w.cell? ⟨g, 2, none⟩ = some c ∧ w.cell? ⟨g, 3, none⟩ = some d ∧ w.cell? ⟨g, 4, none⟩ = some e ∧ w.cell? ⟨g, 5, none⟩ = some f :=
 ⟨h.cell 0, h.cell 1, h.cell 2, h.cell 3, h.cell 4, h.cell 5⟩
end Go.Proofs.YthlhchaoedcdbaaGreatDoor.Cw
/- cmd.Check: what is wrong with any command. -/
namespace Go.Proofs.YthlhchaoedcdbaaGreatDoor.Cw
open Lib (hid)
open Go.RowKit Mem Run Cmd
def Checks (v : Int) (w : World) (e : Ending) (w' : World) : Prop := e = .returned (.int .i64 v) ∧ Below w.heap.size w w'
theorem chk_eq (c : Cm) (r k z1 z2 o1 o2 o3 l f : Bool) (hr : eqv (un c) zeroCm = r) (hk : client c.kd = k) (h1 : (c.cl == 0) = z1) (h2 : (c.sq == 0) = z2) (h3 : out c.cl 1048576 = o1) (h4 : out c.sq 1099511627776 = o2) (h5 : out c.rv 1099511627776 = o3) (h6 : decide ((c.vl.size : Int) > 1024) = l) (h7 : (c.kd == 5) = f) :
 chk c = if (!r || (k && (z1 || z2))) = true then 4 else if (o1 || o2 || o3) = true then 6 else if l = true then 12 else if f = true then begRet (beg (bts c.ky)) else if k = true then begRet (key (bts c.ky)) else 0 := by
 subst hr; subst hk; subst h1; subst h2; subst h3; subst h4; subst h5; subst h6; subst h7;rw [chk, unformed_un];rfl
set_option maxHeartbeats 4000000 in
theorem check_any (kd cl sq : Int) (ky vl : ByteArray) (rv : Int) (w : World) :
 Calls Tryz.prog 85 #[.agg #[.int .i64 kd, .int .i64 cl, .int .i64 sq, .string ky, .string vl, .int .i64 rv]] w (Checks (chk ⟨kd, cl, sq, ky, vl, rv⟩) w) := by
 have hkb : (kd == 5) = true → client kd = true := fun h => by rw [eq_of_beq h]; rfl
 obtain ⟨r, hr⟩ : ∃ r, eqv (un ⟨kd, cl, sq, ky, vl, rv⟩) zeroCm = r := ⟨_, rfl⟩
 obtain ⟨k, hk⟩ : ∃ k, client kd = k := ⟨_, rfl⟩
 obtain ⟨z1, h1⟩ : ∃ z, (cl == 0) = z := ⟨_, rfl⟩
 obtain ⟨z2, h2⟩ : ∃ z, (sq == 0) = z := ⟨_, rfl⟩
 obtain ⟨o1, h3⟩ : ∃ z, out cl 1048576 = z := ⟨_, rfl⟩
 obtain ⟨o2, h4⟩ : ∃ z, out sq 1099511627776 = z := ⟨_, rfl⟩
 obtain ⟨o3, h5⟩ : ∃ z, out rv 1099511627776 = z := ⟨_, rfl⟩
 obtain ⟨l, h6⟩ : ∃ z, decide ((vl.size : Int) > 1024) = z := ⟨_, rfl⟩
 obtain ⟨f, h7⟩ : ∃ z, (kd == 5) = z := ⟨_, rfl⟩
 rw [chk_eq ⟨kd, cl, sq, ky, vl, rv⟩ r k z1 z2 o1 o2 o3 l f hr hk h1 h2 h3 h4 h5 h6 h7]
 have hne : ∀ c : Cm, c = un ⟨kd, cl, sq, ky, vl, rv⟩ → ∀ w, Sem.run Tryz.prog (binOp .neq 27 (.agg #[.int .i64 c.kd, .int .i64 c.cl, .int .i64 c.sq, .string c.ky, .string c.vl, .int .i64 c.rv]) (.agg #[.int .i64 0, .int .i64 0, .int .i64 0, .string ⟨#[]⟩, .string ⟨#[]⟩, .int .i64 0])) w = .ok (.bool (!r)) w := by
  intro c hc w;rw [neq_cmd, ← hr, ← hc];rfl
 have HNE := hid hne;have HU := hid (fun w => unnamed_any kd cl sq ky vl rv w);have hc1 := fun w => called_any kd cl sq ky vl rv w;have ho1 := fun w => outside_any cl 1048576 w;have ho2 := fun w => outside_any sq 1099511627776 w;have ho3 := fun w => outside_any rv 1099511627776 w;rw [h3] at ho1;rw [h4] at ho2;rw [h5] at ho3;rw [hk] at hc1 hkb;rw [h7] at hkb;have HC1 := hid hc1;have HC2 := hid hc1;have HO1 := hid ho1;have HO2 := hid ho2;have HO3 := hid ho3;have HBG := hid (fun w => begin_any ky w);have HKY := hid (fun w => key_any ky w);have hk1 := Blk.new w 27 #[.int .i64 kd, .int .i64 cl, .int .i64 sq, .string ky, .string vl, .int .i64 rv];have hcu := bel_alloc (Below.refl w.heap.size w) (.cells #[.int .i64 kd, .int .i64 cl, .int .i64 sq, .string ky, .string vl, .int .i64 rv] 27);have HK1 := hid hk1;have HCU := hid hcu;have HKB := hid hkb;show Calls Tryz.prog _ _ _ (Checks (if (!r || (k && (z1 || z2))) = true then 4 else if (o1 || o2 || o3) = true then 6 else if l = true then 12 else if f = true then begRet (beg (bts ky)) else if k = true then begRet (key (bts ky)) else 0) w);generalize begRet (beg (bts ky)) = gb at HBG ⊢;generalize begRet (key (bts ky)) = gk at HKY ⊢;clear hne hc1 ho1 ho2 ho3 hk1 hcu hkb hr hk h3 h4 h5;go_enter Tryz.func85, Tryz.ntmps85
 cases r
 rotate_left
 cases k;cases o1;cases o2;cases o3;cases l;cases f
 rotate_left
 exact absurd (HKB.out rfl) (by decide)
 iterate 4 rotate_left
 cases z1;cases z2;cases o1;cases o2;cases o3;cases l;cases f
 all_goals
  go_wp2_with (first | (go_at_call 124; refine (HU.out _).mono ?_; rintro e w1 ⟨c, rfl, hc, hb1⟩; have hne := HNE.out c hc; have hk1 := HK1.out.bel hb1; have hcu := bel_trans HCU.out hb1; obtain ⟨p0, p1, p2, p3, p4, p5⟩ := blk6 hk1; replace HK1 := hid hk1; replace HCU := hid hcu; obtain ⟨c1, c2, c3, c4, c5, c6⟩ := c; simp only at hne ⊢; clear HU hb1 hk1 hcu hc) | (go_at_call 125; refine (HC1.out _).mono ?_; rintro e w1 ⟨rfl, hb1⟩; have hk1 := HK1.out.bel hb1; have hcu := bel_trans HCU.out hb1; obtain ⟨p0, p1, p2, p3, p4, p5⟩ := blk6 hk1; replace HK1 := hid hk1; replace HCU := hid hcu; clear HC1 hb1 hk1 hcu) | (go_at_call 126; refine (HO1.out _).mono ?_; rintro e w1 ⟨rfl, rfl⟩; clear HO1) | (go_at_call 126; refine (HO2.out _).mono ?_; rintro e w1 ⟨rfl, rfl⟩; clear HO2) | (go_at_call 126; refine (HO3.out _).mono ?_; rintro e w1 ⟨rfl, rfl⟩; clear HO3) | (go_at_call 127; refine (HBG.out _).mono ?_; rintro e w1 ⟨rfl, hb1⟩; have hk1 := HK1.out.bel hb1; have hcu := bel_trans HCU.out hb1; obtain ⟨p0, p1, p2, p3, p4, p5⟩ := blk6 hk1; replace HK1 := hid hk1; replace HCU := hid hcu; clear HBG hb1 hk1 hcu) | (go_at_call 125; refine (HC2.out _).mono ?_; rintro e w1 ⟨rfl, hb1⟩; have hk1 := HK1.out.bel hb1; have hcu := bel_trans HCU.out hb1; obtain ⟨p0, p1, p2, p3, p4, p5⟩ := blk6 hk1; replace HK1 := hid hk1; replace HCU := hid hcu; clear HC2 hb1 hk1 hcu) | (go_at_call 128; refine (HKY.out _).mono ?_; rintro e w1 ⟨rfl, hb1⟩; have hk1 := HK1.out.bel hb1; have hcu := bel_trans HCU.out hb1; obtain ⟨p0, p1, p2, p3, p4, p5⟩ := blk6 hk1; replace HK1 := hid hk1; replace HCU := hid hcu; clear HKY hb1 hk1 hcu))
  go_ret;exact ⟨rfl, HCU.out⟩
end Go.Proofs.YthlhchaoedcdbaaGreatDoor.Cw
