/-
  Texts of earlier layers, as one.
-/
import Derived.Test.YtkejjdoaljoooaaGreatDoorRRun
import Derived.Deep.RegionHeld3
import Derived.Test.YtkejjdoaljoooaaGreatDoorRCodS
import Derived.BigRegion
import Derived.Deep.Cut
/- Commands, plainly: what is wrong with one, whether it writes, whether two meet, and its item. -/
namespace Go.Proofs.YtkejjdoaljoooaaGreatDoor.Cmd
open Lib (hid)
open Mem Run
structure Cm where
 kd : Int
 cl : Int
 sq : Int
 ky : ByteArray
 vl : ByteArray
 rv : Int
theorem Cm.ext_iff' {a b : Cm} : a = b ↔ a.kd = b.kd ∧ a.cl = b.cl ∧ a.sq = b.sq ∧ a.ky = b.ky ∧ a.vl = b.vl ∧ a.rv = b.rv := by
 cases a; cases b; simp
def eqv (a b : Cm) : Bool := a.kd == b.kd && a.cl == b.cl && a.sq == b.sq && decide (bts a.ky = bts b.ky) && decide (bts a.vl = bts b.vl) && a.rv == b.rv
theorem eqv_iff {a b : Cm} : eqv a b = true ↔ a = b := by
 rw [Cm.ext_iff'];simp only [eqv, Bool.and_eq_true, beq_iff_eq, decide_eq_true_eq, and_assoc];constructor
 · rintro ⟨h1, h2, h3, h4, h5, h6⟩
   exact ⟨h1, h2, h3, bts_inj h4, bts_inj h5, h6⟩
 · rintro ⟨h1, h2, h3, h4, h5, h6⟩
   exact ⟨h1, h2, h3, by rw [h4], by rw [h5], h6⟩
theorem eqv_refl (a : Cm) : eqv a a = true := eqv_iff.2 rfl
def zeroCm : Cm := ⟨0, 0, 0, ⟨#[]⟩, ⟨#[]⟩, 0⟩
def un (c : Cm) : Cm :=
 if c.kd = 4 then zeroCm
 else if c.kd = 2 then { zeroCm with rv := c.rv }
 else if c.kd = 1 ∨ c.kd = 3 ∨ c.kd = 5 then { zeroCm with vl := c.vl, rv := c.rv }
 else if c.kd = 0 ∨ c.kd = 6 then { c with kd := 0 }
 else c
def client (k : Int) : Bool := k != 0 && k != 6
def unformed (c : Cm) : Bool :=
 decide (c.kd < 0) || decide (c.kd > 6) || (!client c.kd && (c.cl != 0 || c.sq != 0 || !decide (bts c.ky = []))) || (client c.kd && (c.cl == 0 || c.sq == 0)) ||
  (c.kd != 2 && c.kd != 4 && !decide (bts c.vl = [])) || (c.kd != 4 && c.rv != 0)
def out (v most : Int) : Bool := decide (v < 0) || decide (v > most)
def far (c : Cm) : Bool := out c.cl 1048576 || out c.sq 1099511627776 || out c.rv 1099511627776
def chk (c : Cm) : Int :=
 if unformed c then 4
 else if far c then 6
 else if decide ((c.vl.size : Int) > 1024) then 12
 else if c.kd == 5 then begRet (beg (bts c.ky))
 else if client c.kd then begRet (key (bts c.ky))
 else 0
theorem bz : bts ⟨#[]⟩ = [] := rfl
theorem unformed_un (c : Cm) : unformed c = (!eqv (un c) zeroCm || (client c.kd && (c.cl == 0 || c.sq == 0))) := by
 obtain ⟨kd, cl, sq, ky, vl, rv⟩ := c;simp only [unformed, un, client];by_cases h4 : kd = 4
 · subst h4
   simp [eqv_refl]
 by_cases h2 : kd = 2
 · subst h2
   simp [zeroCm, eqv, Bool.or_comm, bne]
 by_cases h1 : kd = 1 ∨ kd = 3 ∨ kd = 5
 · rw [if_neg h4, if_neg h2, if_pos h1]
   have e0 : (kd != 0) = true := (by simp; omega);have e6 : (kd != 6) = true := (by simp; omega);have e2 : (kd != 2) = true := (by simpa using h2);have e4 : (kd != 4) = true := (by simpa using h4);have e7 : decide (kd < 0) = false := (by simp; omega);have e8 : decide (kd > 6) = false := (by simp; omega);simp only [e0, e6, e2, e4, e7, e8, zeroCm, eqv, bz];by_cases p : bts vl = [] <;> by_cases q : rv = 0 <;> simp [p, q, bne, Bool.or_comm]
 by_cases h0 : kd = 0 ∨ kd = 6
 · rw [if_neg h4, if_neg h2, if_neg h1, if_pos h0]
   have e0 : (kd != 0 && kd != 6) = false := (by rcases h0 with rfl | rfl <;> rfl);have e2 : (kd != 2) = true := (by simpa using h2);have e4 : (kd != 4) = true := (by simpa using h4);have e7 : decide (kd < 0) = false := (by simp; omega);have e8 : decide (kd > 6) = false := (by simp; omega);simp only [e0, e2, e4, e7, e8, zeroCm, eqv, bz];by_cases a : cl = 0 <;> by_cases b : sq = 0 <;> by_cases c : bts ky = [] <;> by_cases p : bts vl = [] <;> by_cases q : rv = 0 <;> simp [a, b, c, p, q, bne]
 · rw [if_neg h4, if_neg h2, if_neg h1, if_neg h0]
   have hz : ¬ ((⟨kd, cl, sq, ky, vl, rv⟩ : Cm) = zeroCm) := fun h => h0 (.inl (by have := (Cm.ext_iff'.1 h).1; exact this))
   have hz' : eqv ⟨kd, cl, sq, ky, vl, rv⟩ zeroCm = false := by
    cases h : eqv ⟨kd, cl, sq, ky, vl, rv⟩ zeroCm with
    | false => rfl
    | true => exact absurd (eqv_iff.1 h) hz
   rw [hz'];have : decide (kd < 0) = true ∨ decide (kd > 6) = true := (by simp; omega);rcases this with h | h <;> simp [h]
end Go.Proofs.YtkejjdoaljoooaaGreatDoor.Cmd
/- cmd.called, outside, Writes, unnamed, covers; the document's Writes and Great: what they answer. -/
namespace Go.Proofs.YtkejjdoaljoooaaGreatDoor.Cw
open Lib (hid)
open Go.RowKit Mem Run Cmd
theorem called_any (kd cl sq : Int) (ky vl : ByteArray) (rv : Int) (w : World) :
 Calls Tryz.prog 169 #[.agg #[.int .i64 kd, .int .i64 cl, .int .i64 sq, .string ky, .string vl, .int .i64 rv]] w (Tells (client kd) w) := by
 go_enter Tryz.func169, Tryz.ntmps169
 go_wp2_with fail
 all_goals
  go_ret;exact ⟨by simp_all [client], bel_alloc (Below.refl _ _) _⟩
theorem outside_any (v m : Int) (w : World) : Calls Tryz.prog 170 #[.int .i64 v, .int .i64 m] w fun e w' => e = .returned (.bool (out v m)) ∧ w = w' := by
 go_enter Tryz.func170, Tryz.ntmps170
 go_wp2_with fail
 all_goals
  go_ret;exact ⟨by simp_all [out], rfl⟩
end Go.Proofs.YtkejjdoaljoooaaGreatDoor.Cw
/- cmd.unnamed; whether two commands are the same. -/
namespace Go.Proofs.YtkejjdoaljoooaaGreatDoor.Cw
open Lib (hid)
open Go.RowKit Mem Run Cmd
theorem toList_iff (a b : ByteArray) : a.toList = b.toList ↔ bts a = bts b := by
 have h := eq_tell a b;constructor
 · intro e
   rw [e] at h;simpa using h
 · intro e
   rw [decide_eq_true e] at h;simpa using h
theorem eql_cmd (akd acl asq : Int) (aky avl : ByteArray) (arv : Int) (bkd bcl bsq : Int) (bky bvl : ByteArray) (brv : Int) (w : World) : Sem.run Tryz.prog (binOp .eql 38 (.agg #[.int .i64 akd, .int .i64 acl, .int .i64 asq, .string aky, .string avl, .int .i64 arv]) (.agg #[.int .i64 bkd, .int .i64 bcl, .int .i64 bsq, .string bky, .string bvl, .int .i64 brv])) w = .ok (.bool (eqv ⟨akd, acl, asq, aky, avl, arv⟩ ⟨bkd, bcl, bsq, bky, bvl, brv⟩)) w := by
 have u3 := Tryz.underlying3;have a3 := Tryz.isAgg3;have z3 := Tryz.sizeOf3;have u9 := Tryz.underlying9;have a9 := Tryz.isAgg9;have z9 := Tryz.sizeOf9;have hS : Tryz.prog.underlying 38 = some (.struct (Tryz.prog.fieldsOf 38)) := by kernel_rfl
 have hp : Tryz.prog.stoodInHeld 38 = false := by kernel_rfl
 rw [run_eql_struct, show (10000 : Nat) = 9999 + 1 from rfl, run_equalIn_agg w 9999 38 _ _ hS hp];simp only [Program.fieldsOf, Tryz.underlying38];go_simp;simp only [eqv, toList_iff];by_cases h1 : akd = bkd <;> by_cases h2 : acl = bcl <;> by_cases h3 : asq = bsq <;> by_cases h4 : bts aky = bts bky <;> by_cases h5 : bts avl = bts bvl <;> by_cases h6 : arv = brv <;> simp [h1, h2, h3, h4, h5, h6]
theorem neq_cmd (akd acl asq : Int) (aky avl : ByteArray) (arv : Int) (bkd bcl bsq : Int) (bky bvl : ByteArray) (brv : Int) (w : World) : Sem.run Tryz.prog (binOp .neq 38 (.agg #[.int .i64 akd, .int .i64 acl, .int .i64 asq, .string aky, .string avl, .int .i64 arv]) (.agg #[.int .i64 bkd, .int .i64 bcl, .int .i64 bsq, .string bky, .string bvl, .int .i64 brv])) w = .ok (.bool (!eqv ⟨akd, acl, asq, aky, avl, arv⟩ ⟨bkd, bcl, bsq, bky, bvl, brv⟩)) w := by
 have u3 := Tryz.underlying3;have a3 := Tryz.isAgg3;have z3 := Tryz.sizeOf3;have u9 := Tryz.underlying9;have a9 := Tryz.isAgg9;have z9 := Tryz.sizeOf9;have hS : Tryz.prog.underlying 38 = some (.struct (Tryz.prog.fieldsOf 38)) := by kernel_rfl
 have hp : Tryz.prog.stoodInHeld 38 = false := by kernel_rfl
 rw [run_neq_struct, show (10000 : Nat) = 9999 + 1 from rfl, run_equalIn_agg w 9999 38 _ _ hS hp];simp only [Program.fieldsOf, Tryz.underlying38];go_simp;simp only [eqv, toList_iff];by_cases h1 : akd = bkd <;> by_cases h2 : acl = bcl <;> by_cases h3 : asq = bsq <;> by_cases h4 : bts aky = bts bky <;> by_cases h5 : bts avl = bts bvl <;> by_cases h6 : arv = brv <;> simp [h1, h2, h3, h4, h5, h6]
theorem unnamed_any (kd cl sq : Int) (ky vl : ByteArray) (rv : Int) (w : World) :
 Calls Tryz.prog 168 #[.agg #[.int .i64 kd, .int .i64 cl, .int .i64 sq, .string ky, .string vl, .int .i64 rv]] w fun e w' => ∃ c : Cm, e = .returned (.agg #[.int .i64 c.kd, .int .i64 c.cl, .int .i64 c.sq, .string c.ky, .string c.vl, .int .i64 c.rv]) ∧ c = un ⟨kd, cl, sq, ky, vl, rv⟩ ∧ Below w.heap.size w w' := by
 go_enter Tryz.func168, Tryz.ntmps168
 go_wp2_with fail
 all_goals
  refine bodyPost_ret (v := .agg #[.int .i64 (un ⟨kd, cl, sq, ky, vl, rv⟩).kd, .int .i64 (un ⟨kd, cl, sq, ky, vl, rv⟩).cl, .int .i64 (un ⟨kd, cl, sq, ky, vl, rv⟩).sq, .string (un ⟨kd, cl, sq, ky, vl, rv⟩).ky, .string (un ⟨kd, cl, sq, ky, vl, rv⟩).vl, .int .i64 (un ⟨kd, cl, sq, ky, vl, rv⟩).rv]) (by simp_all [results, Tryz.results168, go_sem, un, zeroCm]) rfl ⟨un ⟨kd, cl, sq, ky, vl, rv⟩, rfl, rfl, bel_alloc (bel_alloc (Below.refl _ _) _) _⟩
end Go.Proofs.YtkejjdoaljoooaaGreatDoor.Cw
/- cmd.covers and Meet. -/
namespace Go.Proofs.YtkejjdoaljoooaaGreatDoor.Cw
open Lib (hid)
open Go.RowKit Mem Run Cmd
theorem blk6 {w : World} {g : Nat} {t : TypeId} {a b c d e f : Value} (h : Blk w g t #[a, b, c, d, e, f]) : w.cell? ⟨g, 0, none⟩ = some a ∧ w.cell? ⟨g, 1, none⟩ = some b ∧ w.cell? ⟨g, 2, none⟩ = some c ∧ w.cell? ⟨g, 3, none⟩ = some d ∧ w.cell? ⟨g, 4, none⟩ = some e ∧ w.cell? ⟨g, 5, none⟩ = some f :=
 ⟨h.cell 0, h.cell 1, h.cell 2, h.cell 3, h.cell 4, h.cell 5⟩
end Go.Proofs.YtkejjdoaljoooaaGreatDoor.Cw
/- cmd.Check: what is wrong with any command. -/
namespace Go.Proofs.YtkejjdoaljoooaaGreatDoor.Cw
open Lib (hid)
open Go.RowKit Mem Run Cmd
def Checks (v : Int) (w : World) (e : Ending) (w' : World) : Prop := e = .returned (.int .i64 v) ∧ Below w.heap.size w w'
theorem chk_eq (c : Cm) (r k z1 z2 o1 o2 o3 l f : Bool) (hr : eqv (un c) zeroCm = r) (hk : client c.kd = k) (h1 : (c.cl == 0) = z1) (h2 : (c.sq == 0) = z2) (h3 : out c.cl 1048576 = o1) (h4 : out c.sq 1099511627776 = o2) (h5 : out c.rv 1099511627776 = o3) (h6 : decide ((c.vl.size : Int) > 1024) = l) (h7 : (c.kd == 5) = f) :
 chk c = if (!r || (k && (z1 || z2))) = true then 4 else if (o1 || o2 || o3) = true then 6 else if l = true then 12 else if f = true then begRet (beg (bts c.ky)) else if k = true then begRet (key (bts c.ky)) else 0 := by
 subst hr; subst hk; subst h1; subst h2; subst h3; subst h4; subst h5; subst h6; subst h7;rw [chk, unformed_un];rfl
set_option maxHeartbeats 4000000 in
theorem check_any (kd cl sq : Int) (ky vl : ByteArray) (rv : Int) (w : World) :
 Calls Tryz.prog 140 #[.agg #[.int .i64 kd, .int .i64 cl, .int .i64 sq, .string ky, .string vl, .int .i64 rv]] w (Checks (chk ⟨kd, cl, sq, ky, vl, rv⟩) w) := by
 have hkb : (kd == 5) = true → client kd = true := fun h => by rw [eq_of_beq h]; rfl
 obtain ⟨r, hr⟩ : ∃ r, eqv (un ⟨kd, cl, sq, ky, vl, rv⟩) zeroCm = r := ⟨_, rfl⟩
 obtain ⟨k, hk⟩ : ∃ k, client kd = k := ⟨_, rfl⟩
 obtain ⟨z1, h1⟩ : ∃ z, (cl == 0) = z := ⟨_, rfl⟩
 obtain ⟨z2, h2⟩ : ∃ z, (sq == 0) = z := ⟨_, rfl⟩
 obtain ⟨o1, h3⟩ : ∃ z, out cl 1048576 = z := ⟨_, rfl⟩
 obtain ⟨o2, h4⟩ : ∃ z, out sq 1099511627776 = z := ⟨_, rfl⟩
 obtain ⟨o3, h5⟩ : ∃ z, out rv 1099511627776 = z := ⟨_, rfl⟩
 obtain ⟨l, h6⟩ : ∃ z, decide ((vl.size : Int) > 1024) = z := ⟨_, rfl⟩
 obtain ⟨f, h7⟩ : ∃ z, (kd == 5) = z := ⟨_, rfl⟩
 rw [chk_eq ⟨kd, cl, sq, ky, vl, rv⟩ r k z1 z2 o1 o2 o3 l f hr hk h1 h2 h3 h4 h5 h6 h7]
 have hne : ∀ c : Cm, c = un ⟨kd, cl, sq, ky, vl, rv⟩ → ∀ w, Sem.run Tryz.prog (binOp .neq 38 (.agg #[.int .i64 c.kd, .int .i64 c.cl, .int .i64 c.sq, .string c.ky, .string c.vl, .int .i64 c.rv]) (.agg #[.int .i64 0, .int .i64 0, .int .i64 0, .string ⟨#[]⟩, .string ⟨#[]⟩, .int .i64 0])) w = .ok (.bool (!r)) w := by
  intro c hc w;rw [neq_cmd, ← hr, ← hc];rfl
 have HNE := hid hne;have HU := hid (fun w => unnamed_any kd cl sq ky vl rv w);have hc1 := fun w => called_any kd cl sq ky vl rv w;have ho1 := fun w => outside_any cl 1048576 w;have ho2 := fun w => outside_any sq 1099511627776 w;have ho3 := fun w => outside_any rv 1099511627776 w;rw [h3] at ho1;rw [h4] at ho2;rw [h5] at ho3;rw [hk] at hc1 hkb;rw [h7] at hkb;have HC1 := hid hc1;have HC2 := hid hc1;have HO1 := hid ho1;have HO2 := hid ho2;have HO3 := hid ho3;have HBG := hid (fun w => begin_any ky w);have HKY := hid (fun w => key_any ky w);have hk1 := Blk.new w 38 #[.int .i64 kd, .int .i64 cl, .int .i64 sq, .string ky, .string vl, .int .i64 rv];have hcu := bel_alloc (Below.refl w.heap.size w) (.cells #[.int .i64 kd, .int .i64 cl, .int .i64 sq, .string ky, .string vl, .int .i64 rv] 38);have HK1 := hid hk1;have HCU := hid hcu;have HKB := hid hkb;show Calls Tryz.prog _ _ _ (Checks (if (!r || (k && (z1 || z2))) = true then 4 else if (o1 || o2 || o3) = true then 6 else if l = true then 12 else if f = true then begRet (beg (bts ky)) else if k = true then begRet (key (bts ky)) else 0) w);generalize begRet (beg (bts ky)) = gb at HBG ⊢;generalize begRet (key (bts ky)) = gk at HKY ⊢;clear hne hc1 ho1 ho2 ho3 hk1 hcu hkb hr hk h3 h4 h5;go_enter Tryz.func140, Tryz.ntmps140
 cases r
 rotate_left
 cases k;cases o1;cases o2;cases o3;cases l;cases f
 rotate_left
 exact absurd (HKB.out rfl) (by decide)
 iterate 4 rotate_left
 cases z1;cases z2;cases o1;cases o2;cases o3;cases l;cases f
 all_goals
  go_wp2_with (first | (go_at_call 168; refine (HU.out _).mono ?_; rintro e w1 ⟨c, rfl, hc, hb1⟩; have hne := HNE.out c hc; have hk1 := HK1.out.bel hb1; have hcu := bel_trans HCU.out hb1; obtain ⟨p0, p1, p2, p3, p4, p5⟩ := blk6 hk1; replace HK1 := hid hk1; replace HCU := hid hcu; obtain ⟨c1, c2, c3, c4, c5, c6⟩ := c; simp only at hne ⊢; clear HU hb1 hk1 hcu hc) | (go_at_call 169; refine (HC1.out _).mono ?_; rintro e w1 ⟨rfl, hb1⟩; have hk1 := HK1.out.bel hb1; have hcu := bel_trans HCU.out hb1; obtain ⟨p0, p1, p2, p3, p4, p5⟩ := blk6 hk1; replace HK1 := hid hk1; replace HCU := hid hcu; clear HC1 hb1 hk1 hcu) | (go_at_call 170; refine (HO1.out _).mono ?_; rintro e w1 ⟨rfl, rfl⟩; clear HO1) | (go_at_call 170; refine (HO2.out _).mono ?_; rintro e w1 ⟨rfl, rfl⟩; clear HO2) | (go_at_call 170; refine (HO3.out _).mono ?_; rintro e w1 ⟨rfl, rfl⟩; clear HO3) | (go_at_call 171; refine (HBG.out _).mono ?_; rintro e w1 ⟨rfl, hb1⟩; have hk1 := HK1.out.bel hb1; have hcu := bel_trans HCU.out hb1; obtain ⟨p0, p1, p2, p3, p4, p5⟩ := blk6 hk1; replace HK1 := hid hk1; replace HCU := hid hcu; clear HBG hb1 hk1 hcu) | (go_at_call 169; refine (HC2.out _).mono ?_; rintro e w1 ⟨rfl, hb1⟩; have hk1 := HK1.out.bel hb1; have hcu := bel_trans HCU.out hb1; obtain ⟨p0, p1, p2, p3, p4, p5⟩ := blk6 hk1; replace HK1 := hid hk1; replace HCU := hid hcu; clear HC2 hb1 hk1 hcu) | (go_at_call 172; refine (HKY.out _).mono ?_; rintro e w1 ⟨rfl, hb1⟩; have hk1 := HK1.out.bel hb1; have hcu := bel_trans HCU.out hb1; obtain ⟨p0, p1, p2, p3, p4, p5⟩ := blk6 hk1; replace HK1 := hid hk1; replace HCU := hid hcu; clear HKY hb1 hk1 hcu))
  go_ret;exact ⟨rfl, HCU.out⟩
end Go.Proofs.YtkejjdoaljoooaaGreatDoor.Cw
/- Commands as items, of no program: the item of a command, the command that an item's parts say, when an item is a right command's. -/
namespace Go.Proofs.YtkejjdoaljoooaaGreatDoor.Cmd
open Lib (hid)
open Cod Mem Run
def numIt (v : Int) : It := .mk 0 v.toNat ByteArray.empty []
def textIt (s : ByteArray) : It := .mk 1 0 s []
def parts (c : Cm) : List It := [numIt c.kd, numIt c.cl, numIt c.sq, textIt c.ky, textIt c.vl, numIt c.rv]
def cmIt (c : Cm) : It := .mk 2 0 ByteArray.empty (parts c)
def zeroIt : It := .mk 0 0 ByteArray.empty []
def itemOf (c : Cm) : It := if Cmd.chk c = 0 then cmIt c else zeroIt
theorem bytes_le (l : List Nat) : l.length ≤ 4 * (pieces l).length := by
 have h : ∀ ps : List Pc, (ps.flatMap Pc.bytes).length ≤ 4 * ps.length := by
  intro ps;induction ps with
  | nil => simp
  | cons p ps ih =>
    have := (bytes_len p).2;simp only [List.flatMap_cons, List.length_append, List.length_cons];omega
 have := h (pieces l);rwa [join_pieces] at this
theorem beg_len {l : List Nat} (h : beg l = true) : l.length ≤ 128 := by
 have h1 := bytes_le l;simp only [beg, Bool.and_eq_true, decide_eq_true_eq] at h;omega
theorem key_beg {l : List Nat} (h : key l = true) : beg l = true := by
 simp only [key, Bool.and_eq_true] at h;exact h.2
theorem chk_right {c : Cm} (h : Cmd.chk c = 0) : (0 ≤ c.kd ∧ c.kd ≤ 6) ∧ (0 ≤ c.cl ∧ c.cl ≤ 1048576) ∧ (0 ≤ c.sq ∧ c.sq ≤ 1099511627776) ∧ (0 ≤ c.rv ∧ c.rv ≤ 1099511627776) ∧ c.vl.size ≤ 1024 ∧ c.ky.size ≤ 128 := by
 unfold Cmd.chk at h;split at h
 · cases h
 rename_i h1;split at h
 · cases h
 rename_i h2;split at h
 · cases h
 rename_i h3
 have e1 : 0 ≤ c.kd ∧ c.kd ≤ 6 := by
  simp only [unformed, Bool.or_eq_true, not_or, decide_eq_true_eq] at h1;omega
 simp only [far, out, Bool.or_eq_true, not_or, decide_eq_true_eq] at h2;simp only [decide_eq_true_eq] at h3;refine ⟨e1, by omega, by omega, by omega, by omega, ?_⟩;rw [← Mem.length_bts];by_cases hk : client c.kd = true
 · split at h
   · rename_i h5
     refine beg_len ?_;cases hb : beg (Mem.bts c.ky) with
     | true => rfl
     | false => rw [hb] at h; cases h
   · refine beg_len (key_beg ?_)
     cases hb : key (Mem.bts c.ky) with
     | true => rfl
     | false => rw [hb] at h; cases h
 · have hk' : client c.kd = false := by simpa using hk
   simp only [unformed, Bool.or_eq_true, not_or, hk', Bool.not_false, Bool.true_and, decide_eq_true_eq, Bool.not_eq_true', decide_eq_false_iff_not, Classical.not_not] at h1;have hn : Mem.bts c.ky = [] := h1.1.1.1.2.2;rw [hn];exact Nat.zero_le _
theorem wts_parts (c : Cm) : wts (parts c) = 6 + c.ky.size + c.vl.size := by
 simp [parts, numIt, textIt, wts, wt];omega
theorem wt_item (c : Cm) : wt (itemOf c) ≤ 2000 := by
 unfold itemOf;split
 · rename_i h
   obtain ⟨_, _, _, _, h5, h6⟩ := chk_right h;show 1 + ByteArray.empty.size + wts (parts c) ≤ _;rw [wts_parts];simp;omega
 · decide
def w64 (n : Nat) : Int := IntKind.i64.wrap (n : Int)
theorem w64_small {n : Nat} (h : n ≤ 9223372036854775807) : w64 n = n := by
 unfold w64;simp [IntKind.wrap, IntKind.bits, IntKind.signed];omega
def kid (x : It) (i : Nat) : It := x.kids.getD i zeroIt
def cmOf (x : It) : Cm := ⟨w64 (kid x 0).num, w64 (kid x 1).num, w64 (kid x 2).num, (kid x 3).str, (kid x 4).str, w64 (kid x 5).num⟩
def takeOf (x : It) : Option Cm := if x.kids.length = 6 ∧ same (itemOf (cmOf x)) x = true then some (cmOf x) else none
theorem cm_back {c : Cm} (h : Cmd.chk c = 0) : cmOf (cmIt c) = c := by
 obtain ⟨h1, h2, h3, h4, _, _⟩ := chk_right h;obtain ⟨kd, cl, sq, ky, vl, rv⟩ := c;simp only at h1 h2 h3 h4;have e : ∀ v : Int, 0 ≤ v → v ≤ 1099511627776 → w64 v.toNat = v := fun v a b => by rw [w64_small (by omega)]; omega
 show (⟨w64 kd.toNat, w64 cl.toNat, w64 sq.toNat, ky, vl, w64 rv.toNat⟩ : Cm) = _;rw [e kd (by omega) (by omega), e cl (by omega) (by omega), e sq (by omega) (by omega), e rv (by omega) (by omega)]
theorem take_cm {c : Cm} (h : Cmd.chk c = 0) : takeOf (cmIt c) = some c := by
 rw [takeOf, cm_back h, if_pos ⟨rfl, (same_iff _ _).2 (by rw [itemOf, if_pos h])⟩]
def cap (n : Nat) : Int := if n > 4611686018427387904 then 4611686018427387904 else w64 n
end Go.Proofs.YtkejjdoaljoooaaGreatDoor.Cmd
/- cmd.Item of any command, and the document's of a right one: in memory of the call's own. -/
namespace Go.Proofs.YtkejjdoaljoooaaGreatDoor.Cw
open Lib (hid)
open Go.RowKit Mem Cmd Cod
theorem text_any (s : ByteArray) (w : World) : Calls Tryz.prog 66 #[.string s] w (Hands (.agg #[.int .i64 1, .int .u64 0, .string s, .slice none 0 0]) w) := by
 go_enter Tryz.func66, Tryz.ntmps66
 go_wp2_with fail
 exact bodyPost_ret (v := .agg #[.int .i64 1, .int .u64 0, .string s, .slice none 0 0]) (by simp [results, Tryz.results66, go_sem]) rfl ⟨rfl, bel_alloc (Below.refl _ _) _⟩
theorem number_any (v : Int) (h0 : 0 ≤ v) (h1 : v ≤ 9223372036854775807) (w : World) : Calls Tryz.prog 144 #[.int .i64 v] w (Hands (.agg #[.int .i64 0, .int .u64 v, .string ByteArray.empty, .slice none 0 0]) w) := by
 have hu : IntKind.u64.wrap v = v := u64_in h0 (by omega);have HBX := hid (Blk.new w 95 #[.int .i64 0, .int .u64 0, .string ⟨#[]⟩, .slice none 0 0]);have HB0 := hid (bel_alloc (Below.refl w.heap.size w) (.cells #[.int .i64 0, .int .u64 0, .string ⟨#[]⟩, .slice none 0 0] 95));have HN := hid (fun w => num_any v w);go_enter Tryz.func144, Tryz.ntmps144
 go_wp2_with (go_at_call 67; refine (HN.out _).mono ?_; rintro e w2 ⟨rfl, hb2⟩; have hblk := HBX.out.bel hb2; obtain ⟨c0, c1, c2, c3⟩ := blk4 hblk; have z0 := hblk.soft 0; have z1 := hblk.soft 1; have z2 := hblk.soft 2; have z3 := hblk.soft 3; have HB2 := hid (bel_trans HB0.out hb2); clear hb2)
 have hs2 := HB2.out.size;obtain ⟨hblk2, hgr⟩ := blk4_set hblk (.int .i64 0) (.int .u64 v) (.string ByteArray.empty) (.slice none 0 0);generalize (((w2.setCell ⟨w.heap.size, 0, none⟩ (.int .i64 0)).setCell ⟨w.heap.size, 1, none⟩ (.int .u64 v)).setCell ⟨w.heap.size, 2, none⟩ (.string ByteArray.empty)).setCell ⟨w.heap.size, 3, none⟩ (.slice none 0 0) = w9 at hblk2 hgr ⊢;obtain ⟨d0, d1, d2, d3⟩ := blk4 hblk2;exact bodyPost_ret (v := .agg #[.int .i64 0, .int .u64 v, .string ByteArray.empty, .slice none 0 0]) (by simp [results, Tryz.results144, go_sem, d0, d1, d2, d3]) rfl ⟨rfl, HB2.out.trans (gr_below hgr (by omega) fun b hb => by cases hb; omega)⟩
theorem held6 {w w' : World} {g : Nat} {t : TypeId} {a b c d e f : Value} (h1 : Blk w g t #[a, b, c, d, e, f]) (hb : Below w.heap.size w w') :
 w'.cell? ⟨g, 0, none⟩ = some a ∧ w'.cell? ⟨g, 1, none⟩ = some b ∧ w'.cell? ⟨g, 2, none⟩ = some c ∧ w'.cell? ⟨g, 3, none⟩ = some d ∧ w'.cell? ⟨g, 4, none⟩ = some e ∧ w'.cell? ⟨g, 5, none⟩ = some f := blk6 (h1.bel hb)
theorem held6a {w w' : World} {g : Nat} {t : TypeId} {a b c d e f : Value} (h1 : Blk w g t #[a, b, c, d, e, f]) (hb : Below w.heap.size w w') (o : Obj) :
 (w'.alloc o).cell? ⟨g, 0, none⟩ = some a ∧ (w'.alloc o).cell? ⟨g, 1, none⟩ = some b ∧ (w'.alloc o).cell? ⟨g, 2, none⟩ = some c ∧ (w'.alloc o).cell? ⟨g, 3, none⟩ = some d ∧ (w'.alloc o).cell? ⟨g, 4, none⟩ = some e ∧ (w'.alloc o).cell? ⟨g, 5, none⟩ = some f := blk6 ((h1.bel hb).alloc o)
def hung6 (kd cl sq : Int) (ky vl : ByteArray) (rv : Int) : List Hung := [⟨numIt kd, none, 0⟩, ⟨numIt cl, none, 0⟩, ⟨numIt sq, none, 0⟩, ⟨textIt ky, none, 0⟩, ⟨textIt vl, none, 0⟩, ⟨numIt rv, none, 0⟩]
theorem hung6_row {kd cl sq : Int} {ky vl : ByteArray} {rv : Int} (h : Cmd.chk ⟨kd, cl, sq, ky, vl, rv⟩ = 0) (w : World) (t : TypeId) :
 Cod.Row (w.alloc (.cells #[.int .i64 0, .int .u64 kd, .string ByteArray.empty, .slice none 0 0, .int .i64 0, .int .u64 cl, .string ByteArray.empty, .slice none 0 0, .int .i64 0, .int .u64 sq, .string ByteArray.empty, .slice none 0 0, .int .i64 1, .int .u64 0, .string ky, .slice none 0 0, .int .i64 1, .int .u64 0, .string vl, .slice none 0 0, .int .i64 0, .int .u64 rv, .string ByteArray.empty, .slice none 0 0] t)) (fun b => b = w.heap.size) (some ⟨w.heap.size, 0, none⟩) 6 6 (parts ⟨kd, cl, sq, ky, vl, rv⟩) := by
 obtain ⟨h1, h2, h3, h4, h5, h6⟩ := chk_right h;simp only at h1 h2 h3 h4 h5 h6;refine row_new w (fun b => b = w.heap.size) rfl (hung6 kd cl sq ky vl rv) 6 rfl (by decide) _ t ?_ ?_
 · have e0 : ((kd.toNat : Nat) : Int) = kd := Int.toNat_of_nonneg h1.1
   have e1 : ((cl.toNat : Nat) : Int) = cl := Int.toNat_of_nonneg h2.1;have e2 : ((sq.toNat : Nat) : Int) = sq := Int.toNat_of_nonneg h3.1;have e5 : ((rv.toNat : Nat) : Int) = rv := Int.toNat_of_nonneg h4.1;show _ = [Value.int .i64 0, .int .u64 ((kd.toNat : Nat) : Int), .string ByteArray.empty, .slice none 0 0, .int .i64 0, .int .u64 ((cl.toNat : Nat) : Int), .string ByteArray.empty, .slice none 0 0, .int .i64 0, .int .u64 ((sq.toNat : Nat) : Int), .string ByteArray.empty, .slice none 0 0, .int .i64 1, .int .u64 ((0 : Nat) : Int), .string ky, .slice none 0 0, .int .i64 1, .int .u64 ((0 : Nat) : Int), .string vl, .slice none 0 0, .int .i64 0, .int .u64 ((rv.toNat : Nat) : Int), .string ByteArray.empty, .slice none 0 0];rw [e0, e1, e2, e5];rfl
 · intro x hx
   simp only [hung6, List.mem_cons, List.not_mem_nil, or_false] at hx;rcases hx with rfl | rfl | rfl | rfl | rfl | rfl;all_goals exact lies_leaf _ _ (by decide) (by first | omega | decide) (by first | decide | omega)
theorem two_kinds (w : World) (t u : TypeId) (a b : Array Value) (W : World) (hW : (w.alloc (.cells a t)).alloc (.cells b u) = W) : Blk W w.heap.size t a ∧ Blk W (w.heap.size + 1) u b ∧ Below w.heap.size w W ∧ W.heap.size = w.heap.size + 2 := by
 subst hW;have h := Blk.new (w.alloc (.cells a t)) u b;rw [size_alloc] at h;exact ⟨(Blk.new w t a).alloc _, h, ((Below.refl w.heap.size w).alloc (Nat.le_refl _) _).alloc (by rw [size_alloc]; omega) _, by rw [size_alloc, size_alloc]⟩
set_option maxRecDepth 100000 in
set_option maxHeartbeats 4000000 in
theorem cmitem_new (kd cl sq : Int) (ky vl : ByteArray) (rv : Int) (w : World) :
 Calls Tryz.prog 97 #[.agg #[.int .i64 kd, .int .i64 cl, .int .i64 sq, .string ky, .string vl, .int .i64 rv]] w (GivesNew w (itemOf ⟨kd, cl, sq, ky, vl, rv⟩)) := by
 obtain ⟨W, hW⟩ : ∃ W, (w.alloc (.cells #[.int .i64 kd, .int .i64 cl, .int .i64 sq, .string ky, .string vl, .int .i64 rv] 38)).alloc (.cells #[.int .i64 0, .int .u64 0, .string ⟨#[]⟩, .slice none 0 0] 95) = W := ⟨_, rfl⟩
 obtain ⟨k1, k2, kb, hsW⟩ := two_kinds w _ _ _ _ W hW;have HK1 := hid k1;have HBX := hid k2;have HB0 := hid kb;have HW := hid hW;obtain ⟨p0, p1, p2, p3, p4, p5⟩ := blk6 k1;obtain ⟨y0, y1, y2, y3⟩ := blk4 k2;have hck := check_any kd cl sq ky vl rv W;clear k1 k2 kb hW;go_enter Tryz.func97, Tryz.ntmps97
 go_wp2_with fail
 rw [HW.out];by_cases hc : Cmd.chk ⟨kd, cl, sq, ky, vl, rv⟩ = 0
 case neg =>
  have hit : itemOf ⟨kd, cl, sq, ky, vl, rv⟩ = zeroIt := by rw [itemOf, if_neg hc]
  have HIT := hid hit;generalize Cmd.chk ⟨kd, cl, sq, ky, vl, rv⟩ = v at hck hc;have hne : (v != 0) = true := by simpa using hc
  have HCK := hid hck;clear hck hit hc p0 p1 p2 p3 p4 p5 y0 y1 y2 y3;refine HCK.out.mono ?_;rintro e w2 ⟨rfl, hb2⟩;have hblk := HBX.out.bel hb2;have HB2 := hid (bel_trans HB0.out hb2);obtain ⟨c0, c1, c2, c3⟩ := blk4 hblk;have z0 := hblk.soft 0;have z1 := hblk.soft 1;have z2 := hblk.soft 2;have z3 := hblk.soft 3;have hs2 := hb2.size;clear hb2;go_wp2_with fail
  obtain ⟨hblk2, hgr⟩ := blk4_set hblk (.int .i64 0) (.int .u64 0) (.string ⟨#[]⟩) (.slice none 0 0);generalize (((w2.setCell ⟨w.heap.size + 1, 0, none⟩ (.int .i64 0)).setCell ⟨w.heap.size + 1, 1, none⟩ (.int .u64 0)).setCell ⟨w.heap.size + 1, 2, none⟩ (.string ⟨#[]⟩)).setCell ⟨w.heap.size + 1, 3, none⟩ (.slice none 0 0) = w9 at hblk2 hgr ⊢;obtain ⟨d0, d1, d2, d3⟩ := blk4 hblk2;refine bodyPost_ret (v := .agg #[.int .i64 0, .int .u64 0, .string ByteArray.empty, .slice none 0 0]) (by simp [results, Tryz.results97, go_sem, d0, d1, d2, d3]; rfl) rfl ?_;rw [HIT.out];exact ⟨none, 0, rfl, lies_leaf _ _ (by omega) (by omega) (by decide), HB2.out.trans (gr_below hgr (by omega) fun b hb => by cases hb; omega)⟩
 have hit : itemOf ⟨kd, cl, sq, ky, vl, rv⟩ = cmIt ⟨kd, cl, sq, ky, vl, rv⟩ := by rw [itemOf, if_pos hc]
 rw [hc] at hck;have HIT := hid hit;have HCK := hid hck;clear hit hck;have HCH := hid hc;obtain ⟨b1, b2, b3, b4, b5, b6⟩ := chk_right hc;simp only at b1 b2 b3 b4 b5 b6;have HSZ := hid (show wts (parts ⟨kd, cl, sq, ky, vl, rv⟩) ≤ 100000 by rw [wts_parts]; simp only; omega);have H0 := hid (number_any kd b1.1 (by omega));have H1 := hid (number_any cl b2.1 (by omega));have H2 := hid (number_any sq b3.1 (by omega));have H3 := hid (fun w => text_any ky w);have H4 := hid (fun w => text_any vl w);have H5 := hid (number_any rv b4.1 (by omega));clear hc b1 b2 b3 b4 b5 b6;refine HCK.out.mono ?_;rintro e w2 ⟨rfl, hb2⟩;have HCUR := hid (Below.drew hb2);obtain ⟨p0, p1, p2, p3, p4, p5⟩ := blk6 (HK1.out.bel hb2);obtain ⟨y0, y1, y2, y3⟩ := blk4 (HBX.out.bel hb2);clear hb2 HCK;go_wp2_with fail
 go_region_held3 (fun w' => w'.cell? ⟨w.heap.size, 0, none⟩ = some (.int .i64 kd) ∧ w'.cell? ⟨w.heap.size, 1, none⟩ = some (.int .i64 cl) ∧ w'.cell? ⟨w.heap.size, 2, none⟩ = some (.int .i64 sq) ∧ w'.cell? ⟨w.heap.size, 3, none⟩ = some (.string ky) ∧ w'.cell? ⟨w.heap.size, 4, none⟩ = some (.string vl) ∧ w'.cell? ⟨w.heap.size, 5, none⟩ = some (.int .i64 rv)) (first | (with_reducible exact held6a HK1.out HCUR.out _) | (with_reducible exact held6 HK1.out HCUR.out) | (with_reducible exact HLAST.out _ _ _ _))
  (first
  | (go_at_call 144
     refine (H0.out _).mono ?_;rintro e v1 ⟨rfl, hb1⟩;have hnow := HCUR.out.trans (hb1.mono HCUR.out.size);replace HCUR := hid hnow;clear H0 hb1 hnow)
  | (go_at_call 144
     refine (H1.out _).mono ?_;rintro e v1 ⟨rfl, hb1⟩;have hnow := HCUR.out.trans (hb1.mono HCUR.out.size);replace HCUR := hid hnow;clear H1 hb1 hnow)
  | (go_at_call 144
     refine (H2.out _).mono ?_;rintro e v1 ⟨rfl, hb1⟩;have hnow := HCUR.out.trans (hb1.mono HCUR.out.size);replace HCUR := hid hnow;clear H2 hb1 hnow)
  | (go_at_call 66
     refine (H3.out _).mono ?_;rintro e v1 ⟨rfl, hb1⟩;have hnow := HCUR.out.trans (hb1.mono HCUR.out.size);replace HCUR := hid hnow;clear H3 hb1 hnow)
  | (go_at_call 66
     refine (H4.out _).mono ?_;rintro e v1 ⟨rfl, hb1⟩;have hnow := HCUR.out.trans (hb1.mono HCUR.out.size);replace HCUR := hid hnow;clear H4 hb1 hnow)
  | (go_at_call 144
     refine (H5.out _).mono ?_;rintro e v1 ⟨rfl, hb1⟩;have hnow := HCUR.out.trans (hb1.mono HCUR.out.size);replace HCUR := hid hnow;clear H5 hb1 hnow)
  | (go_at_call 65
     refine (list_more _ 6 6 _ (parts ⟨kd, cl, sq, ky, vl, rv⟩) _ (hung6_row HCH.out v1 95) (fun b hb => by have := size_alloc v1 (.cells #[.int .i64 0, .int .u64 kd, .string ByteArray.empty, .slice none 0 0, .int .i64 0, .int .u64 cl, .string ByteArray.empty, .slice none 0 0, .int .i64 0, .int .u64 sq, .string ByteArray.empty, .slice none 0 0, .int .i64 1, .int .u64 0, .string ky, .slice none 0 0, .int .i64 1, .int .u64 0, .string vl, .slice none 0 0, .int .i64 0, .int .u64 rv, .string ByteArray.empty, .slice none 0 0] 95); omega) HSZ.out).mono ?_;rintro e w5 ⟨V5, c5, rfl, hr5, hb5⟩;have hs6 := size_alloc v1 (.cells #[.int .i64 0, .int .u64 kd, .string ByteArray.empty, .slice none 0 0, .int .i64 0, .int .u64 cl, .string ByteArray.empty, .slice none 0 0, .int .i64 0, .int .u64 sq, .string ByteArray.empty, .slice none 0 0, .int .i64 1, .int .u64 0, .string ky, .slice none 0 0, .int .i64 1, .int .u64 0, .string vl, .slice none 0 0, .int .i64 0, .int .u64 rv, .string ByteArray.empty, .slice none 0 0] 95);have hs5 := hb5.size;have hsv := HCUR.out.size;have hnow := (HCUR.out.alloc HCUR.out.size (.cells #[.int .i64 0, .int .u64 kd, .string ByteArray.empty, .slice none 0 0, .int .i64 0, .int .u64 cl, .string ByteArray.empty, .slice none 0 0, .int .i64 0, .int .u64 sq, .string ByteArray.empty, .slice none 0 0, .int .i64 1, .int .u64 0, .string ky, .slice none 0 0, .int .i64 1, .int .u64 0, .string vl, .slice none 0 0, .int .i64 0, .int .u64 rv, .string ByteArray.empty, .slice none 0 0] 95)).trans (hb5.mono (by omega));have hblk := HBX.out.bel hnow;obtain ⟨c0, c1, c2, c3⟩ := blk4 hblk;have z0 := hblk.soft 0;have z1 := hblk.soft 1;have z2 := hblk.soft 2;have z3 := hblk.soft 3;have HR5 := hid hr5;have HB5 := hid hnow;replace HCUR := hid hnow;have HKB := hid hblk;have hs7 : W.heap.size ≤ v1.heap.size := hsv;have HVV := hid (And.intro hs6 (And.intro hs5 hs7));obtain ⟨p0, p1, p2, p3, p4, p5⟩ := blk6 (HK1.out.bel hnow);have HLAST := hid (show ∀ (x0 x1 x2 x3 : Value), _ from fun x0 x1 x2 x3 => blk6 (((((HK1.out.bel hnow).far (p := ⟨w.heap.size + 1, 0, none⟩) (by simp) x0).far (p := ⟨w.heap.size + 1, 1, none⟩) (by simp) x1).far (p := ⟨w.heap.size + 1, 2, none⟩) (by simp) x2).far (p := ⟨w.heap.size + 1, 3, none⟩) (by simp) x3));clear hr5 hb5 hnow hblk hs6 hs5 hsv hs7))
 go_wp2_with fail
 obtain ⟨hblk2, hgr⟩ := blk4_set HKB.out (.int .i64 2) (.int .u64 0) (.string ByteArray.empty) (.slice V5 6 c5);generalize (((w5.setCell ⟨w.heap.size + 1, 0, none⟩ (.int .i64 2)).setCell ⟨w.heap.size + 1, 1, none⟩ (.int .u64 0)).setCell ⟨w.heap.size + 1, 2, none⟩ (.string ByteArray.empty)).setCell ⟨w.heap.size + 1, 3, none⟩ (.slice V5 6 c5) = w9 at hblk2 hgr ⊢;obtain ⟨d0, d1, d2, d3⟩ := blk4 hblk2;refine bodyPost_ret (v := .agg #[.int .i64 2, .int .u64 0, .string ByteArray.empty, .slice V5 6 c5]) (by simp [results, Tryz.results97, go_sem, d0, d1, d2, d3]) rfl ?_;obtain ⟨e1, e2, e3⟩ := HVV.out;have hs9 := hgr.size;have hrow9 : Cod.Row w9 (fun b => w.heap.size ≤ b ∧ b < w9.heap.size) V5 6 c5 (parts ⟨kd, cl, sq, ky, vl, rv⟩) := (HR5.out.grown hgr (fun b hb e => by injection e with e; omega)).more fun b hb _ => by omega
 rw [HIT.out];refine ⟨V5, c5, rfl, hrow9.lies (by omega) (by omega) (by decide), ?_⟩;exact (HB0.out.trans (HB5.out.mono (by omega))).trans (gr_below hgr (by have := HB5.out.size; omega) fun b hb => by injection hb with hb; omega)
theorem cmitem_any (kd cl sq : Int) (ky vl : ByteArray) (rv : Int) (w : World) :
 Calls Tryz.prog 97 #[.agg #[.int .i64 kd, .int .i64 cl, .int .i64 sq, .string ky, .string vl, .int .i64 rv]] w (GivesIt w (itemOf ⟨kd, cl, sq, ky, vl, rv⟩)) := (cmitem_new kd cl sq ky vl rv w).mono fun _ _ h => h.it
end Go.Proofs.YtkejjdoaljoooaaGreatDoor.Cw
/- The document's Item of a right command: in memory of the call's own. -/
namespace Go.Proofs.YtkejjdoaljoooaaGreatDoor.Cw
open Lib (hid)
open Go.RowKit Mem Cmd Cod
end Go.Proofs.YtkejjdoaljoooaaGreatDoor.Cw
/- cmd.Take of any item: the command whose item that is, or none. -/
namespace Go.Proofs.YtkejjdoaljoooaaGreatDoor.Cw
open Lib (hid)
open Go.RowKit Mem Cmd Cod
def CmTakes (w : World) (r : Option Cm) (e : Ending) (w' : World) : Prop :=
 ∃ (c : Cm) (b : Bool), e = .returned (.tuple #[.agg #[.int .i64 c.kd, .int .i64 c.cl, .int .i64 c.sq, .string c.ky, .string c.vl, .int .i64 c.rv], .bool b]) ∧ c = r.getD zeroCm ∧ b = r.isSome ∧ Below w.heap.size w w'
theorem kid_eq {x : It} {i : Nat} (h : i < x.kids.length) : x.kids[i] = kid x i := by rw [kid, List.getD_eq_getElem?_getD, List.getElem?_eq_getElem h]; rfl
theorem kids_lie {w : World} {S : Nat → Prop} {x : It} {A : Option Addr} {c : Nat} (h : Lies w S x A c) (h6 : x.kids.length = 6) :
 ∃ g o, A = some ⟨g, o, none⟩ ∧ S g ∧ g < w.heap.size ∧ (∃ A' c', w.cell? ⟨g, o, none⟩ = some (.int .i64 (kid x 0).kind) ∧ w.cell? ⟨g, o + 1, none⟩ = some (.int .u64 ((kid x 0).num : Int)) ∧ w.cell? ⟨g, o + 2, none⟩ = some (.string (kid x 0).str) ∧ w.cell? ⟨g, o + 3, none⟩ = some (.slice A' (kid x 0).kids.length c') ∧ (kid x 0).num ≤ 18446744073709551615) ∧ (∃ A' c', w.cell? ⟨g, o + 4, none⟩ = some (.int .i64 (kid x 1).kind) ∧ w.cell? ⟨g, o + 4 + 1, none⟩ = some (.int .u64 ((kid x 1).num : Int)) ∧ w.cell? ⟨g, o + 4 + 2, none⟩ = some (.string (kid x 1).str) ∧ w.cell? ⟨g, o + 4 + 3, none⟩ = some (.slice A' (kid x 1).kids.length c') ∧ (kid x 1).num ≤ 18446744073709551615) ∧ (∃ A' c', w.cell? ⟨g, o + 8, none⟩ = some (.int .i64 (kid x 2).kind) ∧ w.cell? ⟨g, o + 8 + 1, none⟩ = some (.int .u64 ((kid x 2).num : Int)) ∧ w.cell? ⟨g, o + 8 + 2, none⟩ = some (.string (kid x 2).str) ∧ w.cell? ⟨g, o + 8 + 3, none⟩ = some (.slice A' (kid x 2).kids.length c') ∧ (kid x 2).num ≤ 18446744073709551615) ∧ (∃ A' c', w.cell? ⟨g, o + 12, none⟩ = some (.int .i64 (kid x 3).kind) ∧ w.cell? ⟨g, o + 12 + 1, none⟩ = some (.int .u64 ((kid x 3).num : Int)) ∧ w.cell? ⟨g, o + 12 + 2, none⟩ = some (.string (kid x 3).str) ∧ w.cell? ⟨g, o + 12 + 3, none⟩ = some (.slice A' (kid x 3).kids.length c') ∧ (kid x 3).num ≤ 18446744073709551615) ∧ (∃ A' c', w.cell? ⟨g, o + 16, none⟩ = some (.int .i64 (kid x 4).kind) ∧ w.cell? ⟨g, o + 16 + 1, none⟩ = some (.int .u64 ((kid x 4).num : Int)) ∧ w.cell? ⟨g, o + 16 + 2, none⟩ = some (.string (kid x 4).str) ∧ w.cell? ⟨g, o + 16 + 3, none⟩ = some (.slice A' (kid x 4).kids.length c') ∧ (kid x 4).num ≤ 18446744073709551615) ∧ (∃ A' c', w.cell? ⟨g, o + 20, none⟩ = some (.int .i64 (kid x 5).kind) ∧ w.cell? ⟨g, o + 20 + 1, none⟩ = some (.int .u64 ((kid x 5).num : Int)) ∧ w.cell? ⟨g, o + 20 + 2, none⟩ = some (.string (kid x 5).str) ∧ w.cell? ⟨g, o + 20 + 3, none⟩ = some (.slice A' (kid x 5).kids.length c') ∧ (kid x 5).num ≤ 18446744073709551615) := by
 obtain ⟨g, o, A0, c0, rfl, hS, hg, a0, a1, a2, a3, hl0⟩ := lies_kid h (i := 0) (by omega);obtain ⟨g1, o1, A1, c1, e1, -, -, m0, m1, m2, m3, hl1⟩ := lies_kid h (i := 1) (by omega);injection e1 with e1;injection e1 with e1a e1b;subst e1a;subst e1b;obtain ⟨g2, o2, A2, c2, e2, -, -, n0, n1, n2, n3, hl2⟩ := lies_kid h (i := 2) (by omega);injection e2 with e2;injection e2 with e2a e2b;subst e2a;subst e2b;obtain ⟨g3, o3, A3, c3, e3, -, -, p0, p1, p2, p3, hl3⟩ := lies_kid h (i := 3) (by omega);injection e3 with e3;injection e3 with e3a e3b;subst e3a;subst e3b;obtain ⟨g4, o4, A4, c4, e4, -, -, q0, q1, q2, q3, hl4⟩ := lies_kid h (i := 4) (by omega);injection e4 with e4;injection e4 with e4a e4b;subst e4a;subst e4b;obtain ⟨g5, o5, A5, c5, e5, -, -, r0, r1, r2, r3, hl5⟩ := lies_kid h (i := 5) (by omega);injection e5 with e5;injection e5 with e5a e5b;subst e5a;subst e5b;rw [kid_eq] at a0 a1 a2 a3 hl0;rw [kid_eq] at m0 m1 m2 m3 hl1;rw [kid_eq] at n0 n1 n2 n3 hl2;rw [kid_eq] at p0 p1 p2 p3 hl3;rw [kid_eq] at q0 q1 q2 q3 hl4;rw [kid_eq] at r0 r1 r2 r3 hl5;exact ⟨g, o, rfl, hS, hg, ⟨A0, c0, a0, a1, a2, a3, hl0.bounds.2.2.1⟩, ⟨A1, c1, m0, m1, m2, m3, hl1.bounds.2.2.1⟩, ⟨A2, c2, n0, n1, n2, n3, hl2.bounds.2.2.1⟩, ⟨A3, c3, p0, p1, p2, p3, hl3.bounds.2.2.1⟩, ⟨A4, c4, q0, q1, q2, q3, hl4.bounds.2.2.1⟩, ⟨A5, c5, r0, r1, r2, r3, hl5.bounds.2.2.1⟩⟩
theorem held10 {w w' : World} {g h : Nat} {t u : TypeId} {a b c d e f a' b' c' d' : Value} (h1 : Blk w g t #[a, b, c, d, e, f]) (h2 : Blk w h u #[a', b', c', d']) (hb : Below w.heap.size w w') :
 w'.cell? ⟨g, 0, none⟩ = some a ∧ w'.cell? ⟨g, 1, none⟩ = some b ∧ w'.cell? ⟨g, 2, none⟩ = some c ∧ w'.cell? ⟨g, 3, none⟩ = some d ∧ w'.cell? ⟨g, 4, none⟩ = some e ∧ w'.cell? ⟨g, 5, none⟩ = some f ∧
 w'.cell? ⟨h, 0, none⟩ = some a' ∧ w'.cell? ⟨h, 1, none⟩ = some b' ∧ w'.cell? ⟨h, 2, none⟩ = some c' ∧ w'.cell? ⟨h, 3, none⟩ = some d' := by
 obtain ⟨x0, x1, x2, x3, x4, x5⟩ := blk6 (h1.bel hb);obtain ⟨y0, y1, y2, y3⟩ := blk4 (h2.bel hb);exact ⟨x0, x1, x2, x3, x4, x5, y0, y1, y2, y3⟩
theorem blk6_set {w : World} {g : Nat} {t : TypeId} {a b c d e f : Value} (h : Blk w g t #[a, b, c, d, e, f]) (a' b' c' d' e' f' : Value) :
 Blk ((((((w.setCell ⟨g, 0, none⟩ a').setCell ⟨g, 1, none⟩ b').setCell ⟨g, 2, none⟩ c').setCell ⟨g, 3, none⟩ d').setCell ⟨g, 4, none⟩ e').setCell ⟨g, 5, none⟩ f') g t #[a', b', c', d', e', f'] ∧ w.grownBy ((((((w.setCell ⟨g, 0, none⟩ a').setCell ⟨g, 1, none⟩ b').setCell ⟨g, 2, none⟩ c').setCell ⟨g, 3, none⟩ d').setCell ⟨g, 4, none⟩ e').setCell ⟨g, 5, none⟩ f') (some g) :=
 ⟨by simpa using (((((h.put 0 a').put 1 b').put 2 c').put 3 d').put 4 e').put 5 f', gr_set (p := ⟨g, 5, none⟩) (gr_set (p := ⟨g, 4, none⟩) (gr_set (p := ⟨g, 3, none⟩) (gr_set (p := ⟨g, 2, none⟩) (gr_set (p := ⟨g, 1, none⟩) (gr_set (p := ⟨g, 0, none⟩) (gr_refl w (some g)) (.inl rfl) _) (.inl rfl) _) (.inl rfl) _) (.inl rfl) _) (.inl rfl) _) (.inl rfl) _⟩
set_option maxRecDepth 100000 in
set_option maxHeartbeats 4000000 in
theorem cmtake_any (x : It) (A : Option Addr) (c : Nat) (S : Nat → Prop) (w : World) (hl : Lies w S x A c) (hS : ∀ b, S b → b < w.heap.size) :
 Calls Tryz.prog 104 #[.agg #[.int .i64 x.kind, .int .u64 (x.num : Int), .string x.str, .slice A x.kids.length c]] w (CmTakes w (takeOf x)) := by
 have hsm := fun (W : World) (y : It) (V1 : Option Addr) (c1 : Nat) (hy : wt y ≤ 100000) (h1 : Lies W (fun b => b < W.heap.size) y V1 c1) (h2 : Lies W (fun b => b < W.heap.size) x A c) => same_item y x V1 A c1 c _ W h1 h2 (fun b hb => hb) hy;obtain ⟨n, hn⟩ : ∃ n, x.kids.length = n := ⟨_, rfl⟩
 obtain ⟨b1, b2, b3, b4, b5, b6⟩ := hl.bounds;rw [hn] at b5 hsm ⊢;obtain ⟨W, hW⟩ : ∃ W, (w.alloc (.cells #[.int .i64 x.kind, .int .u64 (x.num : Int), .string x.str, .slice A n c] 95)).alloc (.cells #[.int .i64 0, .int .i64 0, .int .i64 0, .string ⟨#[]⟩, .string ⟨#[]⟩, .int .i64 0] 38) = W := ⟨_, rfl⟩
 obtain ⟨k1, k2, kb, hsW⟩ := two_kinds w _ _ _ _ W hW;have HL := hid (hl.below kb hS);have HX := hid k1;have HBX := hid k2;have HB0 := hid kb;have HW := hid hW;have HSS := hid hS;have HN := hid hn;clear hl hS k1 k2 kb hW hn b1 b2 b3 b4 b6;go_enter Tryz.func104, Tryz.ntmps104
 by_cases h6 : n = 6
 case neg =>
  have HNO := hid (show takeOf x = none from if_neg fun h => h6 (HN.out.symm.trans h.1));have hne : ((n : Int) != 6) = true := by simp; omega
  clear h6 hsm;go_wp2_with fail
  refine bodyPost_ret (v := .tuple #[.agg #[.int .i64 0, .int .i64 0, .int .i64 0, .string ⟨#[]⟩, .string ⟨#[]⟩, .int .i64 0], .bool false]) (by simp [results, Tryz.results104, go_sem]) rfl ?_;rw [HNO.out, HW.out];exact ⟨zeroCm, false, rfl, rfl, rfl, HB0.out⟩
 subst h6;have HSM := hid hsm;obtain ⟨g, o, rfl, hSg, hg, ⟨A0, c0, a0, a1, a2, a3, ab⟩, ⟨A1, c1, m0, m1, m2, m3, mb⟩, ⟨A2, c2, n0, n1, n2, n3, nb⟩, ⟨A3, c3, p0, p1, p2, p3, pb⟩, ⟨A4, c4, q0, q1, q2, q3, qb⟩, A5, c5, r0, r1, r2, r3, rb⟩ := kids_lie HL.out HN.out
 have htk : takeOf x = if same (itemOf (cmOf x)) x = true then some (cmOf x) else none := by
  unfold takeOf;simp only [HN.out, true_and]
 obtain ⟨R0, hR0⟩ : ∃ R : Int, w64 (kid x 0).num = R := ⟨_, rfl⟩
 obtain ⟨R1, hR1⟩ : ∃ R : Int, w64 (kid x 1).num = R := ⟨_, rfl⟩
 obtain ⟨R2, hR2⟩ : ∃ R : Int, w64 (kid x 2).num = R := ⟨_, rfl⟩
 obtain ⟨R5, hR5⟩ : ∃ R : Int, w64 (kid x 5).num = R := ⟨_, rfl⟩
 obtain ⟨s3, hs3⟩ : ∃ s, (kid x 3).str = s := ⟨_, rfl⟩
 obtain ⟨s4, hs4⟩ : ∃ s, (kid x 4).str = s := ⟨_, rfl⟩
 have hcm : cmOf x = ⟨R0, R1, R2, s3, s4, R5⟩ := by rw [cmOf, hR0, hR1, hR2, hR5, hs3, hs4]
 rw [hs3] at p2;rw [hs4] at q2;rw [hcm] at htk;have hit := fun w => cmitem_any R0 R1 R2 s3 s4 R5 w;have hwt := wt_item ⟨R0, R1, R2, s3, s4, R5⟩;generalize itemOf ⟨R0, R1, R2, s3, s4, R5⟩ = y at htk hit hwt;generalize hr : same y x = r at htk;have HRS := hid hr;have HIT := hid hit;have HWT := hid hwt;have HTK := hid htk;unfold w64 at hR0 hR1 hR2 hR5;obtain ⟨x0, x1, x2, x3⟩ := blk4 HX.out;clear htk hcm hs3 hs4 hr hit hwt hsm a0 a2 a3 m0 m2 m3 n0 n2 n3 p0 p1 p3 q0 q1 q3 r0 r2 r3 ab mb nb pb qb rb;have HSW := hid hsW;have hwW : w.heap.size < W.heap.size := by omega
 clear hsW;go_upto_region 3 with fail
 rw [HW.out];have hn1 := World.new_ne W ⟨w.heap.size, 3, none⟩ x3;have hn2 := World.new_ne W ⟨g, o + 1, none⟩ a1;go_region_held3 (fun w' => w'.cell? ⟨w.heap.size, 3, none⟩ = some (.slice (some ⟨g, o, none⟩) 6 c) ∧ w'.cell? ⟨g, o + 1, none⟩ = some (.int .u64 ((kid x 0).num : Int)) ∧ w'.cell? ⟨g, o + 4 + 1, none⟩ = some (.int .u64 ((kid x 1).num : Int)) ∧ w'.cell? ⟨g, o + 8 + 1, none⟩ = some (.int .u64 ((kid x 2).num : Int)) ∧ w'.cell? ⟨g, o + 12 + 2, none⟩ = some (.string s3) ∧ w'.cell? ⟨g, o + 16 + 2, none⟩ = some (.string s4) ∧ w'.cell? ⟨g, o + 20 + 1, none⟩ = some (.int .u64 ((kid x 5).num : Int))) (go_keep) (fail)
 have hsW := HSW.out;have hc4 := Blk.drew (Blk.new W 38 #[.int .i64 R0, .int .i64 R1, .int .i64 R2, .string s3, .string s4, .int .i64 R5]);have hbe := Below.drew (bel_alloc (Below.refl W.heap.size W) (.cells #[.int .i64 R0, .int .i64 R1, .int .i64 R2, .string s3, .string s4, .int .i64 R5] 38));have hs2 := size_alloc W (.cells #[.int .i64 R0, .int .i64 R1, .int .i64 R2, .string s3, .string s4, .int .i64 R5] 38);have hs2' : (W.alloc (.cells #[.int .i64 R0, .int .i64 R1, .int .i64 R2, .string s3, .string s4, .int .i64 R5] 38)).drew.heap.size = W.heap.size + 1 := hs2;generalize (W.alloc (.cells #[.int .i64 R0, .int .i64 R1, .int .i64 R2, .string s3, .string s4, .int .i64 R5] 38)).drew = W2 at hc4 hbe hs2' ⊢;have HC4 := hid hc4;have HX2 := hid (HX.out.bel hbe);have HBE := hid hbe;have HCUR := hid (Below.drew (Below.refl W2.heap.size W2));have hL2 := HL.out.below hbe (fun b hb => by have := HSS.out b hb; omega);have HL2 := hid hL2;have hle1 : w.heap.size + 2 ≤ W.heap.size := by omega
 have hle2 : W.heap.size + 1 ≤ W2.heap.size := by omega
 clear hsW hs2' hc4 hbe hs2 hL2 a1 m1 n1 p2 q2 r1 x0 x1 x2 x3 hR0 hR1 hR2 hR5;go_wp2_with fail
 go_region_held3 (fun w' => w'.cell? ⟨W.heap.size, 0, none⟩ = some (.int .i64 R0) ∧ w'.cell? ⟨W.heap.size, 1, none⟩ = some (.int .i64 R1) ∧ w'.cell? ⟨W.heap.size, 2, none⟩ = some (.int .i64 R2) ∧ w'.cell? ⟨W.heap.size, 3, none⟩ = some (.string s3) ∧ w'.cell? ⟨W.heap.size, 4, none⟩ = some (.string s4) ∧ w'.cell? ⟨W.heap.size, 5, none⟩ = some (.int .i64 R5) ∧ w'.cell? ⟨w.heap.size, 0, none⟩ = some (.int .i64 x.kind) ∧ w'.cell? ⟨w.heap.size, 1, none⟩ = some (.int .u64 (x.num : Int)) ∧ w'.cell? ⟨w.heap.size, 2, none⟩ = some (.string x.str) ∧ w'.cell? ⟨w.heap.size, 3, none⟩ = some (.slice (some ⟨g, o, none⟩) 6 c)) (with_reducible exact held10 HC4.out HX2.out HCUR.out)
  (first
  | (go_at_call 97
     refine (HIT.out _).mono ?_;rintro e v1 ⟨V1, k1, rfl, hl1, hb1⟩;have hnow := HCUR.out.trans (hb1.mono HCUR.out.size);have hsn := hnow.size;have hlx := (HL2.out.below hnow fun b hb => by have := HSS.out b hb; omega).more (S' := fun b => b < v1.heap.size) fun b hb _ => (by have := HSS.out b hb; omega);have hsm := HSM.out v1 y V1 k1 (Nat.le_trans HWT.out (by decide)) hl1 hlx;rw [HRS.out] at hsm;replace HCUR := hid hnow;replace HSM := hid hsm;clear HIT hb1 hnow hl1 hlx hsm hsn)
  | (go_at_call 108
     refine HSM.out.mono ?_;rintro e v2 ⟨rfl, hb1⟩;have hnow := HCUR.out.trans (hb1.mono HCUR.out.size);replace HCUR := hid hnow;clear HSM hb1 hnow))
 replace HBE := hid (bel_trans HBE.out HCUR.out);cases r
 case false =>
  have hs9 := HBE.out.size;have hblk := HBX.out.bel HBE.out;have hw0 := HB0.out.size;obtain ⟨j0, j1, j2, j3, j4, j5⟩ := blk6 hblk;have z0 := hblk.soft 0;have z1 := hblk.soft 1;have z2 := hblk.soft 2;have z3 := hblk.soft 3;have z4 := hblk.soft 4;have z5 := hblk.soft 5;obtain ⟨i0, i1, i2, i3, i4, i5⟩ := blk6 (HC4.out.bel HCUR.out);go_wp2_with fail
  obtain ⟨hblk2, hgr⟩ := blk6_set hblk (.int .i64 0) (.int .i64 0) (.int .i64 0) (.string ⟨#[]⟩) (.string ⟨#[]⟩) (.int .i64 0);generalize ((((((v2).setCell ⟨w.heap.size + 1, 0, none⟩ (.int .i64 0)).setCell ⟨w.heap.size + 1, 1, none⟩ (.int .i64 0)).setCell ⟨w.heap.size + 1, 2, none⟩ (.int .i64 0)).setCell ⟨w.heap.size + 1, 3, none⟩ (.string ⟨#[]⟩)).setCell ⟨w.heap.size + 1, 4, none⟩ (.string ⟨#[]⟩)).setCell ⟨w.heap.size + 1, 5, none⟩ (.int .i64 0) = w9 at hblk2 hgr ⊢;obtain ⟨d0, d1, d2, d3, d4, d5⟩ := blk6 hblk2;refine bodyPost_ret (v := .tuple #[.agg #[.int .i64 0, .int .i64 0, .int .i64 0, .string ⟨#[]⟩, .string ⟨#[]⟩, .int .i64 0], .bool false]) (by simp [results, Tryz.results104, go_sem, d0, d1, d2, d3, d4, d5]) rfl ?_;rw [HTK.out];exact ⟨zeroCm, false, rfl, rfl, rfl, (HB0.out.trans (HBE.out.mono (by omega))).trans (gr_below hgr (by omega) fun b hb => by injection hb with hb; omega)⟩
 case true =>
  have hs9 := HBE.out.size;have hblk := HBX.out.bel HBE.out;have hw0 := HB0.out.size;obtain ⟨j0, j1, j2, j3, j4, j5⟩ := blk6 hblk;have z0 := hblk.soft 0;have z1 := hblk.soft 1;have z2 := hblk.soft 2;have z3 := hblk.soft 3;have z4 := hblk.soft 4;have z5 := hblk.soft 5;obtain ⟨i0, i1, i2, i3, i4, i5⟩ := blk6 (HC4.out.bel HCUR.out);go_wp2_with fail
  obtain ⟨hblk2, hgr⟩ := blk6_set hblk (.int .i64 R0) (.int .i64 R1) (.int .i64 R2) (.string s3) (.string s4) (.int .i64 R5);generalize ((((((v2).setCell ⟨w.heap.size + 1, 0, none⟩ (.int .i64 R0)).setCell ⟨w.heap.size + 1, 1, none⟩ (.int .i64 R1)).setCell ⟨w.heap.size + 1, 2, none⟩ (.int .i64 R2)).setCell ⟨w.heap.size + 1, 3, none⟩ (.string s3)).setCell ⟨w.heap.size + 1, 4, none⟩ (.string s4)).setCell ⟨w.heap.size + 1, 5, none⟩ (.int .i64 R5) = w9 at hblk2 hgr ⊢;obtain ⟨d0, d1, d2, d3, d4, d5⟩ := blk6 hblk2;refine bodyPost_ret (v := .tuple #[.agg #[.int .i64 R0, .int .i64 R1, .int .i64 R2, .string s3, .string s4, .int .i64 R5], .bool true]) (by simp [results, Tryz.results104, go_sem, d0, d1, d2, d3, d4, d5]) rfl ?_;rw [HTK.out];exact ⟨⟨R0, R1, R2, s3, s4, R5⟩, true, rfl, rfl, rfl, (HB0.out.trans (HBE.out.mono (by omega))).trans (gr_below hgr (by omega) fun b hb => by injection hb with hb; omega)⟩
end Go.Proofs.YtkejjdoaljoooaaGreatDoor.Cw
