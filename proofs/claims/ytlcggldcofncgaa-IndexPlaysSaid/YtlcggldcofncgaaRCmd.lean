/-
  Texts of earlier layers, as one.
-/
import Derived.Test.YtlcggldcofncgaaRRun
import Derived.Test.YtlcggldcofncgaaRCod
import Derived.Test.YtlcggldcofncgaaRRunR
/- Commands, plainly: what is wrong with one, whether it writes, whether two meet, and its item. -/
namespace Go.Proofs.Ytlcggldcofncgaa.Cmd
open Mem Run

/-- A command. -/
structure Cm where
  kd : Int
  cl : Int
  sq : Int
  ky : ByteArray
  vl : ByteArray
  rv : Int

theorem Cm.ext_iff' {a b : Cm} : a = b ↔ a.kd = b.kd ∧ a.cl = b.cl ∧ a.sq = b.sq ∧ a.ky = b.ky ∧ a.vl = b.vl ∧ a.rv = b.rv := by
  cases a; cases b; simp

/-- Whether two are the same. -/
def eqv (a b : Cm) : Bool := a.kd == b.kd && a.cl == b.cl && a.sq == b.sq && decide (bts a.ky = bts b.ky) && decide (bts a.vl = bts b.vl) && a.rv == b.rv
theorem eqv_iff {a b : Cm} : eqv a b = true ↔ a = b := by
  rw [Cm.ext_iff']
  simp only [eqv, Bool.and_eq_true, beq_iff_eq, decide_eq_true_eq, and_assoc]
  constructor
  · rintro ⟨h1, h2, h3, h4, h5, h6⟩
    exact ⟨h1, h2, h3, bts_inj h4, bts_inj h5, h6⟩
  · rintro ⟨h1, h2, h3, h4, h5, h6⟩
    exact ⟨h1, h2, h3, by rw [h4], by rw [h5], h6⟩
theorem eqv_refl (a : Cm) : eqv a a = true := eqv_iff.2 rfl

def zeroCm : Cm := ⟨0, 0, 0, ⟨#[]⟩, ⟨#[]⟩, 0⟩

/-- Without what its kind names. -/
def un (c : Cm) : Cm :=
  if c.kd = 4 then zeroCm
  else if c.kd = 2 then { zeroCm with rv := c.rv }
  else if c.kd = 1 ∨ c.kd = 3 ∨ c.kd = 5 then { zeroCm with vl := c.vl, rv := c.rv }
  else if c.kd = 0 ∨ c.kd = 6 then { c with kd := 0 }
  else c

def client (k : Int) : Bool := k != 0 && k != 6
def writes (k : Int) : Bool := k == 2 || k == 3 || k == 4

/-- It has no such kind, or what its kind does not name, or a zero where it may not be. -/
def unformed (c : Cm) : Bool :=
  decide (c.kd < 0) || decide (c.kd > 6) || (!client c.kd && (c.cl != 0 || c.sq != 0 || !decide (bts c.ky = []))) || (client c.kd && (c.cl == 0 || c.sq == 0)) ||
    (c.kd != 2 && c.kd != 4 && !decide (bts c.vl = [])) || (c.kd != 4 && c.rv != 0)
def out (v most : Int) : Bool := decide (v < 0) || decide (v > most)
def far (c : Cm) : Bool := out c.cl 1048576 || out c.sq 1099511627776 || out c.rv 1099511627776

/-- What is wrong with it: an error's number. -/
def chk (c : Cm) : Int :=
  if unformed c then 4
  else if far c then 6
  else if decide ((c.vl.size : Int) > 1024) then 12
  else if c.kd == 5 then begRet (beg (bts c.ky))
  else if client c.kd then begRet (key (bts c.ky))
  else 0

theorem nil_of_bts {s : ByteArray} (h : bts s = []) : s = ⟨#[]⟩ := bts_inj (h.trans rfl)
theorem bts_nil_iff {s : ByteArray} : bts s = [] ↔ s = ⟨#[]⟩ := ⟨nil_of_bts, fun h => by rw [h]; rfl⟩

theorem bz : bts ⟨#[]⟩ = [] := rfl

/-- The first test of Check. -/
theorem unformed_un (c : Cm) : unformed c = (!eqv (un c) zeroCm || (client c.kd && (c.cl == 0 || c.sq == 0))) := by
  obtain ⟨kd, cl, sq, ky, vl, rv⟩ := c
  simp only [unformed, un, client]
  by_cases h4 : kd = 4
  · subst h4
    simp [eqv_refl]
  by_cases h2 : kd = 2
  · subst h2
    simp [zeroCm, eqv, Bool.or_comm, bne]
  by_cases h1 : kd = 1 ∨ kd = 3 ∨ kd = 5
  · rw [if_neg h4, if_neg h2, if_pos h1]
    have e0 : (kd != 0) = true := by simp; omega
    have e6 : (kd != 6) = true := by simp; omega
    have e2 : (kd != 2) = true := by simpa using h2
    have e4 : (kd != 4) = true := by simpa using h4
    have e7 : decide (kd < 0) = false := by simp; omega
    have e8 : decide (kd > 6) = false := by simp; omega
    simp only [e0, e6, e2, e4, e7, e8, zeroCm, eqv, bz]
    by_cases p : bts vl = [] <;> by_cases q : rv = 0 <;> simp [p, q, bne, Bool.or_comm]
  by_cases h0 : kd = 0 ∨ kd = 6
  · rw [if_neg h4, if_neg h2, if_neg h1, if_pos h0]
    have e0 : (kd != 0 && kd != 6) = false := by rcases h0 with rfl | rfl <;> rfl
    have e2 : (kd != 2) = true := by simpa using h2
    have e4 : (kd != 4) = true := by simpa using h4
    have e7 : decide (kd < 0) = false := by simp; omega
    have e8 : decide (kd > 6) = false := by simp; omega
    simp only [e0, e2, e4, e7, e8, zeroCm, eqv, bz]
    by_cases a : cl = 0 <;> by_cases b : sq = 0 <;> by_cases c : bts ky = [] <;> by_cases p : bts vl = [] <;> by_cases q : rv = 0 <;> simp [a, b, c, p, q, bne]
  · rw [if_neg h4, if_neg h2, if_neg h1, if_neg h0]
    have hz : ¬ ((⟨kd, cl, sq, ky, vl, rv⟩ : Cm) = zeroCm) := fun h => h0 (.inl (by have := (Cm.ext_iff'.1 h).1; exact this))
    have hz' : eqv ⟨kd, cl, sq, ky, vl, rv⟩ zeroCm = false := by
      cases h : eqv ⟨kd, cl, sq, ky, vl, rv⟩ zeroCm with
      | false => rfl
      | true => exact absurd (eqv_iff.1 h) hz
    rw [hz']
    have : decide (kd < 0) = true ∨ decide (kd > 6) = true := by simp; omega
    rcases this with h | h <;> simp [h]

/-- The key of b is one that a asks for. -/
def covers (a b : Cm) : Bool := decide (bts a.ky = bts b.ky) || (a.kd == 5 && decide (bts a.ky <+: bts b.ky))
def meet (a b : Cm) : Bool :=
  if a.kd = 0 ∨ b.kd = 0 then false
  else if a.kd = 6 ∨ b.kd = 6 ∨ a.cl = b.cl then true
  else (writes a.kd || writes b.kd) && (covers a b || covers b a)

theorem meet_comm (a b : Cm) : meet a b = meet b a := by
  unfold meet
  have e1 : (a.kd = 0 ∨ b.kd = 0) ↔ (b.kd = 0 ∨ a.kd = 0) := Or.comm
  have e2 : (a.kd = 6 ∨ b.kd = 6 ∨ a.cl = b.cl) ↔ (b.kd = 6 ∨ a.kd = 6 ∨ b.cl = a.cl) := by
    constructor <;> (intro h; rcases h with h | h | h <;> simp [h])
  simp only [e1, e2, Bool.or_comm (writes a.kd), Bool.or_comm (covers a b)]

def great (c : Cm) : Bool := decide ((c.ky.size : Int) > 200) || decide ((c.vl.size : Int) > 2000)
end Go.Proofs.Ytlcggldcofncgaa.Cmd
/- cmd.called, outside, Writes, unnamed, covers; the document's Writes and Great: what they answer. -/
namespace Go.Proofs.Ytlcggldcofncgaa.Cw
open Go.RowKit Mem Run Cmd

theorem writes_any (kd cl sq : Int) (ky vl : ByteArray) (rv : Int) (w : World) :
    Calls Try.prog 36 #[.agg #[.int .i64 kd, .int .i64 cl, .int .i64 sq, .string ky, .string vl, .int .i64 rv]] w (Tells (writes kd) w) := by
  go_enter Try.func36, Try.ntmps36
  go_wp2_with fail
  all_goals
    go_ret
    exact ⟨by simp_all [writes], bel_alloc (Below.refl _ _) _⟩
theorem refwrites_any (kd cl sq : Int) (ky vl : ByteArray) (rv : Int) (w : World) :
    Calls Try.prog 46 #[.agg #[.int .i64 kd, .int .i64 cl, .int .i64 sq, .string ky, .string vl, .int .i64 rv]] w (Tells (writes kd) w) := by
  go_enter Try.func46, Try.ntmps46
  go_wp2_with fail
  all_goals
    go_ret
    exact ⟨by simp_all [writes], bel_alloc (Below.refl _ _) _⟩
theorem great_any (kd cl sq : Int) (ky vl : ByteArray) (rv : Int) (w : World) :
    Calls Try.prog 7 #[.agg #[.int .i64 kd, .int .i64 cl, .int .i64 sq, .string ky, .string vl, .int .i64 rv]] w (Tells (great ⟨kd, cl, sq, ky, vl, rv⟩) w) := by
  go_enter Try.func7, Try.ntmps7
  go_wp2_with fail
  all_goals
    go_ret
    exact ⟨by simp_all [great], bel_alloc (Below.refl _ _) _⟩
end Go.Proofs.Ytlcggldcofncgaa.Cw
/- cmd.unnamed; whether two commands are the same. -/
namespace Go.Proofs.Ytlcggldcofncgaa.Cw
open Go.RowKit Mem Run Cmd

theorem toList_iff (a b : ByteArray) : a.toList = b.toList ↔ bts a = bts b := by
  have h := eq_tell a b
  constructor
  · intro e
    rw [e] at h
    simpa using h
  · intro e
    rw [decide_eq_true e] at h
    simpa using h

theorem eql_cmd (akd acl asq : Int) (aky avl : ByteArray) (arv : Int) (bkd bcl bsq : Int) (bky bvl : ByteArray) (brv : Int) (w : World) : Sem.run Try.prog (binOp .eql 24 (.agg #[.int .i64 akd, .int .i64 acl, .int .i64 asq, .string aky, .string avl, .int .i64 arv]) (.agg #[.int .i64 bkd, .int .i64 bcl, .int .i64 bsq, .string bky, .string bvl, .int .i64 brv])) w = .ok (.bool (eqv ⟨akd, acl, asq, aky, avl, arv⟩ ⟨bkd, bcl, bsq, bky, bvl, brv⟩)) w := by
  have u3 := Try.underlying3
  have a3 := Try.isAgg3
  have z3 := Try.sizeOf3
  have u9 := Try.underlying9
  have a9 := Try.isAgg9
  have z9 := Try.sizeOf9
  have hS : Try.prog.underlying 24 = some (.struct (Try.prog.fieldsOf 24)) := by kernel_rfl
  have hp : Try.prog.stoodInHeld 24 = false := by kernel_rfl
  rw [run_eql_struct, show (10000 : Nat) = 9999 + 1 from rfl, run_equalIn_agg w 9999 24 _ _ hS hp]
  simp only [Program.fieldsOf, Try.underlying24]
  go_simp
  simp only [eqv, toList_iff]
  by_cases h1 : akd = bkd <;> by_cases h2 : acl = bcl <;> by_cases h3 : asq = bsq <;> by_cases h4 : bts aky = bts bky <;> by_cases h5 : bts avl = bts bvl <;> by_cases h6 : arv = brv <;> simp [h1, h2, h3, h4, h5, h6]
theorem neq_cmd (akd acl asq : Int) (aky avl : ByteArray) (arv : Int) (bkd bcl bsq : Int) (bky bvl : ByteArray) (brv : Int) (w : World) : Sem.run Try.prog (binOp .neq 24 (.agg #[.int .i64 akd, .int .i64 acl, .int .i64 asq, .string aky, .string avl, .int .i64 arv]) (.agg #[.int .i64 bkd, .int .i64 bcl, .int .i64 bsq, .string bky, .string bvl, .int .i64 brv])) w = .ok (.bool (!eqv ⟨akd, acl, asq, aky, avl, arv⟩ ⟨bkd, bcl, bsq, bky, bvl, brv⟩)) w := by
  have u3 := Try.underlying3
  have a3 := Try.isAgg3
  have z3 := Try.sizeOf3
  have u9 := Try.underlying9
  have a9 := Try.isAgg9
  have z9 := Try.sizeOf9
  have hS : Try.prog.underlying 24 = some (.struct (Try.prog.fieldsOf 24)) := by kernel_rfl
  have hp : Try.prog.stoodInHeld 24 = false := by kernel_rfl
  rw [run_neq_struct, show (10000 : Nat) = 9999 + 1 from rfl, run_equalIn_agg w 9999 24 _ _ hS hp]
  simp only [Program.fieldsOf, Try.underlying24]
  go_simp
  simp only [eqv, toList_iff]
  by_cases h1 : akd = bkd <;> by_cases h2 : acl = bcl <;> by_cases h3 : asq = bsq <;> by_cases h4 : bts aky = bts bky <;> by_cases h5 : bts avl = bts bvl <;> by_cases h6 : arv = brv <;> simp [h1, h2, h3, h4, h5, h6]
end Go.Proofs.Ytlcggldcofncgaa.Cw
/- cmd.covers and Meet. -/
namespace Go.Proofs.Ytlcggldcofncgaa.Cw
open Go.RowKit Mem Run Cmd

theorem covers_any (akd acl asq : Int) (aky avl : ByteArray) (arv : Int) (bkd bcl bsq : Int) (bky bvl : ByteArray) (brv : Int) (w : World) :
    Calls Try.prog 37 #[.agg #[.int .i64 akd, .int .i64 acl, .int .i64 asq, .string aky, .string avl, .int .i64 arv], .agg #[.int .i64 bkd, .int .i64 bcl, .int .i64 bsq, .string bky, .string bvl, .int .i64 brv]] w (Tells (covers ⟨akd, acl, asq, aky, avl, arv⟩ ⟨bkd, bcl, bsq, bky, bvl, brv⟩) w) := by
  have hb := fun w => begins_any bky aky w
  have HB := Lib.hid hb
  clear hb
  go_enter Try.func37, Try.ntmps37
  go_wp2_with (go_at_call 48; refine (HB.out _).mono ?_; rintro e w1 ⟨rfl, rfl⟩)
  all_goals
    go_ret
    exact ⟨by simp_all [covers, eq_tell, toList_iff], bel_alloc (bel_alloc (Below.refl _ _) _) _⟩

theorem blk6 {w : World} {g : Nat} {t : TypeId} {a b c d e f : Value} (h : Blk w g t #[a, b, c, d, e, f]) : w.cell? ⟨g, 0, none⟩ = some a ∧ w.cell? ⟨g, 1, none⟩ = some b ∧ w.cell? ⟨g, 2, none⟩ = some c ∧ w.cell? ⟨g, 3, none⟩ = some d ∧ w.cell? ⟨g, 4, none⟩ = some e ∧ w.cell? ⟨g, 5, none⟩ = some f :=
  ⟨h.cell 0, h.cell 1, h.cell 2, h.cell 3, h.cell 4, h.cell 5⟩

/-- Two boxes just made. -/
theorem two_boxes (w : World) (t : TypeId) (a b : Array Value) : Blk ((w.alloc (.cells a t)).alloc (.cells b t)) w.heap.size t a ∧ Blk ((w.alloc (.cells a t)).alloc (.cells b t)) (w.heap.size + 1) t b ∧ Below w.heap.size w ((w.alloc (.cells a t)).alloc (.cells b t)) := by
  refine ⟨(Blk.new w t a).alloc _, ?_, ((Below.refl w.heap.size w).alloc (Nat.le_refl _) _).alloc (by rw [size_alloc]; omega) _⟩
  have h := Blk.new (w.alloc (.cells a t)) t b
  rwa [size_alloc] at h

set_option maxHeartbeats 2000000 in
theorem meet_any (akd acl asq : Int) (aky avl : ByteArray) (arv : Int) (bkd bcl bsq : Int) (bky bvl : ByteArray) (brv : Int) (w : World) :
    Calls Try.prog 20 #[.agg #[.int .i64 akd, .int .i64 acl, .int .i64 asq, .string aky, .string avl, .int .i64 arv], .agg #[.int .i64 bkd, .int .i64 bcl, .int .i64 bsq, .string bky, .string bvl, .int .i64 brv]] w (Tells (meet ⟨akd, acl, asq, aky, avl, arv⟩ ⟨bkd, bcl, bsq, bky, bvl, brv⟩) w) := by
  by_cases h0 : akd = 0 ∨ bkd = 0
  · have hm : meet ⟨akd, acl, asq, aky, avl, arv⟩ ⟨bkd, bcl, bsq, bky, bvl, brv⟩ = false := if_pos h0
    rw [hm]
    clear hm
    rcases h0 with rfl | rfl
    all_goals
      go_enter Try.func20, Try.ntmps20
      go_wp2_with fail
      all_goals
        go_ret
        exact ⟨rfl, bel_alloc (bel_alloc (Below.refl _ _) _) _⟩
  have n1 : (akd == 0) = false := beq_false_of_ne fun h => h0 (.inl h)
  have n2 : (bkd == 0) = false := beq_false_of_ne fun h => h0 (.inr h)
  by_cases h1 : akd = 6 ∨ bkd = 6 ∨ acl = bcl
  · have hm : meet ⟨akd, acl, asq, aky, avl, arv⟩ ⟨bkd, bcl, bsq, bky, bvl, brv⟩ = true := by rw [meet, if_neg h0, if_pos h1]
    rw [hm]
    clear hm h0
    rcases h1 with rfl | rfl | rfl
    all_goals
      go_enter Try.func20, Try.ntmps20
      go_wp2_with fail
      all_goals
        go_ret
        exact ⟨rfl, bel_alloc (bel_alloc (Below.refl _ _) _) _⟩
  have n3 : (akd == 6) = false := beq_false_of_ne fun h => h1 (.inl h)
  have n4 : (bkd == 6) = false := beq_false_of_ne fun h => h1 (.inr (.inl h))
  have n5 : (acl == bcl) = false := beq_false_of_ne fun h => h1 (.inr (.inr h))
  have hm : meet ⟨akd, acl, asq, aky, avl, arv⟩ ⟨bkd, bcl, bsq, bky, bvl, brv⟩ = ((writes akd || writes bkd) && (covers ⟨akd, acl, asq, aky, avl, arv⟩ ⟨bkd, bcl, bsq, bky, bvl, brv⟩ || covers ⟨bkd, bcl, bsq, bky, bvl, brv⟩ ⟨akd, acl, asq, aky, avl, arv⟩)) := by rw [meet, if_neg h0, if_neg h1]
  rw [hm]
  have H1 := Lib.hid (fun w => writes_any akd acl asq aky avl arv w)
  have H2 := Lib.hid (fun w => writes_any bkd bcl bsq bky bvl brv w)
  have H3 := Lib.hid (fun w => covers_any akd acl asq aky avl arv bkd bcl bsq bky bvl brv w)
  have H4 := Lib.hid (fun w => covers_any bkd bcl bsq bky bvl brv akd acl asq aky avl arv w)
  clear hm h0 h1
  generalize writes akd = r1 at H1 ⊢
  generalize writes bkd = r2 at H2 ⊢
  generalize covers ⟨akd, acl, asq, aky, avl, arv⟩ ⟨bkd, bcl, bsq, bky, bvl, brv⟩ = r3 at H3 ⊢
  generalize covers ⟨bkd, bcl, bsq, bky, bvl, brv⟩ ⟨akd, acl, asq, aky, avl, arv⟩ = r4 at H4 ⊢
  obtain ⟨hk1, hk2, hcu⟩ := two_boxes w 24 #[.int .i64 akd, .int .i64 acl, .int .i64 asq, .string aky, .string avl, .int .i64 arv] #[.int .i64 bkd, .int .i64 bcl, .int .i64 bsq, .string bky, .string bvl, .int .i64 brv]
  have HK1 := Lib.hid hk1
  have HK2 := Lib.hid hk2
  have HCU := Lib.hid hcu
  clear hk1 hk2 hcu
  go_enter Try.func20, Try.ntmps20
  cases r1 <;> cases r2 <;> cases r3
  all_goals
    go_wp2_with (first | (go_at_call 36; refine (H1.out _).mono ?_; rintro e w1 ⟨rfl, hb1⟩; have hk1 := HK1.out.bel hb1; have hk2 := HK2.out.bel hb1; have hcu := bel_trans HCU.out hb1; obtain ⟨p0, p1, p2, p3, p4, p5⟩ := blk6 hk1; obtain ⟨q0, q1, q2, q3, q4, q5⟩ := blk6 hk2; replace HK1 := Lib.hid hk1; replace HK2 := Lib.hid hk2; replace HCU := Lib.hid hcu; clear H1 hb1 hk1 hk2 hcu) | (go_at_call 36; refine (H2.out _).mono ?_; rintro e w1 ⟨rfl, hb1⟩; have hk1 := HK1.out.bel hb1; have hk2 := HK2.out.bel hb1; have hcu := bel_trans HCU.out hb1; obtain ⟨p0, p1, p2, p3, p4, p5⟩ := blk6 hk1; obtain ⟨q0, q1, q2, q3, q4, q5⟩ := blk6 hk2; replace HK1 := Lib.hid hk1; replace HK2 := Lib.hid hk2; replace HCU := Lib.hid hcu; clear H2 hb1 hk1 hk2 hcu) | (go_at_call 37; refine (H3.out _).mono ?_; rintro e w1 ⟨rfl, hb1⟩; have hk1 := HK1.out.bel hb1; have hk2 := HK2.out.bel hb1; have hcu := bel_trans HCU.out hb1; obtain ⟨p0, p1, p2, p3, p4, p5⟩ := blk6 hk1; obtain ⟨q0, q1, q2, q3, q4, q5⟩ := blk6 hk2; replace HK1 := Lib.hid hk1; replace HK2 := Lib.hid hk2; replace HCU := Lib.hid hcu; clear H3 hb1 hk1 hk2 hcu) | (go_at_call 37; refine (H4.out _).mono ?_; rintro e w1 ⟨rfl, hb1⟩; have hk1 := HK1.out.bel hb1; have hk2 := HK2.out.bel hb1; have hcu := bel_trans HCU.out hb1; obtain ⟨p0, p1, p2, p3, p4, p5⟩ := blk6 hk1; obtain ⟨q0, q1, q2, q3, q4, q5⟩ := blk6 hk2; replace HK1 := Lib.hid hk1; replace HK2 := Lib.hid hk2; replace HCU := Lib.hid hcu; clear H4 hb1 hk1 hk2 hcu))
    go_ret
    exact ⟨rfl, HCU.out⟩
end Go.Proofs.Ytlcggldcofncgaa.Cw
