/-
  Texts of earlier layers, as one.
-/
import Derived.Test.YtkejjdoaljoooaaGreatDoorLogForm
import Derived.Laws.Cover3
import Derived.Laws.StructEq
/- The program's first: the record whose form begins the bytes. -/
namespace Go.Proofs.YtkejjdoaljoooaaGreatDoor.Lg
open Lib (hid)
open Go.RowKit Mem
def FirstIs (A : Option Addr) (c : Nat) : Option (List Nat) → World → Ending → World → Prop
 | none, w, e, w' => e = .returned (.tuple #[.slice none 0 0, .int .i64 0]) ∧ Below w.heap.size w w'
 | some p, w, e, w' => e = .returned (.tuple #[.slice (cutA A c (Num.size p.length + 4)) p.length (c - (Num.size p.length + 4)), .int .i64 ((form p).length : Int)]) ∧ Below w.heap.size w w'
theorem take_small {b : List Nat} (hb : ∀ x ∈ b, x < 256) : (Num.take b).1 < 2 ^ 64 ∧ (Num.take b).2.1 ≤ 9 := by
 by_cases h : (Num.take b).2.2 = 0
 · obtain ⟨h1, h2, _⟩ := take_is hb h
   exact ⟨h1, by rw [h2]; exact Num.size_le _ h1⟩
 · unfold Num.take at h ⊢
   cases b with
   | nil => exact ⟨by decide, by decide⟩
   | cons x r =>
     simp only at h ⊢;by_cases h1 : x < 248
     · rw [if_pos h1] at h; exact absurd rfl h
     · rw [if_neg h1] at h ⊢
       by_cases h2 : r.length < x - 247
       · rw [if_pos h2]; exact ⟨by decide, by decide⟩
       · rw [if_neg h2] at h ⊢
         by_cases h3 : Num.size (Num.val (r.take (x - 247))) ≠ 1 + (x - 247)
         · rw [if_pos h3]; exact ⟨by decide, by decide⟩
         · rw [if_neg h3] at h; exact absurd rfl h
theorem run_high {P : Program} (t : TypeId) (ht : P.underlying t = some (.slice (P.elem t))) (hsz : ∀ w : World, (sizeOf (P.elem t)).run P w = .ok 1 w) (A : Option Addr) (n c i : Nat) (hi : i ≤ c) (w : World) :
 (Instr.slice t (.slice A n c) none (some (.int .i64 (i : Int))) none).run P w = .ok (.slice A i c) w := by
 have h0 : (fun x : Addr => x.add 0) = id := by funext x; simp [Addr.add]
 rw [run_slice_h w t A n c ht .i64 (i : Int) (by omega) (by omega), hsz];simp [Result.andThen, sliced, h0]
theorem run_mid {P : Program} (t : TypeId) (ht : P.underlying t = some (.slice (P.elem t))) (hsz : ∀ w : World, (sizeOf (P.elem t)).run P w = .ok 1 w) (A : Option Addr) (n c k i : Nat) (hk : k ≤ i) (hi : i ≤ c) (w : World) :
 (Instr.slice t (.slice A n c) (some (.int .i64 (k : Int))) (some (.int .i64 (i : Int))) none).run P w = .ok (.slice (cutA A c k) (i - k) (c - k)) w := by
 rw [run_slice_lh w t A n c ht .i64 .i64 (k : Int) (i : Int) (by omega) (by omega) (by omega), hsz];simp [Result.andThen, sliced, cutA]
theorem load_arr {P : Program} {w : World} {ty e : TypeId} {q : Addr} {ys : List Nat} {n : Nat} (hu : P.underlying ty = some (.array n e)) (hi : (P.info? ty).map (·.size) = some n) (hl : ys.length = n) (h : ∀ j u, (cs ys)[j]? = some u → w.cell? (q.add j) = some u) :
 (Instr.loadAt ty (.pointer (some q))).run P w = .ok (.agg (cs ys).toArray) w := by
 have hc := run_loadCells_list (P := P) w q (cs ys) h;rw [length_cs, hl] at hc;cases hq : P.info? ty with
 | none => rw [hq] at hi; cases hi
 | some i =>
   rw [hq] at hi;injection hi with hi;simp [Instr.loadAt, Instr.sureAddr, loadVar, isAgg, run_underlying hu, sizeOf, typeInfo, hq, hi, hc]
theorem load4 {w : World} {q : Addr} {ys : List Nat} (hl : ys.length = 4) (h : ∀ j u, (cs ys)[j]? = some u → w.cell? (q.add j) = some u) :
 (Instr.loadAt 151 (.pointer (some q))).run Tryz.prog w = .ok (.agg (cs ys).toArray) w := load_arr Tryz.underlying151 (by kernel_rfl) hl h
theorem run_load4 {oi : Oper} {a : Act} {S : World → Prop} {q : Addr} (x : Operand) (y0 y1 y2 y3 : Nat) (ho : oi.op = .load 151 x) (hx : a.eval x = .pointer (some q)) (hS : ∀ w, S w → ∀ j u, (cs [y0, y1, y2, y3])[j]? = some u → w.cell? (q.add j) = some u) :
 ∀ w, S w → (execOp a.eval oi).run Tryz.prog w = .ok (.value (.agg #[.int .u8 (y0 : Int), .int .u8 (y1 : Int), .int .u8 (y2 : Int), .int .u8 (y3 : Int)])) w := fun w hw => by
 have h := load4 (ys := [y0, y1, y2, y3]) rfl (hS w hw);unfold execOp;simp only [ho, hx, Sem.run_bind, h, Result.andThen_ok];rfl
theorem eq_arr (x0 x1 x2 x3 y0 y1 y2 y3 : Nat) (w : World) : Sem.run Tryz.prog (Op.equalIn 10000 151 (.agg #[.int .u8 (x0 : Int), .int .u8 (x1 : Int), .int .u8 (x2 : Int), .int .u8 (x3 : Int)]) (.agg #[.int .u8 (y0 : Int), .int .u8 (y1 : Int), .int .u8 (y2 : Int), .int .u8 (y3 : Int)])) w = .ok (decide ([x0, x1, x2, x3] = [y0, y1, y2, y3])) w := by
 have u3 := Tryz.underlying5;have a3 := Tryz.isAgg5;have z3 := Tryz.sizeOf5;rw [show (10000 : Nat) = 9999 + 1 from rfl, Op.equalIn];simp only [Sem.run_bind, run_underlying Tryz.underlying151, Result.andThen_ok];simp only [Std.Legacy.Range.forIn_eq_forIn_range', Std.Legacy.Range.size, Nat.sub_zero, Nat.add_sub_cancel, Nat.div_one, List.range'_succ, List.range'_zero, List.forIn_cons, List.forIn_nil];go_simp;by_cases h0 : x0 = y0 <;> by_cases h1 : x1 = y1 <;> by_cases h2 : x2 = y2 <;> by_cases h3 : x3 = y3 <;> first | (simp [h0, h1, h2, h3]; done) | (simp [h0, h1, h2, h3]; omega)
set_option maxRecDepth 20000 in
set_option maxHeartbeats 2000000 in
theorem lfirst_any (A : Option Addr) (n c : Nat) (b : List Nat) (w : World) (ht : Cr.Tab w) (hr : Rd w A n c (cs b)) (hb : ∀ x ∈ b, x < 256) (hn : n ≤ 70368744177664) :
 Calls Tryz.prog 128 #[.slice A n c] w (FirstIs A c (first b) w) := by
 have hl := hr.len;rw [length_cs] at hl;have htk := Cp.take_any A n c b w hr hb;obtain ⟨hv, hsz⟩ := take_small hb;have hf : first b = first b := rfl
 conv at hf => rhs; unfold first
 have hti := take_is hb;rw [hl] at hf hti;generalize Num.take b = t at *;obtain ⟨v, sz, er⟩ := t;simp only at hv hsz hf hti;have HT := hid ht;have HR := hid hr;have HB := hid hb;have HK := hid htk;have w1 : IntKind.i64.wrap ((sz : Int) + 4) = (sz : Int) + 4 := by simp only [IntKind.wrap_i64]; omega
 by_cases her : er = 0
 · subst her
   replace hti := hti rfl;by_cases h2 : n < sz + 4
   · rw [if_pos (.inr (.inl h2))] at hf
     rw [hf];have b2 : decide ((n : Int) < (sz : Int) + 4) = true := decide_eq_true (by omega);clear ht hr hb htk hf hti;go_enter Tryz.func128, Tryz.ntmps128
     go_wp2_with fail
     refine HK.out.mono ?_;rintro e w2 ⟨rfl, rfl⟩;go_wp2_with fail
     go_ret2
     exact ⟨rfl, Below.refl _ _⟩
   · have b2 : decide ((n : Int) < (sz : Int) + 4) = false := decide_eq_false (by omega)
     have w2 : IntKind.i64.wrap ((n : Int) - ((sz : Int) + 4)) = (n : Int) - ((sz : Int) + 4) := (by simp only [IntKind.wrap_i64]; omega);obtain ⟨M, hM⟩ : ∃ M : Nat, min (n - (sz + 4)) 1048576 = M := ⟨_, rfl⟩
     have hM2 : min ((n : Int) - ((sz : Int) + 4)) 1048576 = (M : Int) := (by omega);have hmn : ∀ (W : World) (ts : Array TypeId) (ty : TypeId), (Builtin.min_ ts ty #[.int .i64 ((n : Int) - ((sz : Int) + 4)), .int .i64 1048576]).run Tryz.prog W = .ok (.int .i64 (M : Int)) W := fun W ts ty => (by rw [Lib.run_min_ints, hM2]);have w3 : IntKind.u64.wrap (M : Int) = (M : Int) := (by simp only [IntKind.wrap_u64]; omega);rw [hM] at hf;by_cases h3 : M < v
     · rw [if_pos (.inr (.inr h3))] at hf
       rw [hf];have b3 : decide ((M : Int) < (v : Int)) = true := decide_eq_true (by omega);clear ht hr hb htk hf hti hM hM2;go_enter Tryz.func128, Tryz.ntmps128
       go_wp2_with fail
       refine HK.out.mono ?_;rintro e w2 ⟨rfl, rfl⟩;go_wp2_with fail
       go_ret2
       exact ⟨rfl, Below.refl _ _⟩
     · have b3 : decide ((M : Int) < (v : Int)) = false := decide_eq_false (by omega)
       rw [if_neg (by simp only [ne_eq, not_true_eq_false, false_or, not_or, Nat.not_lt]; omega)] at hf;obtain ⟨hsv, hput, hszn⟩ := hti.2;have hs8 : sz + 4 + v ≤ n := (by omega);obtain ⟨ad, u0, rfl, hbl, _, _⟩ := hr.at_ (k := 0) (by omega);have hle := hr.le;have hcap := hr.cap;have hrp := (hr.cut (k := sz + 4) (by omega)).take (k := v) (by omega);have hrs := hr.take (k := sz) (by omega);have hrq := (hr.cut (k := sz) (by omega)).take (k := 4) (by omega);rw [cs_drop, cs_take] at hrp hrq;rw [cs_take] at hrs;have eq : cutA (some ad) c sz = some (ad.add (sz * 1)) := (by unfold cutA; rw [if_neg (by omega)]; rfl);rw [eq] at hrq;have hszS : ∀ w, (sizeOf (Tryz.prog.elem 71)).run Tryz.prog w = .ok 1 w := fun w => (by kernel_rfl);have hsh : ∀ w, (Instr.slice 71 (.slice (some ad) n c) none (some (.int .i64 (sz : Int))) none).run Tryz.prog w = .ok (.slice (some ad) sz c) w := fun w => run_high 71 Tryz.underlying71 hszS _ n c sz (by omega) w
       have hsm : ∀ w, (Instr.slice 71 (.slice (some ad) n c) (some (.int .i64 (sz : Int))) (some (.int .i64 ((sz : Int) + 4))) none).run Tryz.prog w = .ok (.slice (some (ad.add (sz * 1))) 4 (c - sz)) w := fun w => by
        have h := run_mid 71 Tryz.underlying71 hszS (some ad) n c sz (sz + 4) (by omega) (by omega) w;rw [eq, show sz + 4 - sz = 4 by omega, Int.natCast_add] at h;exact h
       have hsp : ∀ w, (Instr.slice 71 (.slice (some ad) n c) (some (.int .i64 ((sz : Int) + 4))) (some (.int .i64 ((sz : Int) + 4 + (v : Int)))) none).run Tryz.prog w = .ok (.slice (cutA (some ad) c (sz + 4)) v (c - (sz + 4))) w := fun w => by
        have h := run_mid 71 Tryz.underlying71 hszS (some ad) n c (sz + 4) (sz + 4 + v) (by omega) (by omega) w;rw [show sz + 4 + v - (sz + 4) = v by omega, Int.natCast_add, Int.natCast_add] at h;exact h
       have hplen : ((b.drop (sz + 4)).take v).length = v := (by rw [List.length_take, List.length_drop]; omega);have hqlen : ((b.drop sz).take 4).length = 4 := (by rw [List.length_take, List.length_drop]; omega);have hform : ((form ((b.drop (sz + 4)).take v)).length : Int) = (sz : Int) + 4 + (v : Int) := (by rw [length_form, hplen, ← hsv]; simp only [Int.natCast_add]; rfl);obtain ⟨p, hp⟩ : ∃ p, (b.drop (sz + 4)).take v = p := ⟨_, rfl⟩
       obtain ⟨z, hz⟩ : ∃ z, b.take sz = z := ⟨_, rfl⟩
       have hbp : ∀ x ∈ p, x < 256 := fun x hx => hb x (List.mem_of_mem_drop (List.mem_of_mem_take (hp ▸ hx)));have hbz : ∀ x ∈ z, x < 256 := fun x hx => hb x (List.mem_of_mem_take (hz ▸ hx));rw [hp, hz] at hf;rw [hp] at hrp hplen hform;rw [hz] at hrs;obtain ⟨s, hs⟩ : ∃ s, Crc.sum (p ++ z) = s := ⟨_, rfl⟩
       have hmk : mark p z = be s := (by unfold mark; rw [hs]);rw [hmk] at hf;obtain ⟨x0, x1, x2, x3, hbe⟩ : ∃ x0 x1 x2 x3, be s = [x0, x1, x2, x3] := ⟨_, _, _, _, rfl⟩
       obtain ⟨y0, y1, y2, y3, hy⟩ : ∃ y0 y1 y2 y3, (b.drop sz).take 4 = [y0, y1, y2, y3] := by
        revert hqlen
        generalize (b.drop sz).take 4 = l;intro hl
        match l, hl with
        | [a, b, c, d], _ => exact ⟨a, b, c, d, rfl⟩
       rw [hbe, hy] at hf;rw [hy] at hrq;have hcq : ∀ j u, (cs [y0, y1, y2, y3])[j]? = some u → w.cell? ((ad.add (sz * 1)).add j) = some u := fun j u hu => hrq.cells _ rfl j u hu;have hqb : (ad.add (sz * 1)).block < w.heap.size := (by rw [add_block]; exact hbl);obtain ⟨q, hq⟩ : ∃ q, ad.add (sz * 1) = q := ⟨_, rfl⟩
       obtain ⟨pA, hpA⟩ : ∃ pA, cutA (some ad) c (sz + 4) = pA := ⟨_, rfl⟩
       obtain ⟨pc, hpc⟩ : ∃ pc, c - (sz + 4) = pc := ⟨_, rfl⟩
       obtain ⟨qc, hqc⟩ : ∃ qc, c - sz = qc := ⟨_, rfl⟩
       rw [hq] at hcq hsm hqb;rw [hqc] at hsm;rw [hpA, hpc] at hsp hrp;have hat : ∀ w, (Instr.arrayAt 151 (.slice (some q) 4 qc)).run Tryz.prog w = .ok (.pointer (some q)) w := fun w => run_arrayAt w 151 _ 4 _ 4 qc Tryz.underlying151 (Nat.le_refl _);have hld : ∀ w', (∀ j u, (cs [y0, y1, y2, y3])[j]? = some u → w'.cell? (q.add j) = some u) → (Instr.loadAt 151 (.pointer (some q))).run Tryz.prog w' = .ok (.agg #[.int .u8 (y0 : Int), .int .u8 (y1 : Int), .int .u8 (y2 : Int), .int .u8 (y3 : Int)]) w' := fun w' h => load4 (ys := [y0, y1, y2, y3]) rfl h;have hsb : ∀ w2, Below w.heap.size w w2 → ∀ j u, (cs [y0, y1, y2, y3])[j]? = some u → w2.cell? (q.add j) = some u := fun w2 hb2 j u hu => (hb2.cell (p := q.add j) (by rw [add_block]; exact hqb)).trans (hcq j u hu);have hsum := lsum_any pA v pc p (some ad) sz c z w.drew ht.drew hrp.drew hbp hrs.drew hbz;rw [hs] at hsum
       have hsum2 : Calls Tryz.prog 79 #[.slice pA v pc, .slice (some ad) sz c] w.drew (fun e w' => e = .returned (.agg #[.int .u8 (x0 : Int), .int .u8 (x1 : Int), .int .u8 (x2 : Int), .int .u8 (x3 : Int)]) ∧ Below w.heap.size w w') :=
        hsum.mono fun e w' h => ⟨h.1.trans (by rw [hbe]; rfl), (Below.refl w.heap.size w).drew.trans h.2⟩
       have w4 : IntKind.i64.wrap (v : Int) = (v : Int) := (by simp only [IntKind.wrap_i64]; omega);have w5 : IntKind.i64.wrap ((sz : Int) + 4 + (v : Int)) = (sz : Int) + 4 + (v : Int) := (by simp only [IntKind.wrap_i64]; omega);have HSH := hid hsh;have HSM := hid hsm;have HAT := hid hat;have hne := eq_arr x0 x1 x2 x3 y0 y1 y2 y3;obtain ⟨D, hD⟩ : ∃ D : Bool, decide ([x0, x1, x2, x3] = [y0, y1, y2, y3]) = D := ⟨_, rfl⟩
       rw [hD] at hne;have HD := hid hD;clear hD;have HNE := hid hne;have HSB := hid hsb;have hcq0 : ∀ j u, (cs [y0, y1, y2, y3])[j]? = some u → w.drew.cell? (q.add j) = some u := hcq;have HS0 := hid hcq0;have HS := hid hsum2;have HRP := hid hrp;have HF := hid hf;have hpa2 : cutA (some ad) c (Num.size p.length + 4) = pA ∧ c - (Num.size p.length + 4) = pc := (by rw [hplen, ← hsv]; exact ⟨hpA, hpc⟩);have HE := hid (And.intro hform (And.intro hplen hpa2));have HN := hid (And.intro hle (And.intro hcap hs8));clear ht hr hb htk hf hti hM hM2 hrp hrs hrq hsh hsm hat hld hne hsb hcq hcq0 hsum hsum2 hplen hqlen hform hmk hs hbe hy hq hpA hpc hqc hpa2 hsv hput hszn hszS hbp hbz eq hqb hle hcap;go_enter Tryz.func128, Tryz.ntmps128
       go_wp2_with fail
       refine HK.out.mono ?_;rintro e w2 ⟨rfl, rfl⟩;go_upto_region 7 with fail
       -- WALK
       refine wp_region_held_drew (S := (fun w' : World => ∀ j u, (cs [y0, y1, y2, y3])[j]? = some u → w'.cell? (q.add j) = some u)) (by kernel_rfl) (by first | (with_reducible exact HSK.out) | (with_reducible exact HS0.out)) (fun hHeld => ?_);refine hs_take 0 42 (.slice pA v pc) rfl rfl (by kernel_rfl) (fun _ _ _ h => h) (fun w hSw => by go_simp) hHeld ?_;try simp only [n0, n1, n2]
       refine hs_take 1 43 (.slice (some ad) n c) rfl rfl (by kernel_rfl) (fun _ _ _ h => h) (fun w hSw => by go_simp) hHeld ?_;try simp only [n0, n1, n2]
       refine hs_take 2 44 (.int .i64 (sz : Int)) rfl rfl (by kernel_rfl) (fun _ _ _ h => h) (fun w hSw => by go_simp) hHeld ?_;try simp only [n0, n1, n2]
       refine hs_take 3 45 (.slice (some ad) sz c) rfl rfl (by kernel_rfl) (fun _ _ _ h => h) (fun w hSw => by have hx := HSH.out w; go_simp) hHeld ?_;try simp only [n0, n1, n2]
       refine hs_take 5 47 (.slice (some ad) n c) rfl rfl (by kernel_rfl) (fun _ _ _ h => h) (fun w hSw => by go_simp) hHeld ?_;try simp only [n0, n1, n2]
       refine hs_take 6 48 (.int .i64 (sz : Int)) rfl rfl (by kernel_rfl) (fun _ _ _ h => h) (fun w hSw => by go_simp) hHeld ?_;try simp only [n0, n1, n2]
       refine hs_take 7 49 (.int .i64 ((sz : Int) + 4)) rfl rfl (by kernel_rfl) (fun _ _ _ h => h) (fun w hSw => by go_simp) hHeld ?_;try simp only [n0, n1, n2]
       refine hs_take 8 50 (.slice (some q) 4 qc) rfl rfl (by kernel_rfl) (fun _ _ _ h => h) (fun w hSw => by have hx := HSM.out w; go_simp) hHeld ?_;try simp only [n0, n1, n2]
       refine hs_take 9 51 (.pointer (some q)) rfl rfl (by kernel_rfl) (fun _ _ _ h => h) (fun w hSw => by have hx := HAT.out w; go_simp) hHeld ?_;try simp only [n0, n1, n2]
       refine hs_take 10 52 (.agg #[.int .u8 (y0 : Int), .int .u8 (y1 : Int), .int .u8 (y2 : Int), .int .u8 (y3 : Int)]) rfl rfl (by kernel_rfl) (fun _ _ _ h => h) (run_load4 (.tmp 51) y0 y1 y2 y3 rfl rfl (fun _ h => h)) hHeld ?_;try simp only [n0, n1, n2]
       refine wpAnyH_ready (rs := [4]) (by kernel_rfl) (by simp) ?_;refine AllReadyH.cons rfl (fun K hK => ?_) AllReadyH.nil;go_simp;refine HS.out.mono ?_;rintro e w2 ⟨rfl, hb2⟩;have HC := hid hb2;have HSK := hid (HSB.out _ hb2);clear hb2;refine hK.out _ _ (by first | (with_reducible exact HSK.out) | (with_reducible exact HS0.out)) (fun hHeld => ?_);clear hK K;refine hs_take 11 53 (.bool (!D)) rfl rfl (by kernel_rfl) (fun _ _ _ h => h) (fun w hSw => by have hx := HNE.out w; go_simp) hHeld ?_;try simp only [n0, n1, n2]
       refine wpAnyH_done (by kernel_rfl) ?_ _;skip
       -- KLAW
       cases D with
       | true =>
         have hff := HF.out;rw [if_pos (of_decide_eq_true HD.out)] at hff;have HFF := hid hff;clear hff;go_wp2_with fail
         go_ret2
         rw [HFF.out];refine ⟨?_, HC.out⟩;rw [HE.out.1, HE.out.2.2.1, HE.out.2.2.2, HE.out.2.1];rfl
       | false =>
         have hff := HF.out;rw [if_neg (of_decide_eq_false HD.out)] at hff;have HFF := hid hff;clear hff;go_wp2_with fail
         go_ret2
         rw [HFF.out];exact ⟨rfl, HC.out⟩
 · have b1 : ((er : Int) != 0) = true := by simpa using her
   rw [if_pos (.inl her)] at hf;rw [hf];clear ht hr hb htk hf hti;go_enter Tryz.func128, Tryz.ntmps128
   go_wp2_with fail
   refine HK.out.mono ?_;rintro e w2 ⟨rfl, rfl⟩;go_wp2_with fail
   go_ret2
   exact ⟨rfl, Below.refl _ _⟩
end Go.Proofs.YtkejjdoaljoooaaGreatDoor.Lg
