/-
  Texts of earlier layers, as one.
-/
import Derived.ProofKit
import Derived.Test.YtkejjdoaljoooaaGreatDoorRCmd
import Derived.Test.YtkejjdoaljoooaaGreatDoorRAtt
/- Ballots as pairs (the round, whose it is): when one is right, which is ahead, which is next; plain mathematics, of no program. -/
namespace Go.Proofs.YtkejjdoaljoooaaGreatDoor.Bal
open Lib (hid)
def right (b : Int × Int) : Bool := decide (0 ≤ b.1 ∧ b.1 ≤ 1099511627776 ∧ 0 ≤ b.2 ∧ b.2 < 7)
def less (a b : Int × Int) : Bool := decide (a.1 < b.1 ∨ a.1 = b.1 ∧ a.2 < b.2)
def next (a : Int × Int) (y : Int) : (Int × Int) × Bool := if right (a.1 + 1, y) = true then ((a.1 + 1, y), true) else ((0, 0), false)
end Go.Proofs.YtkejjdoaljoooaaGreatDoor.Bal
/- ballot.Right, Less, First and Next; the model's '==' of two ballots. -/
namespace Go.Proofs.YtkejjdoaljoooaaGreatDoor.Bal
open Lib (hid)
open Go.RowKit Mem
theorem eql_bal (a b : Int × Int) (w : World) : Sem.run Tryz.prog (binOp .eql 36 (.agg #[.int .i64 a.1, .int .i64 a.2]) (.agg #[.int .i64 b.1, .int .i64 b.2])) w = .ok (.bool (decide (a = b))) w := by
 have u3 := Tryz.underlying3;have a3 := Tryz.isAgg3;have z3 := Tryz.sizeOf3;have hS : Tryz.prog.underlying 36 = some (.struct (Tryz.prog.fieldsOf 36)) := by kernel_rfl
 have hp : Tryz.prog.stoodInHeld 36 = false := by kernel_rfl
 rw [run_eql_struct, show (10000 : Nat) = 9999 + 1 from rfl, run_equalIn_agg w 9999 36 _ _ hS hp];simp only [Program.fieldsOf, Tryz.underlying36];go_simp;obtain ⟨a1, a2⟩ := a;obtain ⟨b1, b2⟩ := b;by_cases h1 : a1 = b1 <;> by_cases h2 : a2 = b2 <;> simp [h1, h2]
set_option maxHeartbeats 1000000 in
theorem less_any (a b : Int × Int) (w : World) :
 Calls Tryz.prog 138 #[.agg #[.int .i64 a.1, .int .i64 a.2], .agg #[.int .i64 b.1, .int .i64 b.2]] w (Tells (less a b) w) := by
 obtain ⟨t, ht⟩ : ∃ t, less a b = t := ⟨_, rfl⟩
 rw [ht];have HT := hid ht;clear ht;have heq := eql_bal a b;have HG := hid (fun o1 o2 : Obj => (bel_alloc (bel_alloc (Below.refl _ w) o1) o2));obtain ⟨a1, a2⟩ := a;obtain ⟨b1, b2⟩ := b;simp only at heq;by_cases h0 : a1 = b1
 · subst h0
   by_cases h2 : a2 = b2
   · subst h2
     rw [decide_eq_true rfl] at heq;go_enter Tryz.func138, Tryz.ntmps138
     go_wp2
     go_ret;refine ⟨?_, HG.out _ _⟩;rw [← HT.out];simp [less]
   · rw [decide_eq_false (by simp [h2])] at heq
     go_enter Tryz.func138, Tryz.ntmps138
     go_wp2
     go_ret;refine ⟨?_, HG.out _ _⟩;rw [← HT.out];simp [less]
 · rw [decide_eq_false (by simp [h0])] at heq
   go_enter Tryz.func138, Tryz.ntmps138
   go_wp2
   go_ret;refine ⟨?_, HG.out _ _⟩;rw [← HT.out];simp [less, h0]
set_option maxHeartbeats 1000000 in
theorem right_any (a : Int × Int) (w : World) :
 Calls Tryz.prog 137 #[.agg #[.int .i64 a.1, .int .i64 a.2]] w (Tells (right a) w) := by
 obtain ⟨t, ht⟩ : ∃ t, right a = t := ⟨_, rfl⟩
 rw [ht];have HT := hid ht;clear ht;obtain ⟨a1, a2⟩ := a;have HG := hid (fun o1 : Obj => (bel_alloc (Below.refl _ w) o1));go_enter Tryz.func137, Tryz.ntmps137
 by_cases h1 : 0 ≤ a1
 · by_cases h2 : a1 ≤ 1099511627776
   · by_cases h3 : 0 ≤ a2
     · by_cases h4 : a2 < 7
       · go_wp2
         go_ret;refine ⟨?_, HG.out _⟩;rw [← HT.out];simp [right];omega
       · go_wp2
         go_ret;refine ⟨?_, HG.out _⟩;rw [← HT.out];simp [right];omega
     · go_wp2
       go_ret;refine ⟨?_, HG.out _⟩;rw [← HT.out];simp [right];omega
   · go_wp2
     go_ret;refine ⟨?_, HG.out _⟩;rw [← HT.out];simp [right];omega
 · go_wp2
   go_ret;refine ⟨?_, HG.out _⟩;rw [← HT.out];simp [right];omega
end Go.Proofs.YtkejjdoaljoooaaGreatDoor.Bal
/- The document's Right and Less of ballots. -/
namespace Go.Proofs.YtkejjdoaljoooaaGreatDoor.Bal
open Lib (hid)
open Go.RowKit Mem
end Go.Proofs.YtkejjdoaljoooaaGreatDoor.Bal
/- A ballot's item, plainly: what it is, and which ballot an item says. -/
namespace Go.Proofs.YtkejjdoaljoooaaGreatDoor.Bal
open Lib (hid)
open Cod Cmd
theorem lt_right {b : Int × Int} (h : right b = true) : (0 ≤ b.1 ∧ b.1 ≤ 1099511627776) ∧ 0 ≤ b.2 ∧ b.2 ≤ 6 := by
 simp [right] at h;omega
def balIt (b : Int × Int) : It := .mk 2 0 ByteArray.empty [numIt b.1, numIt b.2]
def balItem (b : Int × Int) : It := if right b = true then balIt b else zeroIt
def balOf (x : It) : Int × Int := (w64 (kid x 0).num, w64 (kid x 1).num)
def balTake (x : It) : Option (Int × Int) := if x.kids.length = 2 ∧ same (balItem (balOf x)) x = true then some (balOf x) else none
theorem bal_back {b : Int × Int} (h : right b = true) : balOf (balIt b) = b := by
 obtain ⟨h1, h2⟩ := lt_right h;obtain ⟨b1, b2⟩ := b;simp only at h1 h2;have e : ∀ v : Int, 0 ≤ v → v ≤ 1099511627776 → w64 v.toNat = v := fun v a b => by rw [w64_small (by omega)]; omega
 show ((w64 b1.toNat, w64 b2.toNat) : Int × Int) = _;rw [e b1 (by omega) (by omega), e b2 (by omega) (by omega)]
theorem take_bal {b : Int × Int} (h : right b = true) : balTake (balIt b) = some b := by
 rw [balTake, bal_back h, if_pos ⟨rfl, (same_iff _ _).2 (by rw [balItem, if_pos h])⟩]
end Go.Proofs.YtkejjdoaljoooaaGreatDoor.Bal
/- ballot.Item and the document's: in memory of the call's own. -/
namespace Go.Proofs.YtkejjdoaljoooaaGreatDoor.Bal
open Lib (hid)
open Go.RowKit Mem Cod Cmd
theorem blk2 {w : World} {g : Nat} {t : TypeId} {a b : Value} (h : Blk w g t #[a, b]) : w.cell? ⟨g, 0, none⟩ = some a ∧ w.cell? ⟨g, 1, none⟩ = some b := ⟨h.cell 0, h.cell 1⟩
theorem held2 {w w' : World} {g : Nat} {t : TypeId} {a b : Value} (h1 : Blk w g t #[a, b]) (hb : Below w.heap.size w w') :
 w'.cell? ⟨g, 0, none⟩ = some a ∧ w'.cell? ⟨g, 1, none⟩ = some b := blk2 (h1.bel hb)
theorem held2a {w w' : World} {g : Nat} {t : TypeId} {a b : Value} (h1 : Blk w g t #[a, b]) (hb : Below w.heap.size w w') (o : Obj) :
 (w'.alloc o).cell? ⟨g, 0, none⟩ = some a ∧ (w'.alloc o).cell? ⟨g, 1, none⟩ = some b := blk2 ((h1.bel hb).alloc o)
theorem row2 {b1 b2 : Int} (h : right (b1, b2) = true) (w : World) (u : TypeId) :
 Cod.Row (w.alloc (.cells #[.int .i64 0, .int .u64 b1, .string ByteArray.empty, .slice none 0 0, .int .i64 0, .int .u64 b2, .string ByteArray.empty, .slice none 0 0] u)) (fun k => k = w.heap.size) (some ⟨w.heap.size, 0, none⟩) 2 2 [numIt b1, numIt b2] := by
 obtain ⟨h1, h2⟩ := lt_right h;simp only at h1 h2;refine row_new w (fun k => k = w.heap.size) rfl [⟨numIt b1, none, 0⟩, ⟨numIt b2, none, 0⟩] 2 rfl (by decide) _ u ?_ ?_
 · have e0 : ((b1.toNat : Nat) : Int) = b1 := Int.toNat_of_nonneg h1.1
   have e1 : ((b2.toNat : Nat) : Int) = b2 := Int.toNat_of_nonneg h2.1;show _ = [Value.int .i64 0, .int .u64 ((b1.toNat : Nat) : Int), .string ByteArray.empty, .slice none 0 0, .int .i64 0, .int .u64 ((b2.toNat : Nat) : Int), .string ByteArray.empty, .slice none 0 0];rw [e0, e1]
 · intro x hx
   simp only [List.mem_cons, List.not_mem_nil, or_false] at hx;rcases hx with rfl | rfl
   · exact lies_leaf _ _ (by decide) (by show b1.toNat ≤ _; omega) (by decide)
   · exact lies_leaf _ _ (by decide) (by show b2.toNat ≤ _; omega) (by decide)
theorem wts_two (a b : Int) : wts [numIt a, numIt b] ≤ 100000 := by
 have e1 : ∀ v, wts [numIt v] = 1 := fun v => by rw [wts_one]; simp [numIt, wt, wts]
 rw [show [numIt a, numIt b] = [numIt a] ++ [numIt b] from rfl, wts_append, e1, e1];decide
set_option maxRecDepth 100000 in
set_option maxHeartbeats 4000000 in
theorem balitem_any (b1 b2 : Int) (w : World) :
 Calls Tryz.prog 96 #[.agg #[.int .i64 b1, .int .i64 b2]] w (GivesNew w (balItem (b1, b2))) := by
 obtain ⟨W, hW⟩ : ∃ W, (w.alloc (.cells #[.int .i64 b1, .int .i64 b2] 36)).alloc (.cells #[.int .i64 0, .int .u64 0, .string ⟨#[]⟩, .slice none 0 0] 95) = W := ⟨_, rfl⟩
 obtain ⟨k1, k2, kb, hsW⟩ := Go.Proofs.YtkejjdoaljoooaaGreatDoor.two_kinds w _ _ _ _ W hW;have HK1 := hid k1;have HBX := hid k2;have HB0 := hid kb;have HW := hid hW;obtain ⟨p0, p1⟩ := blk2 k1;obtain ⟨y0, y1, y2, y3⟩ := blk4 k2;have hck := right_any (b1, b2) W;simp only at hck;clear k1 k2 kb hW;go_enter Tryz.func96, Tryz.ntmps96
 go_wp2_with fail
 rw [HW.out];cases hc : right (b1, b2) with
 | false =>
   have hit : balItem (b1, b2) = zeroIt := if_neg (by rw [hc]; decide);have HIT := hid hit;rw [hc] at hck;have HCK := hid hck;clear hck hit hc p0 p1 y0 y1 y2 y3;refine HCK.out.mono ?_;rintro e w2 ⟨rfl, hb2⟩;have hblk := HBX.out.bel hb2;have HB2 := hid (bel_trans HB0.out hb2);obtain ⟨c0, c1, c2, c3⟩ := blk4 hblk;have z0 := hblk.soft 0;have z1 := hblk.soft 1;have z2 := hblk.soft 2;have z3 := hblk.soft 3;have hs2 := hb2.size;clear hb2;go_wp2_with fail
   obtain ⟨hblk2, hgr⟩ := blk4_set hblk (.int .i64 0) (.int .u64 0) (.string ⟨#[]⟩) (.slice none 0 0);generalize (((w2.setCell ⟨w.heap.size + 1, 0, none⟩ (.int .i64 0)).setCell ⟨w.heap.size + 1, 1, none⟩ (.int .u64 0)).setCell ⟨w.heap.size + 1, 2, none⟩ (.string ⟨#[]⟩)).setCell ⟨w.heap.size + 1, 3, none⟩ (.slice none 0 0) = w9 at hblk2 hgr ⊢;obtain ⟨d0, d1, d2, d3⟩ := blk4 hblk2;refine bodyPost_ret (v := .agg #[.int .i64 0, .int .u64 0, .string ByteArray.empty, .slice none 0 0]) (by simp [results, Tryz.results96, go_sem, d0, d1, d2, d3]; rfl) rfl ?_;rw [HIT.out];exact ⟨none, 0, rfl, lies_leaf _ _ (by omega) (by omega) (by decide), HB2.out.trans (gr_below hgr (by omega) fun b hb => by cases hb; omega)⟩
 | true =>
 have hit : balItem (b1, b2) = balIt (b1, b2) := if_pos hc;rw [hc] at hck;have HIT := hid hit;have HCK := hid hck;clear hit hck;have HCH := hid hc;obtain ⟨g1, g2⟩ := lt_right hc;simp only at g1 g2;have H0 := hid (num_any b1);have u0 : IntKind.u64.wrap b1 = b1 := u64_in (by omega) (by omega);have H1 := hid (num_any b2);have u1 : IntKind.u64.wrap b2 = b2 := u64_in (by omega) (by omega);clear hc g1 g2;refine HCK.out.mono ?_;rintro e w2 ⟨rfl, hb2⟩;have HCUR := hid (Below.drew hb2);obtain ⟨p0, p1⟩ := blk2 (HK1.out.bel hb2);obtain ⟨y0, y1, y2, y3⟩ := blk4 (HBX.out.bel hb2);clear hb2 HCK;go_wp2_with fail
 go_region_held3 (fun w' => w'.cell? ⟨w.heap.size, 0, none⟩ = some (.int .i64 b1) ∧ w'.cell? ⟨w.heap.size, 1, none⟩ = some (.int .i64 b2)) (first | (with_reducible exact held2a HK1.out HCUR.out _) | (with_reducible exact held2 HK1.out HCUR.out) | (with_reducible exact HLAST.out _ _ _ _))
  (first
  | (go_at_call 67
     refine (H0.out _).mono ?_;rintro e v1 ⟨rfl, hb1⟩;have hnow := HCUR.out.trans (hb1.mono HCUR.out.size);replace HCUR := hid hnow;clear H0 hb1 hnow)
  | (go_at_call 67
     refine (H1.out _).mono ?_;rintro e v1 ⟨rfl, hb1⟩;have hnow := HCUR.out.trans (hb1.mono HCUR.out.size);replace HCUR := hid hnow;clear H1 hb1 hnow)
  | (go_at_call 65
     refine (list_more _ 2 2 _ [numIt b1, numIt b2] _ (row2 HCH.out v1 95) (fun b hb => by have := size_alloc v1 (.cells #[.int .i64 0, .int .u64 b1, .string ByteArray.empty, .slice none 0 0, .int .i64 0, .int .u64 b2, .string ByteArray.empty, .slice none 0 0] 95); omega) (wts_two _ _)).mono ?_;rintro e w5 ⟨V5, c5, rfl, hr5, hb5⟩;have hs6 := size_alloc v1 (.cells #[.int .i64 0, .int .u64 b1, .string ByteArray.empty, .slice none 0 0, .int .i64 0, .int .u64 b2, .string ByteArray.empty, .slice none 0 0] 95);have hs5 := hb5.size;have hsv := HCUR.out.size;have hnow := (HCUR.out.alloc HCUR.out.size (.cells #[.int .i64 0, .int .u64 b1, .string ByteArray.empty, .slice none 0 0, .int .i64 0, .int .u64 b2, .string ByteArray.empty, .slice none 0 0] 95)).trans (hb5.mono (by omega));have hblk := HBX.out.bel hnow;obtain ⟨c0, c1, c2, c3⟩ := blk4 hblk;have z0 := hblk.soft 0;have z1 := hblk.soft 1;have z2 := hblk.soft 2;have z3 := hblk.soft 3;have HR5 := hid hr5;have HB5 := hid hnow;replace HCUR := hid hnow;have HKB := hid hblk;have hs7 : W.heap.size ≤ v1.heap.size := hsv;have HVV := hid (And.intro hs6 (And.intro hs5 hs7));have HLAST := hid (show ∀ (x0 x1 x2 x3 : Value), _ from fun x0 x1 x2 x3 => blk2 (((((HK1.out.bel hnow).far (p := ⟨w.heap.size + 1, 0, none⟩) (by simp) x0).far (p := ⟨w.heap.size + 1, 1, none⟩) (by simp) x1).far (p := ⟨w.heap.size + 1, 2, none⟩) (by simp) x2).far (p := ⟨w.heap.size + 1, 3, none⟩) (by simp) x3));clear hr5 hb5 hnow hblk hs6 hs5 hsv hs7))
 go_wp2_with fail
 obtain ⟨hblk2, hgr⟩ := blk4_set HKB.out (.int .i64 2) (.int .u64 0) (.string ByteArray.empty) (.slice V5 2 c5);generalize (((w5.setCell ⟨w.heap.size + 1, 0, none⟩ (.int .i64 2)).setCell ⟨w.heap.size + 1, 1, none⟩ (.int .u64 0)).setCell ⟨w.heap.size + 1, 2, none⟩ (.string ByteArray.empty)).setCell ⟨w.heap.size + 1, 3, none⟩ (.slice V5 2 c5) = w9 at hblk2 hgr ⊢;obtain ⟨d0, d1, d2, d3⟩ := blk4 hblk2;refine bodyPost_ret (v := .agg #[.int .i64 2, .int .u64 0, .string ByteArray.empty, .slice V5 2 c5]) (by simp [results, Tryz.results96, go_sem, d0, d1, d2, d3]) rfl ?_;obtain ⟨e1, e2, e3⟩ := HVV.out;have hs9 := hgr.size;have hrow9 : Cod.Row w9 (fun b => w.heap.size ≤ b ∧ b < w9.heap.size) V5 2 c5 [numIt b1, numIt b2] := (HR5.out.grown hgr (fun b hb e => by injection e with e; omega)).more fun b hb _ => by omega
 rw [HIT.out];refine ⟨V5, c5, rfl, hrow9.lies (by omega) (by omega) (by decide), ?_⟩;exact (HB0.out.trans (HB5.out.mono (by omega))).trans (gr_below hgr (by have := HB5.out.size; omega) fun b hb => by injection hb with hb; omega)
end Go.Proofs.YtkejjdoaljoooaaGreatDoor.Bal
/- ballot.Take: the ballot that an item says. -/
namespace Go.Proofs.YtkejjdoaljoooaaGreatDoor.Bal
open Lib (hid)
open Go.RowKit Mem Cod Cmd
def BalTakes (w : World) (r : Option (Int × Int)) (e : Ending) (w' : World) : Prop :=
 e = .returned (.tuple #[.agg #[.int .i64 (r.getD (0, 0)).1, .int .i64 (r.getD (0, 0)).2], .bool r.isSome]) ∧ Below w.heap.size w w'
theorem held6 {w w' : World} {g h : Nat} {t u : TypeId} {a b a' b' c' d' : Value} (h1 : Blk w g t #[a, b]) (h2 : Blk w h u #[a', b', c', d']) (hb : Below w.heap.size w w') :
 w'.cell? ⟨g, 0, none⟩ = some a ∧ w'.cell? ⟨g, 1, none⟩ = some b ∧ w'.cell? ⟨h, 0, none⟩ = some a' ∧ w'.cell? ⟨h, 1, none⟩ = some b' ∧ w'.cell? ⟨h, 2, none⟩ = some c' ∧ w'.cell? ⟨h, 3, none⟩ = some d' := by
 obtain ⟨x0, x1⟩ := blk2 (h1.bel hb);obtain ⟨y0, y1, y2, y3⟩ := blk4 (h2.bel hb);exact ⟨x0, x1, y0, y1, y2, y3⟩
theorem blk2_set {w : World} {g : Nat} {t : TypeId} {a b : Value} (h : Blk w g t #[a, b]) (a' b' : Value) :
 Blk ((w.setCell ⟨g, 0, none⟩ a').setCell ⟨g, 1, none⟩ b') g t #[a', b'] ∧ w.grownBy ((w.setCell ⟨g, 0, none⟩ a').setCell ⟨g, 1, none⟩ b') (some g) :=
 ⟨by simpa using (h.put 0 a').put 1 b', gr_set (p := ⟨g, 1, none⟩) (gr_set (p := ⟨g, 0, none⟩) (gr_refl w (some g)) (.inl rfl) _) (.inl rfl) _⟩
theorem two_kids {x : It} (h : x.kids.length = 2) : ∃ s d, x.kids = [s, d] := by
 match hk : x.kids, h with
 | [s, d], _ => exact ⟨s, d, rfl⟩
theorem wt_balItem (b : Int × Int) : wt (balItem b) ≤ 10 := by
 unfold balItem;split
 · simp [balIt, wt, wts, numIt]
 · decide
set_option maxRecDepth 100000 in
set_option maxHeartbeats 4000000 in
theorem baltake_any (x : It) (A : Option Addr) (c : Nat) (S : Nat → Prop) (w : World) (hl : Lies w S x A c) (hS : ∀ b, S b → b < w.heap.size) :
 Calls Tryz.prog 102 #[.agg #[.int .i64 x.kind, .int .u64 (x.num : Int), .string x.str, .slice A x.kids.length c]] w (BalTakes w (balTake x)) := by
 have hsm := fun (W : World) (y : It) (V1 : Option Addr) (c1 : Nat) (hy : wt y ≤ 100000) (h1 : Lies W (fun b => b < W.heap.size) y V1 c1) (h2 : Lies W (fun b => b < W.heap.size) x A c) => same_item y x V1 A c1 c _ W h1 h2 (fun b hb => hb) hy;obtain ⟨n, hn⟩ : ∃ n, x.kids.length = n := ⟨_, rfl⟩
 obtain ⟨b1, b2, b3, b4, b5, b6⟩ := hl.bounds;rw [hn] at b5 hsm ⊢;obtain ⟨W, hW⟩ : ∃ W, (w.alloc (.cells #[.int .i64 x.kind, .int .u64 (x.num : Int), .string x.str, .slice A n c] 95)).alloc (.cells #[.int .i64 0, .int .i64 0] 36) = W := ⟨_, rfl⟩
 obtain ⟨k1, k2, kb, hsW⟩ := Go.Proofs.YtkejjdoaljoooaaGreatDoor.two_kinds w _ _ _ _ W hW;have HL := hid (hl.below kb hS);have HX := hid k1;have HBX := hid k2;have HB0 := hid kb;have HW := hid hW;have HSS := hid hS;have HN := hid hn;clear hl hS k1 k2 kb hW hn b1 b2 b3 b4 b6;go_enter Tryz.func102, Tryz.ntmps102
 by_cases h6 : n = 2
 case neg =>
  have HNO := hid (show balTake x = none from if_neg fun h => h6 (HN.out.symm.trans h.1));have hne : ((n : Int) != 2) = true := by simp; omega
  clear h6 hsm;go_wp2_with fail
  refine bodyPost_ret (v := .tuple #[.agg #[.int .i64 0, .int .i64 0], .bool false]) (by simp [results, Tryz.results102, go_sem]) rfl ?_;rw [HNO.out, HW.out];exact ⟨rfl, HB0.out⟩
 subst h6;have HSM := hid hsm;obtain ⟨s, d, hkids⟩ := two_kids HN.out;have hks : kid x 0 = s ∧ kid x 1 = d := by unfold kid; rw [hkids]; exact ⟨rfl, rfl⟩
 obtain ⟨g, o, A1, c1, A2, c2, rfl, hSg, hg, f1, f2, l1, l2⟩ := kids2 HL.out hkids;obtain ⟨_, a1, _, _⟩ := f1;obtain ⟨_, m1, _, _⟩ := f2
 have htk : balTake x = if same (balItem (balOf x)) x = true then some (balOf x) else none := by
  unfold balTake;simp only [HN.out, true_and]
 obtain ⟨R0, hR0⟩ : ∃ R : Int, w64 s.num = R := ⟨_, rfl⟩
 obtain ⟨R1, hR1⟩ : ∃ R : Int, w64 d.num = R := ⟨_, rfl⟩
 have hbo : balOf x = (R0, R1) := by rw [balOf, hks.1, hks.2, hR0, hR1]
 rw [hbo] at htk;have hit := fun w => balitem_any R0 R1 w;have hwt := wt_balItem (R0, R1);generalize balItem (R0, R1) = y at htk hit hwt;generalize hr : same y x = r at htk;have HRS := hid hr;have HIT := hid hit;have HWT := hid hwt;have HTK := hid htk;unfold w64 at hR0 hR1;obtain ⟨x0, x1, x2, x3⟩ := blk4 HX.out;clear htk hbo hr hit hwt hsm hks hkids l1 l2;have HSW := hid hsW;have hwW : w.heap.size < W.heap.size := by omega
 clear hsW;go_upto_region 3 with fail
 rw [HW.out];have hn1 := World.new_ne W ⟨w.heap.size, 3, none⟩ x3;have hn2 := World.new_ne W ⟨g, o + 1, none⟩ a1;go_region_held3 (fun w' => w'.cell? ⟨w.heap.size, 3, none⟩ = some (.slice (some ⟨g, o, none⟩) 2 c) ∧ w'.cell? ⟨g, o + 1, none⟩ = some (.int .u64 (s.num : Int)) ∧ w'.cell? ⟨g, o + 4 + 1, none⟩ = some (.int .u64 (d.num : Int))) (go_keep) (fail)
 have hsW := HSW.out;have hc4 := Blk.drew (Blk.new W 36 #[.int .i64 R0, .int .i64 R1]);have hbe := Below.drew (bel_alloc (Below.refl W.heap.size W) (.cells #[.int .i64 R0, .int .i64 R1] 36));have hs2 := size_alloc W (.cells #[.int .i64 R0, .int .i64 R1] 36);have hs2' : (W.alloc (.cells #[.int .i64 R0, .int .i64 R1] 36)).drew.heap.size = W.heap.size + 1 := hs2;generalize (W.alloc (.cells #[.int .i64 R0, .int .i64 R1] 36)).drew = W2 at hc4 hbe hs2' ⊢;have HC4 := hid hc4;have HX2 := hid (HX.out.bel hbe);have HBE := hid hbe;have HCUR := hid (Below.drew (Below.refl W2.heap.size W2));have hL2 := HL.out.below hbe (fun b hb => by have := HSS.out b hb; omega);have HL2 := hid hL2;have hle1 : w.heap.size + 2 ≤ W.heap.size := by omega
 have hle2 : W.heap.size + 1 ≤ W2.heap.size := by omega
 clear hsW hs2' hc4 hbe hs2 hL2 a1 m1 x0 x1 x2 x3 hR0 hR1;go_wp2_with fail
 go_region_held3 (fun w' => w'.cell? ⟨W.heap.size, 0, none⟩ = some (.int .i64 R0) ∧ w'.cell? ⟨W.heap.size, 1, none⟩ = some (.int .i64 R1) ∧ w'.cell? ⟨w.heap.size, 0, none⟩ = some (.int .i64 x.kind) ∧ w'.cell? ⟨w.heap.size, 1, none⟩ = some (.int .u64 (x.num : Int)) ∧ w'.cell? ⟨w.heap.size, 2, none⟩ = some (.string x.str) ∧ w'.cell? ⟨w.heap.size, 3, none⟩ = some (.slice (some ⟨g, o, none⟩) 2 c)) (with_reducible exact held6 HC4.out HX2.out HCUR.out)
  (first
  | (go_at_call 96
     refine (HIT.out _).mono ?_;rintro e v1 ⟨V1, k1, rfl, hl1, hb1⟩;have hnow := HCUR.out.trans (hb1.mono HCUR.out.size);have hsn := hnow.size;have hlx := (HL2.out.below hnow fun b hb => by have := HSS.out b hb; omega).more (S' := fun b => b < v1.heap.size) fun b hb _ => (by have := HSS.out b hb; omega);have hsm := HSM.out v1 y V1 k1 (Nat.le_trans HWT.out (by decide)) (hl1.more fun b hb _ => hb.2) hlx;rw [HRS.out] at hsm;replace HCUR := hid hnow;replace HSM := hid hsm;clear HIT hb1 hnow hl1 hlx hsm hsn)
  | (go_at_call 108
     refine HSM.out.mono ?_;rintro e v2 ⟨rfl, hb1⟩;have hnow := HCUR.out.trans (hb1.mono HCUR.out.size);replace HCUR := hid hnow;clear HSM hb1 hnow))
 replace HBE := hid (bel_trans HBE.out HCUR.out);cases r
 case false =>
  have hs9 := HBE.out.size;have hblk := HBX.out.bel HBE.out;have hw0 := HB0.out.size;obtain ⟨j0, j1⟩ := blk2 hblk;have z0 := hblk.soft 0;have z1 := hblk.soft 1;obtain ⟨i0, i1⟩ := blk2 (HC4.out.bel HCUR.out);go_wp2_with fail
  obtain ⟨hblk2, hgr⟩ := blk2_set hblk (.int .i64 0) (.int .i64 0);generalize (v2.setCell ⟨w.heap.size + 1, 0, none⟩ (.int .i64 0)).setCell ⟨w.heap.size + 1, 1, none⟩ (.int .i64 0) = w9 at hblk2 hgr ⊢;obtain ⟨d0, d1⟩ := blk2 hblk2;refine bodyPost_ret (v := .tuple #[.agg #[.int .i64 0, .int .i64 0], .bool false]) (by simp [results, Tryz.results102, go_sem, d0, d1]) rfl ?_;rw [HTK.out];exact ⟨rfl, (HB0.out.trans (HBE.out.mono (by omega))).trans (gr_below hgr (by omega) fun b hb => by injection hb with hb; omega)⟩
 case true =>
  have hs9 := HBE.out.size;have hblk := HBX.out.bel HBE.out;have hw0 := HB0.out.size;obtain ⟨j0, j1⟩ := blk2 hblk;have z0 := hblk.soft 0;have z1 := hblk.soft 1;obtain ⟨i0, i1⟩ := blk2 (HC4.out.bel HCUR.out);go_wp2_with fail
  obtain ⟨hblk2, hgr⟩ := blk2_set hblk (.int .i64 R0) (.int .i64 R1);generalize (v2.setCell ⟨w.heap.size + 1, 0, none⟩ (.int .i64 R0)).setCell ⟨w.heap.size + 1, 1, none⟩ (.int .i64 R1) = w9 at hblk2 hgr ⊢;obtain ⟨d0, d1⟩ := blk2 hblk2;refine bodyPost_ret (v := .tuple #[.agg #[.int .i64 R0, .int .i64 R1], .bool true]) (by simp [results, Tryz.results102, go_sem, d0, d1]) rfl ?_;rw [HTK.out];exact ⟨rfl, (HB0.out.trans (HBE.out.mono (by omega))).trans (gr_below hgr (by omega) fun b hb => by injection hb with hb; omega)⟩
end Go.Proofs.YtkejjdoaljoooaaGreatDoor.Bal
