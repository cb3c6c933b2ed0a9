/-
  Texts of earlier layers, as one.
-/
import Derived.Test.YtkejjdoaljoooaaGreatDoorRIds
import Derived.Test.YtkejjdoaljoooaaGreatDoorRCodS
import Derived.Deep.RegionHeld3
import Derived.Laws.MakeOwn
/- Sets of ids as items, of no program: the item of a list, the ids that an item's numbers say, when an item is a right set's. -/
namespace Go.Proofs.YtkejjdoaljoooaaGreatDoor.Ids
open Lib (hid)
open Cod
def numIt (v : Int) : It := .mk 0 v.toNat ByteArray.empty []
def its (l : List (Int × Int)) : List It := l.flatMap fun x => [numIt x.1, numIt x.2]
def setIt (l : List (Int × Int)) : It := .mk 2 0 ByteArray.empty (its l)
def zeroIt : It := .mk 0 0 ByteArray.empty []
def itemOf (l : List (Int × Int)) : It := if Ids.chk l = true then setIt l else zeroIt
theorem its_append (a b : List (Int × Int)) : its (a ++ b) = its a ++ its b := by simp [its]
theorem length_its (l : List (Int × Int)) : (its l).length = l.length * 2 := by
 induction l with
 | nil => rfl
 | cons a l ih => simp [its] at *; omega
theorem wts_its (l : List (Int × Int)) : wts (its l) = l.length * 2 := by
 induction l with
 | nil => rfl
 | cons a l ih =>
   have : its (a :: l) = [numIt a.1] ++ [numIt a.2] ++ its l := rfl;rw [this, wts_append, wts_append, wts_one, wts_one, ih];simp [numIt, wt, wts];omega
def w64 (n : Nat) : Int := IntKind.i64.wrap (n : Int)
theorem w64_small {n : Nat} (h : n ≤ 9223372036854775807) : w64 n = n := by
 unfold w64;simp [IntKind.wrap, IntKind.bits, IntKind.signed];omega
def pairs : List It → List (Int × Int)
 | a :: b :: l => (w64 a.num, w64 b.num) :: pairs l
 | _ => []
theorem length_pairs : ∀ l : List It, (pairs l).length = l.length / 2
 | [] => rfl
 | [_] => by simp [pairs]
 | a :: b :: l => by
   have := length_pairs l;simp [pairs];omega
theorem pairs_snoc : ∀ (l : List It) (k : Nat) (a b : It), l[2 * k]? = some a → l[2 * k + 1]? = some b → pairs (l.take (2 * (k + 1))) = pairs (l.take (2 * k)) ++ [(w64 a.num, w64 b.num)]
 | [], k, a, b, h, _ => by simp at h
 | [x], k, a, b, h, h2 => by
   have := (List.getElem?_eq_some_iff.1 h2).1;simp at this
 | x :: y :: l, 0, a, b, h, h2 => by
   simp at h h2;subst h; subst h2;rfl
 | x :: y :: l, k + 1, a, b, h, h2 => by
   have ih := pairs_snoc l k a b (by rw [show 2 * (k + 1) = 2 * k + 1 + 1 by omega] at h; simpa using h) (by rw [show 2 * (k + 1) + 1 = 2 * k + 1 + 1 + 1 by omega] at h2; simpa using h2);rw [show 2 * (k + 1 + 1) = 2 * (k + 1) + 1 + 1 by omega, show 2 * (k + 1) = 2 * k + 1 + 1 by omega] at *;simp only [List.take_succ_cons, pairs];rw [show 2 * k + 2 = 2 * k + 1 + 1 from rfl, ih];rfl
theorem pairs_its : ∀ l : List (Int × Int), (∀ x ∈ l, right x = true) → pairs (its l) = l
 | [], _ => rfl
 | x :: l, h => by
   have hx := of_decide_eq_true (h x (by simp));have ih := pairs_its l fun y hy => h y (List.mem_cons_of_mem _ hy);have e : its (x :: l) = numIt x.1 :: numIt x.2 :: its l := rfl;rw [e, pairs, ih]
   congr 1
   have e1 : (numIt x.1).num = x.1.toNat := rfl;have e2 : (numIt x.2).num = x.2.toNat := rfl;rw [e1, e2, w64_small (by omega), w64_small (by omega)];exact Prod.ext (by simp; omega) (by simp; omega)
open Classical in
noncomputable def takeOf (x : It) : Option (List (Int × Int)) := if x.kids.length ≤ 8192 ∧ itemOf (pairs x.kids) = x then some (pairs x.kids) else none
theorem chk_right {l : List (Int × Int)} (h : Ids.chk l = true) : ∀ x ∈ l, right x = true := (of_decide_eq_true h).2.1
theorem take_set {l : List (Int × Int)} (h : Ids.chk l = true) : takeOf (setIt l) = some l := by
 have hp := pairs_its l (chk_right h);have hl := (of_decide_eq_true h).1;unfold takeOf;have e : (setIt l).kids = its l := rfl;rw [e, hp, length_its, if_pos ⟨by omega, by rw [itemOf, if_pos h]⟩]
end Go.Proofs.YtkejjdoaljoooaaGreatDoor.Ids
/- ids.Item and the document's: the item of a right set, in memory of the call's own. -/
namespace Go.Proofs.YtkejjdoaljoooaaGreatDoor
open Lib (hid)
open Go.RowKit Mem Ids Cod Go.Sort
def hung (l : List (Int × Int)) : List Hung := (its l).map fun x => ⟨x, none, 0⟩
theorem hung_its (l : List (Int × Int)) : (hung l).map (·.x) = its l := by simp [hung, Function.comp_def]
theorem hung_append (a b : List (Int × Int)) : hung (a ++ b) = hung a ++ hung b := by simp [hung, its_append]
theorem length_hung (l : List (Int × Int)) : (hung l).length = l.length * 2 := by rw [hung, List.length_map, length_its]
theorem cells4_append (a b : List Hung) : cells4 (a ++ b) = cells4 a ++ cells4 b := by simp [cells4]
theorem hung_lies {l : List (Int × Int)} (hr : ∀ x ∈ l, right x = true) (w : World) (S : Nat → Prop) : ∀ h ∈ hung l, Lies w S h.x h.A h.c := by
 intro h hh;obtain ⟨x, hx, rfl⟩ := List.mem_map.1 hh;obtain ⟨y, hy, hxy⟩ := List.mem_flatMap.1 hx;have hr := of_decide_eq_true (hr y hy);simp at hxy;rcases hxy with rfl | rfl
 · exact lies_leaf w S (by omega) (by omega) (by decide)
 · exact lies_leaf w S (by omega) (by omega) (by decide)
theorem row_own {w : World} {base n c : Nat} {V : Option Addr} {l : List (Int × Int)} (hr : ∀ x ∈ l, right x = true) (h : w.ownsRow base 95 4 (.slice V n c) n (cells4 (hung l))) : Row w (fun b => base ≤ b ∧ b < w.heap.size) V n c (its l) := by
 have hl := h.1;rw [length_cells4, length_hung] at hl;have hn : (hung l).length = n := by rw [length_hung]; omega
 rw [← hung_its];rcases h.2 with ⟨hv, h0⟩ | ⟨g, cap, cur, hv, hb, hh, hnc, hm, _, _⟩
 · injection hv with e1 e2 e3
   subst e1; subst e3;exact Row.of_hung hn ⟨by omega, by omega, fun _ => rfl⟩ (hung_lies hr _ _) fun h => by omega
 · injection hv with e1 e2 e3
   subst e1; subst e3;unfold maxLen at hm;have hlt := (Array.getElem?_eq_some_iff.1 hh).1;exact Row.of_hung hn ⟨hnc, by omega, (fun e => by cases e)⟩ (hung_lies hr _ _) fun _ => ⟨_, rfl, ⟨hb, hlt⟩, hlt, h.cells (g := g) rfl⟩
def ItRel (l : List (Int × Int)) (B : Nat) (w : World) (v3 vk : Value) (wr : World) : Prop :=
 ∃ (k : Nat) (V : Option Addr) (m c : Nat), v3 = .slice V m c ∧ vk = .int .i64 k ∧ k ≤ l.length ∧ m = k * 2 ∧ wr.ownsRow B 95 4 (.slice V m c) m (cells4 (hung (l.take k))) ∧ Below B w wr
theorem hung_snoc {l : List (Int × Int)} {k : Nat} {x : Int × Int} (hx : l[k]? = some x) : cells4 (hung (l.take (k + 1))) = cells4 (hung (l.take k)) ++ [.int .i64 0, .int .u64 (x.1.toNat : Int), .string ByteArray.empty, .slice none 0 0, .int .i64 0, .int .u64 (x.2.toNat : Int), .string ByteArray.empty, .slice none 0 0] := by
 rw [List.take_add_one, hx, hung_append, cells4_append];rfl
set_option maxRecDepth 100000 in
set_option maxHeartbeats 4000000 in
theorem item_new (l : List (Int × Int)) (A : Option Addr) (n c : Nat) (w : World) (ha : Rs w A n c l) :
 Calls Tryz.prog 95 #[.slice A n c] w (GivesNew w (itemOf l)) := by
 obtain ⟨i0, hi, hz0, hz1, hz2⟩ := info_parts info25;have hla := ha.len;have hca := And.intro ha.le ha.cap;unfold maxLen at hca;have HBX := hid (Blk.new w 95 #[.int .i64 0, .int .u64 0, .string ⟨#[]⟩, .slice none 0 0]);have HB0 := hid (bel_alloc (Below.refl w.heap.size w) (.cells #[.int .i64 0, .int .u64 0, .string ⟨#[]⟩, .slice none 0 0] 95));have hs0 := size_alloc w (.cells #[.int .i64 0, .int .u64 0, .string ⟨#[]⟩, .slice none 0 0] 95);have HA0 := hid (ha.alloc (.cells #[.int .i64 0, .int .u64 0, .string ⟨#[]⟩, .slice none 0 0] 95));have hck := check_any l A n c _ HA0.out;clear ha;go_enter Tryz.func95, Tryz.ntmps95
 go_wp2_with fail
 generalize w.alloc (.cells #[.int .i64 0, .int .u64 0, .string ⟨#[]⟩, .slice none 0 0] 95) = w1 at HBX HB0 hs0 HA0 hck ⊢;cases hc : Ids.chk l with
 | false =>
   rw [hc] at hck;have hit : itemOf l = zeroIt := (by rw [itemOf, if_neg (by simp [hc])]);have HCK := hid hck;have HIT := hid hit;clear hck hc hit;refine HCK.out.mono ?_;rintro e w2 ⟨rfl, hb2⟩;have hblk := HBX.out.bel hb2;have HB2 := hid (bel_trans HB0.out hb2);obtain ⟨c0, c1, c2, c3⟩ := blk4 hblk;have z0 := hblk.soft 0;have z1 := hblk.soft 1;have z2 := hblk.soft 2;have z3 := hblk.soft 3;clear hb2;go_wp2_with fail
   obtain ⟨hblk2, hgr⟩ := blk4_set hblk (.int .i64 0) (.int .u64 0) (.string ⟨#[]⟩) (.slice none 0 0);generalize (((w2.setCell ⟨w.heap.size, 0, none⟩ (.int .i64 0)).setCell ⟨w.heap.size, 1, none⟩ (.int .u64 0)).setCell ⟨w.heap.size, 2, none⟩ (.string ⟨#[]⟩)).setCell ⟨w.heap.size, 3, none⟩ (.slice none 0 0) = w9 at hblk2 hgr ⊢;obtain ⟨d0, d1, d2, d3⟩ := blk4 hblk2;refine bodyPost_ret (v := .agg #[.int .i64 0, .int .u64 0, .string ByteArray.empty, .slice none 0 0]) (by simp [results, Tryz.results95, go_sem, d0, d1, d2, d3]; rfl) rfl ?_;rw [HIT.out];exact ⟨none, 0, rfl, lies_leaf _ _ (by omega) (by omega) (by decide), HB2.out.trans (gr_below hgr (by have := HB2.out.size; omega) fun b hb => by cases hb; omega)⟩
 | true =>
   rw [hc] at hck;have hit : itemOf l = setIt l := (by rw [itemOf, if_pos hc]);have hln : l.length ≤ 4096 := (of_decide_eq_true hc).1;have HR := hid (chk_right hc);have HCK := hid hck;have HIT := hid hit;clear hck hc hit;refine HCK.out.mono ?_;rintro e w2 ⟨rfl, hb2⟩;have hs2 := hb2.size;obtain ⟨S, hS⟩ : ∃ S : Nat, 2 * n = S := ⟨_, rfl⟩
   have hw1 : IntKind.i64.wrap (2 * (n : Int)) = (S : Int) := (by rw [wrap64 (by omega) (by omega)]; omega);obtain ⟨w3, hmk, hown3, hgr3⟩ := run_make_own (P := Tryz.prog) w2 w1.heap.size 93 95 i0 _ 4 Tryz.underlying93 hi hz0 hz1 .i64 .i64 S (by rw [hz2]; omega) (by unfold maxLen; omega) (by omega);have hb3 := hb2.trans ((Below.refl w1.heap.size w2).grown hgr3 (by omega) (fun k hk => by cases hk));have HO3 := hid hown3;have HB3 := hid hb3;clear hb2 hown3 hgr3 hb3;go_wp2_with fail
   clear hmk hw1;go_loopw [3, 16] (ItRel l w1.heap.size w1) (fun _ v _ => n - (intOf v).toNat)
   case atStart => exact ⟨0, _, 0, S, rfl, rfl, Nat.zero_le _, rfl, HO3.out, HB3.out⟩
   case round =>
    obtain ⟨k, V, m, cv, rfl, rfl, hk, hm, hown, hbw⟩ := hrel;have hsr := hbw.size;have HM := hid hm;have hmb : m ≤ 8192 := (by omega);clear hm;by_cases hlt : k < n
    · obtain ⟨g, o, x, rfl, hg, hx, c0, c1⟩ := (HA0.out.below hbw).at_ hlt
      have hrx := of_decide_eq_true (HR.out x (List.mem_of_getElem? hx));have HX := hid (hung_snoc hx);have HO := hid hown;have HBW := hid hbw;obtain ⟨x1, x2⟩ := x;simp only at c0 c1 hrx;have hu1 : IntKind.u64.wrap x1 = x1 := u64_in (by omega) (by omega);have hu2 : IntKind.u64.wrap x2 = x2 := u64_in (by omega) (by omega);clear hx hown hbw;go_wp2_with fail
      have hblk := Blk.new wr 34 #[.int .i64 x1, .int .i64 x2];have hbx := bel_alloc (Below.refl wr.heap.size wr) (.cells #[.int .i64 x1, .int .i64 x2] 34);have hsx := size_alloc wr (.cells #[.int .i64 x1, .int .i64 x2] 34);generalize wr.alloc (.cells #[.int .i64 x1, .int .i64 x2] 34) = W at hblk hbx hsx ⊢;have hlt0 := hblk.lt;have d0 : W.cell? ⟨wr.heap.size, 0, none⟩ = some (.int .i64 x1) := hblk.cell 0;have d1 : W.cell? ⟨wr.heap.size, 1, none⟩ = some (.int .i64 x2) := hblk.cell 1;have HK := hid hblk;have HBX' := hid hbx;have HC1 := hid (num_any x1);have HC2 := hid (num_any x2);have HCUR := hid (Below.drew (Below.refl W.heap.size W));have HNE := hid (show some wr.heap.size ≠ (Value.slice V m cv).ownBlock from fun e => by have := (HO.out.lt wr.heap.size e.symm).2; omega);clear hblk hbx c0 c1
      go_region_held3 (fun w' => w'.cell? ⟨wr.heap.size, 0, none⟩ = some (.int .i64 x1) ∧ w'.cell? ⟨wr.heap.size, 1, none⟩ = some (.int .i64 x2)) (first | exact HS3.out | exact ⟨(World.cell?_alloc_lt _ _ _ (Nat.lt_of_lt_of_le hlt0 HCUR.out.size)).trans ((HCUR.out.cell (p := ⟨wr.heap.size, 0, none⟩) hlt0).trans d0), (World.cell?_alloc_lt _ _ _ (Nat.lt_of_lt_of_le hlt0 HCUR.out.size)).trans ((HCUR.out.cell (p := ⟨wr.heap.size, 1, none⟩) hlt0).trans d1)⟩ | exact ⟨(HCUR.out.cell (p := ⟨wr.heap.size, 0, none⟩) hlt0).trans d0, (HCUR.out.cell (p := ⟨wr.heap.size, 1, none⟩) hlt0).trans d1⟩)
       (first
        | (go_at_call 67
           refine (HC1.out _).mono ?_;rintro e v1 ⟨rfl, hb1⟩;have hnow := HCUR.out.trans (hb1.mono HCUR.out.size);replace HCUR := hid hnow;clear HC1 hb1 hnow)
        | (go_at_call 67
           refine (HC2.out _).mono ?_;rintro e v2 ⟨rfl, hb1⟩;have hnow := HCUR.out.trans (hb1.mono HCUR.out.size);replace HCUR := hid hnow;have hown2 := ownsRow_below (ownsRow_below HO.out HBX'.out) HCUR.out;have hnews := World.news_of_block (Blk.new v2 95 #[.int .i64 0, .int .u64 x1, .string ByteArray.empty, .slice none 0 0, .int .i64 0, .int .u64 x2, .string ByteArray.empty, .slice none 0 0]);have HO2 := hid hown2;have HNW := hid hnews;have hsv := HCUR.out.size;clear HC2 hb1 hnow hown2 hnews)
        | (refine step_append_lies _ rfl (.tmp 20) (.tmp 29) 93 rfl w1.heap.size 95 i0 _ 4 56 Tryz.underlying93 hi hz0 hz1 hz2 rfl (by omega) (.slice V m cv) m _ (by simp [Act.eval]) (HO2.out.alloc _) ⟨v2.heap.size, 0, none⟩ 2 2 [.int .i64 0, .int .u64 x1, .string ByteArray.empty, .slice none 0 0, .int .i64 0, .int .u64 x2, .string ByteArray.empty, .slice none 0 0] (by simp [Act.eval]) rfl HNW.out (by intro u hu; simp at hu; rcases hu with rfl | rfl | rfl | rfl | rfl | rfl | rfl | rfl <;> rfl) (by omega) (by unfold maxLen; omega) (by omega) (by rw [size_alloc]; omega) (v2.heap.size + 1) (size_alloc _ _) ?_
           intro g3 cap3 w3 hown3 hgrow3 _ _;have hk3 := ((HK.out.bel HCUR.out).alloc _).grown hgrow3 HNE.out;have s0 : w3.cell? ⟨wr.heap.size, 0, none⟩ = some (.int .i64 x1) := hk3.cell 0;have s1 : w3.cell? ⟨wr.heap.size, 1, none⟩ = some (.int .i64 x2) := hk3.cell 1;have HS3 := hid (And.intro s0 s1);have HO3 := hid hown3;have HG3 := hid hgrow3;clear hk3 s0 s1 hown3 hgrow3))
      have HB4 := hid (((HBW.out.trans ((HBX'.out.trans (HCUR.out.mono (by omega))).mono hsr)).alloc (by omega) _).trans (gr_below HG3.out (by rw [size_alloc]; omega) fun b hb => (HO.out.lt b hb).1));go_wp2_with fail
      go_roundw
      case rel =>
       refine ⟨k + 1, _, m + 2, cap3, rfl, by simp, by omega, by have := HM.out; omega, ?_, HB4.out⟩;have e := HX.out;rw [show ((x1, x2).1.toNat : Int) = x1 from Int.toNat_of_nonneg hrx.1, show ((x1, x2).2.toNat : Int) = x2 from Int.toNat_of_nonneg (by omega)] at e;rw [e];exact HO3.out
      case measure =>
       simp [intOf];omega
    · have hkl : k = l.length := by omega
      subst hkl;rw [List.take_length] at hown;have hrow := row_own HR.out hown;have hbk := HBX.out.below hbw (by omega);have HL := hid (list_more V m cv _ (its l) wr hrow (fun b hb => hb.2) (by rw [wts_its]; omega));have HBW := hid hbw;have HBK := hid hbk;clear hown hrow hbw hbk;go_wp2_with fail
      refine HL.out.mono ?_;rintro e w5 ⟨V5, c5, rfl, hr5, hb5⟩;have hblk := HBK.out.bel hb5;obtain ⟨c0, c1, c2, c3⟩ := blk4 hblk;have z0 := hblk.soft 0;have z1 := hblk.soft 1;have z2 := hblk.soft 2;have z3 := hblk.soft 3;have HR5 := hid hr5;have HB5 := hid hb5;have hs5 := hb5.size;clear hr5 hb5;go_wp2_with fail
      obtain ⟨hblk2, hgr⟩ := blk4_set hblk (.int .i64 2) (.int .u64 0) (.string ByteArray.empty) (.slice V5 m c5);generalize (((w5.setCell ⟨w.heap.size, 0, none⟩ (.int .i64 2)).setCell ⟨w.heap.size, 1, none⟩ (.int .u64 0)).setCell ⟨w.heap.size, 2, none⟩ (.string ByteArray.empty)).setCell ⟨w.heap.size, 3, none⟩ (.slice V5 m c5) = w9 at hblk2 hgr ⊢;obtain ⟨d0, d1, d2, d3⟩ := blk4 hblk2;refine bodyPost_ret (v := .agg #[.int .i64 2, .int .u64 0, .string ByteArray.empty, .slice V5 m c5]) (by simp [results, Tryz.results95, go_sem, d0, d1, d2, d3]) rfl ?_;rw [HIT.out];have hlen : (its l).length = m := (by rw [length_its]; have := HM.out; omega);have hs9 := hgr.size;have hrow9 : Row w9 (fun b => w.heap.size ≤ b ∧ b < w9.heap.size) V5 m c5 (its l) := (HR5.out.grown hgr (fun b hb e => by injection e with e; rcases hb.2 with ⟨h, _⟩ | h <;> omega)).more fun b hb _ => ⟨by rcases hb.2 with ⟨h, _⟩ | h <;> omega, by omega⟩
      refine ⟨V5, c5, ?_, hrow9.lies (by omega) (by omega) (by decide), ?_⟩
      · show _ = Ending.returned (.agg #[.int .i64 2, .int .u64 ((0 : Nat) : Int), .string ByteArray.empty, .slice V5 (its l).length c5])
        rw [hlen];rfl
      · exact ((HB0.out.trans (HBW.out.mono (by omega))).trans (HB5.out.mono (by omega))).trans (gr_below hgr (by omega) fun b hb => by injection hb with hb; omega)
theorem item_any (l : List (Int × Int)) (A : Option Addr) (n c : Nat) (w : World) (ha : Rs w A n c l) :
 Calls Tryz.prog 95 #[.slice A n c] w (GivesIt w (itemOf l)) := (item_new l A n c w ha).mono fun _ _ h => h.it
end Go.Proofs.YtkejjdoaljoooaaGreatDoor
/- The document's Item of a right set. -/
namespace Go.Proofs.YtkejjdoaljoooaaGreatDoor
open Lib (hid)
open Go.RowKit Mem Ids Cod Go.Sort
end Go.Proofs.YtkejjdoaljoooaaGreatDoor
/- ids.Take of any item: the set whose item that is, or none. -/
namespace Go.Proofs.YtkejjdoaljoooaaGreatDoor
open Lib (hid)
open Go.RowKit Mem Ids Cod Go.Sort
theorem pairs_take : ∀ l : List It, pairs (l.take (2 * (l.length / 2))) = pairs l
 | [] => rfl
 | [a] => by simp [pairs]
 | a :: b :: l => by
   have ih := pairs_take l;rw [show 2 * ((a :: b :: l).length / 2) = 2 * (l.length / 2) + 1 + 1 by simp; omega];simp only [List.take_succ_cons, pairs];rw [ih]
def TakesNew (w : World) (r : Option (List (Int × Int))) (e : Ending) (w' : World) : Prop :=
 ∃ V n c l b, e = .returned (.tuple #[.slice V n c, .bool b]) ∧ Rs w' V n c l ∧ l = r.getD [] ∧ b = r.isSome ∧ Below w.heap.size w w' ∧ ∀ g o, V = some ⟨g, o, none⟩ → w.heap.size ≤ g
theorem own_new {w : World} {base : Nat} {e : TypeId} {size n c : Nat} {V : Option Addr} {xs : List Value} (h : w.ownsRow base e size (.slice V n c) n xs) : ∀ g o, V = some ⟨g, o, none⟩ → base ≤ g := by
 intro g o e;subst e;rcases h.2 with ⟨hv, _⟩ | ⟨g', cap, cur, hv, hg, _⟩
 · cases hv
 · injection hv with e1
   injection e1 with e1;injection e1 with e1;omega
def TkRel (ks : List It) (h B : Nat) (w : World) (v4 vk : Value) (wr : World) : Prop :=
 ∃ (k : Nat) (V : Option Addr) (c : Nat), v4 = .slice V k c ∧ vk = .int .i64 k ∧ k ≤ h ∧ wr.ownsRow B 34 2 (.slice V k c) k (cells (pairs (ks.take (2 * k)))) ∧ Below B w wr
set_option maxRecDepth 100000 in
set_option maxHeartbeats 4000000 in
theorem take_new (x : It) (A : Option Addr) (c : Nat) (S : Nat → Prop) (w : World) (hl : Lies w S x A c) (hS : ∀ b, S b → b < w.heap.size) :
 Calls Tryz.prog 146 #[.agg #[.int .i64 x.kind, .int .u64 (x.num : Int), .string x.str, .slice A x.kids.length c]] w (TakesNew w (takeOf x)) := by
 obtain ⟨i0, hi, hz0, hz1, hz2⟩ := info_parts infoId;obtain ⟨b1, b2, b3, b4, b5, b6⟩ := hl.bounds;have HBX := hid (Blk.new w 95 #[.int .i64 x.kind, .int .u64 (x.num : Int), .string x.str, .slice A x.kids.length c]);have HB0 := hid (bel_alloc (Below.refl w.heap.size w) (.cells #[.int .i64 x.kind, .int .u64 (x.num : Int), .string x.str, .slice A x.kids.length c] 95));have hs0 := size_alloc w (.cells #[.int .i64 x.kind, .int .u64 (x.num : Int), .string x.str, .slice A x.kids.length c] 95);have HL := hid (hl.alloc (.cells #[.int .i64 x.kind, .int .u64 (x.num : Int), .string x.str, .slice A x.kids.length c] 95));have HSS := hid hS;obtain ⟨n, hn⟩ : ∃ n, x.kids.length = n := ⟨_, rfl⟩
 rw [hn] at HBX HB0 hs0 HL b5 ⊢;have HN := hid hn;clear hl hS hn;go_enter Tryz.func146, Tryz.ntmps146
 by_cases h8 : 8192 < n
 · have hnone : takeOf x = none := by
    unfold takeOf;rw [if_neg];rintro ⟨h, _⟩;have := HN.out;omega
   have HNO := hid hnone;clear hnone;go_wp2_with fail
   go_ret2
   rw [HNO.out];exact ⟨none, 0, 0, [], false, rfl, Rs.nil_ _, rfl, rfl, HB0.out, fun _ _ h => by cases h⟩
 · obtain ⟨h, hh⟩ : ∃ h : Nat, n / 2 = h := ⟨_, rfl⟩
   have hq : (n : Int) / 2 = (h : Int) := (by omega);obtain ⟨w2, hmk, hown2, hgr2⟩ := run_make_own (P := Tryz.prog) (w.alloc (.cells #[.int .i64 x.kind, .int .u64 (x.num : Int), .string x.str, .slice A n c] 95)) (w.heap.size + 1) 39 34 i0 _ 2 Tryz.underlying39 hi hz0 hz1 .i64 .i64 h (by rw [hz2]; omega) (by unfold maxLen; omega) (by omega);rw [hs0] at hmk hown2;have HO2 := hid hown2;have hb2 : Below (w.heap.size + 1) (w.alloc (.cells #[.int .i64 x.kind, .int .u64 (x.num : Int), .string x.str, .slice A n c] 95)) w2 := (Below.refl _ _).grown hgr2 (by omega) (fun k hk => by cases hk);have HB2 := hid hb2;have hk2 := HBX.out.below hb2 (by omega);obtain ⟨q0, q1, q2, q3⟩ := blk4 hk2;clear hown2 hgr2 hb2;go_wp2_with fail
   clear hmk q0 q1 q2 q3 hk2;generalize w.alloc (.cells #[.int .i64 x.kind, .int .u64 (x.num : Int), .string x.str, .slice A n c] 95) = w1 at HBX HB0 hs0 HL HB2;go_loopw [4, 19] (TkRel x.kids h (w.heap.size + 1) w1) (fun _ v _ => h - (intOf v).toNat)
   case atStart => exact ⟨0, _, h, rfl, rfl, Nat.zero_le _, HO2.out, HB2.out⟩
   case round =>
    obtain ⟨k, V, cv, rfl, rfl, hk, hown, hbw⟩ := hrel;have hsr := hbw.size;by_cases hlt : k < h
    · have hn0 := HN.out
      obtain ⟨g, o, A1, c1, rfl, hSg, hg, -, d1, -, -, -⟩ := lies_kid HL.out (i := 2 * k) (by omega);obtain ⟨g', o', A2, c2, e2, -, -, -, d2, -, -, -⟩ := lies_kid HL.out (i := 2 * k + 1) (by omega);injection e2 with e2;injection e2 with e3 e4;subst e3; subst e4;have hsn := pairs_snoc x.kids k _ _ (List.getElem?_eq_getElem (by omega)) (List.getElem?_eq_getElem (by omega));have hgS := HSS.out g hSg;generalize x.kids[2 * k].num = r1 at d1 hsn;generalize x.kids[2 * k + 1].num = r2 at d2 hsn;obtain ⟨R1, hR1⟩ : ∃ R1 : Int, w64 r1 = R1 := ⟨_, rfl⟩
      obtain ⟨R2, hR2⟩ : ∃ R2 : Int, w64 r2 = R2 := ⟨_, rfl⟩
      rw [hR1, hR2] at hsn;unfold w64 at hR1 hR2;obtain ⟨K2, hK2⟩ : ∃ K : Nat, 2 * k = K := ⟨_, rfl⟩
      have hw1 : IntKind.i64.wrap (2 * (k : Int)) = (K2 : Int) := (by rw [wrap64 (by omega) (by omega)]; omega);obtain ⟨K3, hK3⟩ : ∃ K : Nat, K2 + 1 = K := ⟨_, rfl⟩
      have hw2 : IntKind.i64.wrap ((K2 : Int) + 1) = (K3 : Int) := (by rw [wrap64 (by omega) (by omega)]; omega);rw [hK2] at d1;rw [hK2, hK3] at d2;have q1 := (hbw.cell (p := ⟨g, o + K2 * 4 + 1, none⟩) (show g < w.heap.size + 1 by omega)).trans d1;have q2 := (hbw.cell (p := ⟨g, o + K3 * 4 + 1, none⟩) (show g < w.heap.size + 1 by omega)).trans d2;obtain ⟨-, -, -, q3⟩ := blk4 (HBX.out.below hbw (by omega));have hi2 : K2 < n := (by omega);have hi3 : K3 < n := (by omega);have hgr : g < wr.heap.size := (by omega);have hwr : w.heap.size < wr.heap.size := (by omega);have HSN := hid hsn;have HO := hid hown;have HBW := hid hbw;have hnews := World.news_of_block ((Blk.new wr 34 #[.int .i64 R1, .int .i64 R2]).bel (Below.drew (Below.refl _ _)));have HNW := hid hnews;have hsX : (wr.alloc (.cells #[.int .i64 R1, .int .i64 R2] 34)).drew.heap.size = wr.heap.size + 1 := size_alloc _ _;have HSX := hid hsX;have HOX := hid (ownsRow_below (HO.out.alloc (.cells #[.int .i64 R1, .int .i64 R2] 34)) (Below.drew (Below.refl _ _)));have hX := Below.drew ((Below.refl wr.heap.size wr).alloc (Nat.le_refl _) (.cells #[.int .i64 R1, .int .i64 R2] 34));have p1 := (hX.cell (p := ⟨g, o + K2 * 4 + 1, none⟩) hgr).trans q1;have p2 := (hX.cell (p := ⟨g, o + K3 * 4 + 1, none⟩) hgr).trans q2;have p3 := (hX.cell (p := ⟨w.heap.size, 3, none⟩) hwr).trans q3;have HP := hid (And.intro p3 (And.intro p1 p2));have HX := hid hX;have HNE := hid (show some g ≠ (Value.slice V k cv).ownBlock from fun e => by have := (HO.out.lt g e.symm).1; omega);have HNE2 := hid (show some w.heap.size ≠ (Value.slice V k cv).ownBlock from fun e => by have := (HO.out.lt w.heap.size e.symm).1; omega);clear hsn hown hbw hnews hsX hX p1 p2 p3 hn0 hK2 hK3 d1 d2 hSg;go_wp2_with fail
      go_region_held3 (fun w' => w'.cell? ⟨w.heap.size, 3, none⟩ = some (.slice (some ⟨g, o, none⟩) n c) ∧ w'.cell? ⟨g, o + K2 * 4 + 1, none⟩ = some (.int .u64 (r1 : Int)) ∧ w'.cell? ⟨g, o + K3 * 4 + 1, none⟩ = some (.int .u64 (r2 : Int))) (first | exact HS3.out | exact HP.out | exact ⟨q3, q1, q2⟩)
       (first
        | (refine step_append_lies _ rfl (.tmp 22) (.tmp 41) 39 rfl (w.heap.size + 1) 34 i0 _ 2 16 Tryz.underlying39 hi hz0 hz1 hz2 rfl (by omega) (.slice V k cv) k _ (by simp [Act.eval]) HOX.out ⟨wr.heap.size, 0, none⟩ 1 1 [.int .i64 R1, .int .i64 R2] (by simp [Act.eval]) rfl HNW.out (by intro u hu; simp at hu; rcases hu with rfl | rfl <;> rfl) (by omega) (by unfold maxLen; omega) (by omega) (by have := HSX.out; omega) (wr.heap.size + 1) HSX.out ?_
           intro g3 cap3 w3 hown3 hgrow3 _ _;have s3 : w3.cell? ⟨w.heap.size, 3, none⟩ = _ := (show w3.cell? ⟨w.heap.size, 3, none⟩ = (wr.alloc (.cells #[.int .i64 R1, .int .i64 R2] 34)).drew.cell? ⟨w.heap.size, 3, none⟩ from World.cell?_of_block (hgrow3.block w.heap.size (by have := HSX.out; omega) HNE2.out)).trans HP.out.1;have s1 : w3.cell? ⟨g, o + K2 * 4 + 1, none⟩ = _ := (show w3.cell? ⟨g, o + K2 * 4 + 1, none⟩ = (wr.alloc (.cells #[.int .i64 R1, .int .i64 R2] 34)).drew.cell? ⟨g, o + K2 * 4 + 1, none⟩ from World.cell?_of_block (hgrow3.block g (by have := HSX.out; omega) HNE.out)).trans HP.out.2.1;have s2 : w3.cell? ⟨g, o + K3 * 4 + 1, none⟩ = _ := (show w3.cell? ⟨g, o + K3 * 4 + 1, none⟩ = (wr.alloc (.cells #[.int .i64 R1, .int .i64 R2] 34)).drew.cell? ⟨g, o + K3 * 4 + 1, none⟩ from World.cell?_of_block (hgrow3.block g (by have := HSX.out; omega) HNE.out)).trans HP.out.2.2;have HS3 := hid (And.intro s3 (And.intro s1 s2));have HO3 := hid hown3;have HG3 := hid hgrow3;clear s1 s2 s3 hown3 hgrow3))
      have HB4 := hid ((HBW.out.trans (HX.out.mono (by omega))).trans (gr_below HG3.out (by have := HSX.out; omega) fun b hb => (HO.out.lt b hb).1));go_wp2_with fail
      go_roundw
      case rel =>
       refine ⟨k + 1, _, cap3, rfl, by simp, by omega, ?_, HB4.out⟩;rw [HSN.out];simpa [cells, enc] using HO3.out
      case measure =>
       simp [intOf];omega
    · have hkh : k = h := by omega
      subst hkh
      have hp : pairs (x.kids.take (2 * k)) = pairs x.kids := by
       rw [← hh, ← HN.out];exact pairs_take x.kids
      rw [hp] at hown;have hrs := Rs.own hown;have HNW := hid (own_new hown);have hblk := HBX.out.below hbw (by omega);obtain ⟨q0, q1, q2, q3⟩ := blk4 hblk;have HLW := hid (HL.out.below hbw fun b hb => Nat.lt_succ_of_lt (HSS.out b hb));have HBK := hid hblk;have HRS := hid hrs;have HBW := hid hbw;have hit := item_any (pairs x.kids) V k cv _ hrs.drew;have hwr : w.heap.size < wr.heap.size := by omega
      have hwt : wt (itemOf (pairs x.kids)) ≤ 100000 := by
       unfold itemOf;split
       · have hl2 := length_pairs x.kids
         have := HN.out;show 1 + ByteArray.empty.size + wts (its (pairs x.kids)) ≤ _;rw [wts_its, hl2];simp;omega
       · decide
      have htk : takeOf x = if same (itemOf (pairs x.kids)) x = true then some (pairs x.kids) else none := by
       unfold takeOf;have := HN.out;by_cases e : itemOf (pairs x.kids) = x
       · rw [if_pos ⟨by omega, e⟩, if_pos ((same_iff _ _).2 e)]
       · rw [if_neg fun h => e h.2, if_neg fun h => e ((same_iff _ _).1 h)]
      obtain ⟨y, hy⟩ : ∃ y, itemOf (pairs x.kids) = y := ⟨_, rfl⟩
      rw [hy] at hit hwt htk;have hsm := fun (W : World) (V1 : Option Addr) (c1 : Nat) (h1 : Lies W (fun b => b < W.heap.size) y V1 c1) (h2 : Lies W (fun b => b < W.heap.size) x A c) => same_item y x V1 A c1 c _ W h1 h2 (fun b hb => hb) hwt;rw [HN.out] at hsm;have HIT := hid hit;have HSM := hid hsm;have HCUR := hid (Below.drew (Below.refl wr.heap.size wr));have HTK := hid htk;clear hp hown hrs hblk hbw hh hq hit hsm htk hy hwt;obtain ⟨r, hr⟩ : ∃ r, same y x = r := ⟨_, rfl⟩
      rw [hr] at HSM HTK;clear hr;go_wp2_with fail
      go_region_held3 (fun w' => w'.cell? ⟨w.heap.size, 0, none⟩ = some (.int .i64 x.kind) ∧ w'.cell? ⟨w.heap.size, 1, none⟩ = some (.int .u64 (x.num : Int)) ∧ w'.cell? ⟨w.heap.size, 2, none⟩ = some (.string x.str) ∧ w'.cell? ⟨w.heap.size, 3, none⟩ = some (.slice A n c)) (exact ⟨(HCUR.out.cell (p := ⟨w.heap.size, 0, none⟩) hwr).trans q0, (HCUR.out.cell (p := ⟨w.heap.size, 1, none⟩) hwr).trans q1, (HCUR.out.cell (p := ⟨w.heap.size, 2, none⟩) hwr).trans q2, (HCUR.out.cell (p := ⟨w.heap.size, 3, none⟩) hwr).trans q3⟩)
       (first
        | (go_at_call 95
           refine HIT.out.mono ?_;rintro e v1 ⟨V1, c1, rfl, hl1, hb1⟩;have hnow := HCUR.out.trans (hb1.mono HCUR.out.size);have hlx := (HLW.out.below hnow fun b hb => Nat.lt_trans (HSS.out b hb) hwr).more (S' := fun b => b < v1.heap.size) fun b hb _ => (by have := HSS.out b hb; have := hnow.size; omega);replace HCUR := hid hnow;have hsm := HSM.out _ _ _ hl1 hlx;replace HSM := hid hsm;clear HIT hb1 hnow hl1 hlx hsm)
        | (go_at_call 108
           refine HSM.out.mono ?_;rintro e v2 ⟨rfl, hb1⟩;have hnow := HCUR.out.trans (hb1.mono HCUR.out.size);replace HCUR := hid hnow;clear HSM hb1 hnow))
      have HBE := hid ((HB0.out.trans (HBW.out.mono (by omega))).trans (HCUR.out.mono (by omega)));have HRE := hid (HRS.out.below HCUR.out);cases r with
      | true =>
        go_wp2_with fail
        go_ret2
        rw [HTK.out];exact ⟨_, _, _, _, true, rfl, HRE.out, rfl, rfl, HBE.out, fun g o h => by have := HNW.out g o h; omega⟩
      | false =>
        go_wp2_with fail
        go_ret2
        rw [HTK.out];exact ⟨none, 0, 0, [], false, rfl, Rs.nil_ _, rfl, rfl, HBE.out, fun _ _ h => by cases h⟩
end Go.Proofs.YtkejjdoaljoooaaGreatDoor
