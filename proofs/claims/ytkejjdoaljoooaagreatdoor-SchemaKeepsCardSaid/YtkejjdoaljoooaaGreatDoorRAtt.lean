/-
  Texts of earlier layers, as one.
-/
import Derived.Deep.Cut
import Derived.BigRegion
import Derived.Lib.MinMax
import Derived.Test.YtkejjdoaljoooaaGreatDoorRIdsI
import Derived.KernelRfl
/- What instances hang on, as plain values, of no program: what is wrong with one, what two come to, and what holds of that. -/
namespace Go.Proofs.YtkejjdoaljoooaaGreatDoor.Att
open Lib (hid)
open Ids
structure At where
 dp : List (Int × Int)
 sq : Int
 tg : Int
def zeroAt : At := ⟨[], 0, 0⟩
def aranged (s t : Int) : Bool := if t = 2 then decide (s = 0) else decide (1 ≤ s ∧ s ≤ 1099511627776)
def achk (a : At) : Int := if a.tg = 1 ∨ a.tg = 2 then if aranged a.sq a.tg = true then if Ids.chk a.dp = true then 0 else 4 else 6 else 17
def asame (a b : At) : Bool := decide (a.tg = b.tg ∧ a.sq = b.sq ∧ a.dp = b.dp)
theorem achk_zero {a : At} : achk a = 0 ↔ (a.tg = 1 ∨ a.tg = 2) ∧ aranged a.sq a.tg = true ∧ Ids.chk a.dp = true := by
 unfold achk;by_cases h1 : a.tg = 1 ∨ a.tg = 2
 · rw [if_pos h1]
   by_cases h2 : aranged a.sq a.tg = true
   · rw [if_pos h2]
     by_cases h3 : Ids.chk a.dp = true
     · simp [h1, h2, h3]
     · simp [h3]
   · simp [h2]
 · simp [h1]
theorem achk_up {a : At} (h : achk a = 0) : Up a.dp := (of_decide_eq_true (achk_zero.1 h).2.2).2.2
theorem achk_len {a : At} (h : achk a = 0) : a.dp.length ≤ 4096 := (of_decide_eq_true (achk_zero.1 h).2.2).1
end Go.Proofs.YtkejjdoaljoooaaGreatDoor.Att
/- attr.ranged, Check and Same, and the document's: what is wrong with any one, and whether two are the same. -/
namespace Go.Proofs.YtkejjdoaljoooaaGreatDoor
open Lib (hid)
open Go.RowKit Mem Ids Att
def Checks (v : Int) (w : World) (e : Ending) (w' : World) : Prop := e = .returned (.int .i64 v) ∧ Below w.heap.size w w'
def chk2 (r k : Bool) : Int := if r = true then if k = true then 0 else 4 else 6
theorem ranged_any (s t : Int) (A : Option Addr) (n c : Nat) (w : World) :
 Calls Tryz.prog 142 #[.agg #[.slice A n c, .int .i64 s, .int .i64 t]] w (Tells (aranged s t) w) := by
 go_enter Tryz.func142, Tryz.ntmps142
 go_wp2_with fail
 all_goals
  go_ret;exact ⟨by simp_all [aranged] <;> first | rfl | omega, bel_alloc (Below.refl _ _) _⟩
theorem blk3 {w : World} {g : Nat} {t : TypeId} {a b c : Value} (h : Blk w g t #[a, b, c]) : w.cell? ⟨g, 0, none⟩ = some a ∧ w.cell? ⟨g, 1, none⟩ = some b ∧ w.cell? ⟨g, 2, none⟩ = some c :=
 ⟨h.cell 0, h.cell 1, h.cell 2⟩
theorem two_boxes (w : World) (t : TypeId) (a b : Array Value) : Blk ((w.alloc (.cells a t)).alloc (.cells b t)) w.heap.size t a ∧ Blk ((w.alloc (.cells a t)).alloc (.cells b t)) (w.heap.size + 1) t b ∧ Below w.heap.size w ((w.alloc (.cells a t)).alloc (.cells b t)) := by
 refine ⟨(Blk.new w t a).alloc _, ?_, ((Below.refl w.heap.size w).alloc (Nat.le_refl _) _).alloc (by rw [size_alloc]; omega) _⟩;have h := Blk.new (w.alloc (.cells a t)) t b;rwa [size_alloc] at h
set_option maxHeartbeats 1000000 in
theorem acheck_any (l : List (Int × Int)) (s t : Int) (A : Option Addr) (n c : Nat) (w : World) (hr : Rs w A n c l) :
 Calls Tryz.prog 94 #[.agg #[.slice A n c, .int .i64 s, .int .i64 t]] w (Checks (achk ⟨l, s, t⟩) w) := by
 by_cases ht : t = 1 ∨ t = 2
 · have hc : achk ⟨l, s, t⟩ = chk2 (aranged s t) (Ids.chk l) := if_pos ht
   rw [hc];have H1 := hid (fun w => ranged_any s t A n c w);have H2 := hid (fun w (h : Rs w A n c l) => check_any l A n c w h);generalize aranged s t = r at H1 ⊢;generalize Ids.chk l = k at H2 ⊢;have hk := Blk.new w 41 #[.slice A n c, .int .i64 s, .int .i64 t];have HB := hid (bel_alloc (Below.refl w.heap.size w) (.cells #[.slice A n c, .int .i64 s, .int .i64 t] 41));have HK := hid hk;have HR := hid (hr.alloc (.cells #[.slice A n c, .int .i64 s, .int .i64 t] 41));clear hk hr hc;rcases ht with rfl | rfl
   all_goals
    go_enter Tryz.func94, Tryz.ntmps94
    go_wp2_with fail
    refine (H1.out _).mono ?_;rintro e w1 ⟨rfl, hb1⟩;obtain ⟨p0, p1, p2⟩ := blk3 (HK.out.bel hb1);have HB1 := hid (bel_trans HB.out hb1);have HR1 := hid (HR.out.below hb1);clear hb1;cases r with
    | false =>
      go_wp2_with fail
      go_ret;exact ⟨rfl, HB1.out⟩
    | true =>
      go_wp2_with fail
      refine (H2.out _ HR1.out).mono ?_;rintro e w2 ⟨rfl, hb2⟩;have HB2 := hid (bel_trans HB1.out hb2);clear hb2;cases k
      all_goals
       go_wp2_with fail
       go_ret;exact ⟨rfl, HB2.out⟩
 · have hc : achk ⟨l, s, t⟩ = 17 := if_neg ht
   rw [hc];have n1 : (t != 1) = true := bne_iff_ne.2 fun h => ht (.inl h);have n2 : (t != 2) = true := bne_iff_ne.2 fun h => ht (.inr h);clear hc ht hr;go_enter Tryz.func94, Tryz.ntmps94
   go_wp2_with fail
   go_ret;exact ⟨rfl, bel_alloc (Below.refl _ _) _⟩
set_option maxHeartbeats 1000000 in
theorem asame_any (l : List (Int × Int)) (s t : Int) (A : Option Addr) (n c : Nat) (l' : List (Int × Int)) (s' t' : Int) (A' : Option Addr) (n' c' : Nat) (w : World) (hr : Rs w A n c l) (hr' : Rs w A' n' c' l') :
 Calls Tryz.prog 167 #[.agg #[.slice A n c, .int .i64 s, .int .i64 t], .agg #[.slice A' n' c', .int .i64 s', .int .i64 t']] w (Tells (asame ⟨l, s, t⟩ ⟨l', s', t'⟩) w) := by
 have H1 := hid (fun w (h : Rs w A n c l) (h' : Rs w A' n' c' l') => equal_any l l' A A' n c n' c' w h h');obtain ⟨k1, k2, hb⟩ := two_boxes w 41 #[.slice A n c, .int .i64 s, .int .i64 t] #[.slice A' n' c', .int .i64 s', .int .i64 t'];have HB := hid hb;have HR := hid (hr.below hb);have HR' := hid (hr'.below hb);clear hr hr' k1 k2 hb;by_cases ht : t = t'
 · subst ht
   by_cases hs : s = s'
   · subst hs
     rw [show asame ⟨l, s, t⟩ ⟨l', s, t⟩ = decide (l = l') by simp [asame]];go_enter Tryz.func167, Tryz.ntmps167
     go_wp2_with fail
     refine (H1.out _ HR.out HR'.out).mono ?_;rintro e w1 ⟨rfl, hb1⟩;have HB1 := hid (bel_trans HB.out hb1);clear hb1;go_wp2_with fail
     go_ret;exact ⟨rfl, HB1.out⟩
   · rw [show asame ⟨l, s, t⟩ ⟨l', s', t⟩ = false by simp [asame, hs]]
     have b1 : (s == s') = false := beq_false_of_ne hs;clear hs H1;go_enter Tryz.func167, Tryz.ntmps167
     go_wp2_with fail
     go_ret;exact ⟨rfl, HB.out⟩
 · rw [show asame ⟨l, s, t⟩ ⟨l', s', t'⟩ = false by simp [asame, ht]]
   have b1 : (t == t') = false := beq_false_of_ne ht;clear ht H1;go_enter Tryz.func167, Tryz.ntmps167
   go_wp2_with fail
   go_ret;exact ⟨rfl, HB.out⟩
set_option maxHeartbeats 1000000 in
theorem refasame_any (l : List (Int × Int)) (s t : Int) (A : Option Addr) (n c : Nat) (l' : List (Int × Int)) (s' t' : Int) (A' : Option Addr) (n' c' : Nat) (w : World) (hr : Rs w A n c l) (hr' : Rs w A' n' c' l') :
 Calls Tryz.prog 50 #[.agg #[.slice A n c, .int .i64 s, .int .i64 t], .agg #[.slice A' n' c', .int .i64 s', .int .i64 t']] w (Tells (asame ⟨l, s, t⟩ ⟨l', s', t'⟩) w) := by
 have H1 := hid (fun w (h : Rs w A n c l) (h' : Rs w A' n' c' l') => refequal_any l l' A A' n c n' c' w h h');obtain ⟨k1, k2, hb⟩ := two_boxes w 41 #[.slice A n c, .int .i64 s, .int .i64 t] #[.slice A' n' c', .int .i64 s', .int .i64 t'];have HB := hid hb;have HR := hid (hr.below hb);have HR' := hid (hr'.below hb);clear hr hr' k1 k2 hb;by_cases ht : t = t'
 · subst ht
   by_cases hs : s = s'
   · subst hs
     rw [show asame ⟨l, s, t⟩ ⟨l', s, t⟩ = decide (l = l') by simp [asame]];go_enter Tryz.func50, Tryz.ntmps50
     go_wp2_with fail
     refine (H1.out _ HR.out HR'.out).mono ?_;rintro e w1 ⟨rfl, hb1⟩;have HB1 := hid (bel_trans HB.out hb1);clear hb1;go_wp2_with fail
     go_ret;exact ⟨rfl, HB1.out⟩
   · rw [show asame ⟨l, s, t⟩ ⟨l', s', t⟩ = false by simp [asame, hs]]
     have b1 : (s == s') = false := beq_false_of_ne hs;clear hs H1;go_enter Tryz.func50, Tryz.ntmps50
     go_wp2_with fail
     go_ret;exact ⟨rfl, HB.out⟩
 · rw [show asame ⟨l, s, t⟩ ⟨l', s', t'⟩ = false by simp [asame, ht]]
   have b1 : (t == t') = false := beq_false_of_ne ht;clear ht H1;go_enter Tryz.func50, Tryz.ntmps50
   go_wp2_with fail
   go_ret;exact ⟨rfl, HB.out⟩
end Go.Proofs.YtkejjdoaljoooaaGreatDoor
/- attr.together and Join, and the document's Join: what any two come to. -/
namespace Go.Proofs.YtkejjdoaljoooaaGreatDoor
open Lib (hid)
open Go.RowKit Mem Ids Att
end Go.Proofs.YtkejjdoaljoooaaGreatDoor
/- attr.Join, and the document's Join: what any two come to. -/
namespace Go.Proofs.YtkejjdoaljoooaaGreatDoor
open Lib (hid)
open Go.RowKit Mem Ids Att
theorem Rs.set3 {w : World} {base r n c : Nat} {V : Option Addr} {l : List (Int × Int)} (h : w.ownsRow base 34 2 (.slice V n c) n (cells l)) (hr : r < base) (u v x : Value) :
 Rs (((w.setCell ⟨r, 0, none⟩ u).setCell ⟨r, 1, none⟩ v).setCell ⟨r, 2, none⟩ x) V n c l := by
 have hrs := Rs.own h;refine ⟨hrs.len, hrs.le, hrs.cap, hrs.nil, fun hn => ?_⟩;obtain ⟨g, o, e, hb, hc⟩ := hrs.spot hn;have hg : base ≤ g := (h.lt g (by simp [Value.ownBlock, e])).1
 have hk : ∀ p : Addr, p.block = g → (((w.setCell ⟨r, 0, none⟩ u).setCell ⟨r, 1, none⟩ v).setCell ⟨r, 2, none⟩ x).cell? p = w.cell? p := fun p hp => by
  have hne : p.block ≠ r := by omega
  exact World.cell?_of_block (((Below.heap_setCell _ ⟨r, 2, none⟩ x _ hne).trans (Below.heap_setCell _ ⟨r, 1, none⟩ v _ hne)).trans (Below.heap_setCell _ ⟨r, 0, none⟩ u _ hne))
 exact ⟨g, o, e, by simpa [World.setCell] using hb, fun j y hy => ⟨(hk ⟨g, o + j * 2, none⟩ rfl).trans (hc j y hy).1, (hk ⟨g, o + j * 2 + 1, none⟩ rfl).trans (hc j y hy).2⟩⟩
theorem blk3_set {w0 w : World} {B g : Nat} {t : TypeId} {a b c : Value} (h : Blk w g t #[a, b, c]) (hb : Below B w0 w) (hg : B ≤ g) (u v x : Value) :
 Blk (((w.setCell ⟨g, 0, none⟩ u).setCell ⟨g, 1, none⟩ v).setCell ⟨g, 2, none⟩ x) g t #[u, v, x] ∧ Below B w0 (((w.setCell ⟨g, 0, none⟩ u).setCell ⟨g, 1, none⟩ v).setCell ⟨g, 2, none⟩ x) :=
 ⟨((h.put 0 u).put 1 v).put 2 x, ((hb.setCell hg u).setCell hg v).setCell hg x⟩
end Go.Proofs.YtkejjdoaljoooaaGreatDoor
/- What instances hang on as items, of no program: the item of one, its old form, and what an item says. -/
namespace Go.Proofs.YtkejjdoaljoooaaGreatDoor.Att
open Lib (hid)
open Ids Cod
def attIt (a : At) : It := .mk 2 0 ByteArray.empty [numIt a.tg, numIt a.sq, setIt a.dp]
def oldIt (a : At) : It := .mk 2 0 ByteArray.empty [numIt a.sq, setIt a.dp]
def attItem (a : At) : It := if achk a = 0 then attIt a else zeroIt
def attOld (a : At) : It × Int := if achk a = 0 then if a.tg = 1 then (oldIt a, 0) else (zeroIt, 17) else (zeroIt, 4)
def isNum (x : It) : Bool := decide (x.kind = 0 ∧ x.str = ByteArray.empty ∧ x.kids.length = 0)
def isList (x : It) : Bool := decide (x.kind = 2 ∧ x.num = 0 ∧ x.str = ByteArray.empty)
theorem isNum_num (v : Int) : isNum (numIt v) = true := by simp [isNum, numIt, It.kind, It.str, It.kids]
noncomputable def takenOf (tag : Int) (s d : It) : Option At :=
 if isNum s = true ∧ (takeOf d).isSome = true ∧ achk ⟨(takeOf d).getD [], w64 s.num, tag⟩ = 0 then some ⟨(takeOf d).getD [], w64 s.num, tag⟩ else none
noncomputable def attTake (x : It) : Option At :=
 if isList x = true then
  match x.kids with
  | [t, s, d] => if isNum t = true then takenOf (w64 t.num) s d else none
  | _ => none
 else none
noncomputable def oldTake (x : It) : Option At :=
 if isList x = true then
  match x.kids with
  | [s, d] => takenOf 1 s d
  | _ => none
 else none
theorem achk_sq {a : At} (h : achk a = 0) : 0 ≤ a.sq ∧ a.sq ≤ 1099511627776 ∧ 1 ≤ a.tg ∧ a.tg ≤ 2 := by
 obtain ⟨h1, h2, _⟩ := achk_zero.1 h;unfold aranged at h2;split at h2
 · have := of_decide_eq_true h2
   omega
 · have := of_decide_eq_true h2
   omega
theorem w64_sq {v : Int} (h : 0 ≤ v) (h' : v ≤ 1099511627776) : w64 v.toNat = v := by
 rw [w64_small (by omega), Int.toNat_of_nonneg h]
theorem taken_put {a : At} (h : achk a = 0) : takenOf a.tg (numIt a.sq) (setIt a.dp) = some a := by
 obtain ⟨h0, h1, h2, h3⟩ := achk_sq h;have hc := (achk_zero.1 h).2.2;unfold takenOf;rw [take_set hc];have e : w64 (numIt a.sq).num = a.sq := w64_sq h0 h1;rw [e, if_pos ⟨isNum_num _, rfl, h⟩];rfl
theorem att_put {a : At} (h : achk a = 0) : attTake (attIt a) = some a := by
 obtain ⟨h0, h1, h2, h3⟩ := achk_sq h;unfold attTake;rw [if_pos (by simp [isList, attIt, It.kind, It.num, It.str])];show (if isNum (numIt a.tg) = true then takenOf (w64 (numIt a.tg).num) (numIt a.sq) (setIt a.dp) else none) = some a;have e : w64 (numIt a.tg).num = a.tg := w64_sq (by omega) (by omega);rw [if_pos (isNum_num _), e, taken_put h]
theorem old_put {a : At} (h : achk a = 0) (ht : a.tg = 1) : oldTake (oldIt a) = some a := by
 unfold oldTake;rw [if_pos (by simp [isList, oldIt, It.kind, It.num, It.str])];show takenOf 1 (numIt a.sq) (setIt a.dp) = some a;rw [← ht, taken_put h]
theorem att_short {x : It} (h : x.kids.length ≠ 3) : attTake x = none := by
 unfold attTake;split
 · split
   · rename_i he
     rw [he] at h;exact absurd rfl h
   · rfl
 · rfl
theorem old_short {x : It} (h : x.kids.length ≠ 2) : oldTake x = none := by
 unfold oldTake;split
 · split
   · rename_i he
     rw [he] at h;exact absurd rfl h
   · rfl
 · rfl
theorem att_notlist {x : It} (h : isList x = false) : attTake x = none ∧ oldTake x = none := by
 unfold attTake oldTake;rw [if_neg (by simp [h]), if_neg (by simp [h])];exact ⟨rfl, rfl⟩
theorem att_three {x t s d : It} (h : isList x = true) (hk : x.kids = [t, s, d]) : attTake x = if isNum t = true then takenOf (w64 t.num) s d else none := by
 unfold attTake;rw [if_pos h, hk]
theorem old_two {x s d : It} (h : isList x = true) (hk : x.kids = [s, d]) : oldTake x = takenOf 1 s d := by
 unfold oldTake;rw [if_pos h, hk]
end Go.Proofs.YtkejjdoaljoooaaGreatDoor.Att
/- attr.Item and attr.Old: the item, and the old form, in memory of the call's own. -/
namespace Go.Proofs.YtkejjdoaljoooaaGreatDoor
open Lib (hid)
open Go.RowKit Mem Ids Att Cod
def GivesOld (w : World) (r : It × Int) (e : Ending) (w' : World) : Prop :=
 ∃ V c, e = .returned (.tuple #[.agg #[.int .i64 r.1.kind, .int .u64 (r.1.num : Int), .string r.1.str, .slice V r.1.kids.length c], .int .i64 r.2]) ∧ Lies w' (fun b => w.heap.size ≤ b ∧ b < w'.heap.size) r.1 V c ∧ Below w.heap.size w w'
def GivesSet (w : World) (l : List (Int × Int)) (e : Ending) (w' : World) : Prop :=
 ∃ V c, e = .returned (.agg #[.int .i64 2, .int .u64 0, .string ByteArray.empty, .slice V (l.length * 2) c]) ∧ Lies w' (fun b => w.heap.size ≤ b ∧ b < w'.heap.size) (setIt l) V c ∧ Below w.heap.size w w'
theorem GivesNew.set {w : World} {l : List (Int × Int)} {e : Ending} {w' : World} (h : GivesNew w (setIt l) e w') : GivesSet w l e w' := by
 obtain ⟨V, c, he, hl, hb⟩ := h;refine ⟨V, c, ?_, hl, hb⟩;rw [he];show Ending.returned (.agg #[.int .i64 2, .int .u64 ((0 : Nat) : Int), .string ByteArray.empty, .slice V (its l).length c]) = _;rw [length_its];rfl
theorem setitem_any (l : List (Int × Int)) (A : Option Addr) (n c : Nat) (w : World) (ha : Rs w A n c l) (hc : Ids.chk l = true) :
 Calls Tryz.prog 95 #[.slice A n c] w (GivesSet w l) := by
 have h := item_new l A n c w ha;rw [itemOf, if_pos hc] at h;exact h.mono fun _ _ h => h.set
theorem held3 {w w' : World} {g : Nat} {t : TypeId} {a b c : Value} (h1 : Blk w g t #[a, b, c]) (hb : Below w.heap.size w w') :
 w'.cell? ⟨g, 0, none⟩ = some a ∧ w'.cell? ⟨g, 1, none⟩ = some b ∧ w'.cell? ⟨g, 2, none⟩ = some c := blk3 (h1.bel hb)
theorem held3a {w w' : World} {g : Nat} {t : TypeId} {a b c : Value} (h1 : Blk w g t #[a, b, c]) (hb : Below w.heap.size w w') (o : Obj) :
 (w'.alloc o).cell? ⟨g, 0, none⟩ = some a ∧ (w'.alloc o).cell? ⟨g, 1, none⟩ = some b ∧ (w'.alloc o).cell? ⟨g, 2, none⟩ = some c := blk3 ((h1.bel hb).alloc o)
theorem two_kinds (w : World) (t u : TypeId) (a b : Array Value) (W : World) (hW : (w.alloc (.cells a t)).alloc (.cells b u) = W) : Blk W w.heap.size t a ∧ Blk W (w.heap.size + 1) u b ∧ Below w.heap.size w W ∧ W.heap.size = w.heap.size + 2 := by
 subst hW;have h := Blk.new (w.alloc (.cells a t)) u b;rw [size_alloc] at h;exact ⟨(Blk.new w t a).alloc _, h, ((Below.refl w.heap.size w).alloc (Nat.le_refl _) _).alloc (by rw [size_alloc]; omega) _, by rw [size_alloc, size_alloc]⟩
theorem wts_three {a : At} (h : achk a = 0) : wts [numIt a.tg, numIt a.sq, setIt a.dp] ≤ 100000 ∧ wts [numIt a.sq, setIt a.dp] ≤ 100000 := by
 have hl := achk_len h
 have h1 : wts [numIt a.tg, numIt a.sq, setIt a.dp] = wts [numIt a.tg] + (wts [numIt a.sq] + wts [setIt a.dp]) := by
  rw [show [numIt a.tg, numIt a.sq, setIt a.dp] = [numIt a.tg] ++ ([numIt a.sq] ++ [setIt a.dp]) from rfl, wts_append, wts_append]
 have h2 : wts [numIt a.sq, setIt a.dp] = wts [numIt a.sq] + wts [setIt a.dp] := by
  rw [show [numIt a.sq, setIt a.dp] = [numIt a.sq] ++ [setIt a.dp] from rfl, wts_append]
 have e1 : ∀ v, wts [numIt v] = 1 := fun v => by rw [wts_one]; simp [numIt, wt, wts]
 have e2 : wts [setIt a.dp] = 1 + a.dp.length * 2 := by
  rw [wts_one];show 1 + ByteArray.empty.size + wts (its a.dp) = _;rw [wts_its];rfl
 rw [h1, h2, e1, e1, e2];omega
theorem row_of3 {l : List (Int × Int)} {s t : Int} (h : achk ⟨l, s, t⟩ = 0) (w : World) (u : TypeId) (VI : Option Addr) (cI B : Nat) (hB : B ≤ w.heap.size) (hl : Lies w (fun b => B ≤ b ∧ b < w.heap.size) (setIt l) VI cI) :
 Cod.Row (w.alloc (.cells #[.int .i64 0, .int .u64 t, .string ByteArray.empty, .slice none 0 0, .int .i64 0, .int .u64 s, .string ByteArray.empty, .slice none 0 0, .int .i64 2, .int .u64 0, .string ByteArray.empty, .slice VI (l.length * 2) cI] u)) (fun b => B ≤ b ∧ b ≤ w.heap.size) (some ⟨w.heap.size, 0, none⟩) 3 3 [numIt t, numIt s, setIt l] := by
 obtain ⟨h0, h1, h2, h3⟩ := achk_sq h;simp only at h0 h1 h2 h3;refine row_new w (fun b => B ≤ b ∧ b ≤ w.heap.size) ⟨hB, Nat.le_refl _⟩ [⟨numIt t, none, 0⟩, ⟨numIt s, none, 0⟩, ⟨setIt l, VI, cI⟩] 3 rfl (by decide) _ u ?_ ?_
 · have e0 : ((t.toNat : Nat) : Int) = t := Int.toNat_of_nonneg (by omega)
   have e1 : ((s.toNat : Nat) : Int) = s := Int.toNat_of_nonneg h0;show _ = [Value.int .i64 0, .int .u64 ((t.toNat : Nat) : Int), .string ByteArray.empty, .slice none 0 0, .int .i64 0, .int .u64 ((s.toNat : Nat) : Int), .string ByteArray.empty, .slice none 0 0, .int .i64 2, .int .u64 ((0 : Nat) : Int), .string ByteArray.empty, .slice VI (its l).length cI];rw [e0, e1, length_its];rfl
 · intro x hx
   simp only [List.mem_cons, List.not_mem_nil, or_false] at hx;rcases hx with rfl | rfl | rfl
   · exact lies_leaf _ _ (by decide) (by show t.toNat ≤ _; omega) (by decide)
   · exact lies_leaf _ _ (by decide) (by show s.toNat ≤ _; omega) (by decide)
   · exact (hl.alloc _).more fun b hb _ => ⟨hb.1, by omega⟩
theorem row_of2 {l : List (Int × Int)} {s t : Int} (h : achk ⟨l, s, t⟩ = 0) (w : World) (u : TypeId) (VI : Option Addr) (cI B : Nat) (hB : B ≤ w.heap.size) (hl : Lies w (fun b => B ≤ b ∧ b < w.heap.size) (setIt l) VI cI) :
 Cod.Row (w.alloc (.cells #[.int .i64 0, .int .u64 s, .string ByteArray.empty, .slice none 0 0, .int .i64 2, .int .u64 0, .string ByteArray.empty, .slice VI (l.length * 2) cI] u)) (fun b => B ≤ b ∧ b ≤ w.heap.size) (some ⟨w.heap.size, 0, none⟩) 2 2 [numIt s, setIt l] := by
 obtain ⟨h0, h1, h2, h3⟩ := achk_sq h;simp only at h0 h1 h2 h3;refine row_new w (fun b => B ≤ b ∧ b ≤ w.heap.size) ⟨hB, Nat.le_refl _⟩ [⟨numIt s, none, 0⟩, ⟨setIt l, VI, cI⟩] 2 rfl (by decide) _ u ?_ ?_
 · have e0 : ((t.toNat : Nat) : Int) = t := Int.toNat_of_nonneg (by omega)
   have e1 : ((s.toNat : Nat) : Int) = s := Int.toNat_of_nonneg h0;show _ = [Value.int .i64 0, .int .u64 ((s.toNat : Nat) : Int), .string ByteArray.empty, .slice none 0 0, .int .i64 2, .int .u64 ((0 : Nat) : Int), .string ByteArray.empty, .slice VI (its l).length cI];rw [e1, length_its];rfl
 · intro x hx
   simp only [List.mem_cons, List.not_mem_nil, or_false] at hx;rcases hx with rfl | rfl
   · exact lies_leaf _ _ (by decide) (by show s.toNat ≤ _; omega) (by decide)
   · exact (hl.alloc _).more fun b hb _ => ⟨hb.1, by omega⟩
set_option maxRecDepth 100000 in
set_option maxHeartbeats 4000000 in
theorem attitem_any (l : List (Int × Int)) (s t : Int) (A : Option Addr) (n c : Nat) (w : World) (hr : Rs w A n c l) :
 Calls Tryz.prog 109 #[.agg #[.slice A n c, .int .i64 s, .int .i64 t]] w (GivesNew w (attItem ⟨l, s, t⟩)) := by
 obtain ⟨W, hW⟩ : ∃ W, (w.alloc (.cells #[.slice A n c, .int .i64 s, .int .i64 t] 41)).alloc (.cells #[.int .i64 0, .int .u64 0, .string ⟨#[]⟩, .slice none 0 0] 95) = W := ⟨_, rfl⟩
 obtain ⟨k1, k2, kb, hsW⟩ := two_kinds w _ _ _ _ W hW;have HK1 := hid k1;have HBX := hid k2;have HB0 := hid kb;have HW := hid hW;have HRS := hid (hr.below kb);obtain ⟨p0, p1, p2⟩ := blk3 k1;obtain ⟨y0, y1, y2, y3⟩ := blk4 k2;have hck := acheck_any l s t A n c W (hr.below kb);clear k1 k2 kb hW hr;go_enter Tryz.func109, Tryz.ntmps109
 go_wp2_with fail
 rw [HW.out];by_cases hc : achk ⟨l, s, t⟩ = 0
 case neg =>
  have hit : attItem ⟨l, s, t⟩ = zeroIt := by rw [attItem, if_neg hc]
  have HIT := hid hit;generalize achk ⟨l, s, t⟩ = v at hck hc;have hne : (v != 0) = true := by simpa using hc
  have HCK := hid hck;clear hck hit hc p0 p1 p2 y0 y1 y2 y3;refine HCK.out.mono ?_;rintro e w2 ⟨rfl, hb2⟩;have hblk := HBX.out.bel hb2;have HB2 := hid (bel_trans HB0.out hb2);obtain ⟨c0, c1, c2, c3⟩ := blk4 hblk;have z0 := hblk.soft 0;have z1 := hblk.soft 1;have z2 := hblk.soft 2;have z3 := hblk.soft 3;have hs2 := hb2.size;clear hb2;go_wp2_with fail
  obtain ⟨hblk2, hgr⟩ := blk4_set hblk (.int .i64 0) (.int .u64 0) (.string ⟨#[]⟩) (.slice none 0 0);generalize (((w2.setCell ⟨w.heap.size + 1, 0, none⟩ (.int .i64 0)).setCell ⟨w.heap.size + 1, 1, none⟩ (.int .u64 0)).setCell ⟨w.heap.size + 1, 2, none⟩ (.string ⟨#[]⟩)).setCell ⟨w.heap.size + 1, 3, none⟩ (.slice none 0 0) = w9 at hblk2 hgr ⊢;obtain ⟨d0, d1, d2, d3⟩ := blk4 hblk2;refine bodyPost_ret (v := .agg #[.int .i64 0, .int .u64 0, .string ByteArray.empty, .slice none 0 0]) (by simp [results, Tryz.results109, go_sem, d0, d1, d2, d3]; rfl) rfl ?_;rw [HIT.out];exact ⟨none, 0, rfl, lies_leaf _ _ (by omega) (by omega) (by decide), HB2.out.trans (gr_below hgr (by omega) fun b hb => by cases hb; omega)⟩
 have hit : attItem ⟨l, s, t⟩ = attIt ⟨l, s, t⟩ := by rw [attItem, if_pos hc]
 rw [hc] at hck;have HIT := hid hit;have HCK := hid hck;clear hit hck;have HCH := hid hc;obtain ⟨b0, b1, b2, b3⟩ := achk_sq hc;simp only at b0 b1 b2 b3;have HSZ := hid ((wts_three hc).1);have HI := hid (fun w (h : Rs w A n c l) => setitem_any l A n c w h (achk_zero.1 hc).2.2);have H0 := hid (num_any t);have u0 : IntKind.u64.wrap t = t := u64_in (by omega) (by omega);have H1 := hid (num_any s);have u1 : IntKind.u64.wrap s = s := u64_in (by omega) (by omega);clear hc b0 b1 b2 b3;refine HCK.out.mono ?_;rintro e w2 ⟨rfl, hb2⟩;have HCUR := hid (Below.drew hb2);obtain ⟨p0, p1, p2⟩ := blk3 (HK1.out.bel hb2);obtain ⟨y0, y1, y2, y3⟩ := blk4 (HBX.out.bel hb2);clear hb2 HCK;go_wp2_with fail
 go_region_held3 (fun w' => w'.cell? ⟨w.heap.size, 0, none⟩ = some (.slice A n c) ∧ w'.cell? ⟨w.heap.size, 1, none⟩ = some (.int .i64 s) ∧ w'.cell? ⟨w.heap.size, 2, none⟩ = some (.int .i64 t)) (first | (with_reducible exact held3a HK1.out HCUR.out _) | (with_reducible exact held3 HK1.out HCUR.out) | (with_reducible exact HLAST.out _ _ _ _))
  (first
  | (go_at_call 67
     refine (H0.out _).mono ?_;rintro e v1 ⟨rfl, hb1⟩;have hnow := HCUR.out.trans (hb1.mono HCUR.out.size);replace HCUR := hid hnow;clear H0 hb1 hnow)
  | (go_at_call 67
     refine (H1.out _).mono ?_;rintro e v1 ⟨rfl, hb1⟩;have hnow := HCUR.out.trans (hb1.mono HCUR.out.size);replace HCUR := hid hnow;clear H1 hb1 hnow)
  | (go_at_call 95
     refine (HI.out _ (HRS.out.below HCUR.out)).mono ?_;rintro e v1 ⟨VI, cI, rfl, hli, hb1⟩;have hnow := HCUR.out.trans (hb1.mono HCUR.out.size);have HLI := hid (hli.more (S' := fun b => W.heap.size ≤ b ∧ b < v1.heap.size) fun b hb _ => ⟨Nat.le_trans HCUR.out.size hb.1, hb.2⟩);replace HCUR := hid hnow;clear HI hb1 hnow hli)
  | (go_at_call 65
     refine (list_more _ 3 3 _ [numIt t, numIt s, setIt l] _ (row_of3 HCH.out v1 95 VI cI _ HCUR.out.size HLI.out) (fun b hb => by have := size_alloc v1 (.cells #[.int .i64 0, .int .u64 t, .string ByteArray.empty, .slice none 0 0, .int .i64 0, .int .u64 s, .string ByteArray.empty, .slice none 0 0, .int .i64 2, .int .u64 0, .string ByteArray.empty, .slice VI (l.length * 2) cI] 95); omega) HSZ.out).mono ?_;rintro e w5 ⟨V5, c5, rfl, hr5, hb5⟩;have hs6 := size_alloc v1 (.cells #[.int .i64 0, .int .u64 t, .string ByteArray.empty, .slice none 0 0, .int .i64 0, .int .u64 s, .string ByteArray.empty, .slice none 0 0, .int .i64 2, .int .u64 0, .string ByteArray.empty, .slice VI (l.length * 2) cI] 95);have hs5 := hb5.size;have hsv := HCUR.out.size;have hnow := (HCUR.out.alloc HCUR.out.size (.cells #[.int .i64 0, .int .u64 t, .string ByteArray.empty, .slice none 0 0, .int .i64 0, .int .u64 s, .string ByteArray.empty, .slice none 0 0, .int .i64 2, .int .u64 0, .string ByteArray.empty, .slice VI (l.length * 2) cI] 95)).trans (hb5.mono (by omega));have hblk := HBX.out.bel hnow;obtain ⟨c0, c1, c2, c3⟩ := blk4 hblk;have z0 := hblk.soft 0;have z1 := hblk.soft 1;have z2 := hblk.soft 2;have z3 := hblk.soft 3;have HR5 := hid hr5;have HB5 := hid hnow;replace HCUR := hid hnow;have HKB := hid hblk;have hs7 : W.heap.size ≤ v1.heap.size := hsv;have HVV := hid (And.intro hs6 (And.intro hs5 hs7));have HLAST := hid (show ∀ (x0 x1 x2 x3 : Value), _ from fun x0 x1 x2 x3 => blk3 (((((HK1.out.bel hnow).far (p := ⟨w.heap.size + 1, 0, none⟩) (by simp) x0).far (p := ⟨w.heap.size + 1, 1, none⟩) (by simp) x1).far (p := ⟨w.heap.size + 1, 2, none⟩) (by simp) x2).far (p := ⟨w.heap.size + 1, 3, none⟩) (by simp) x3));clear hr5 hb5 hnow hblk hs6 hs5 hsv hs7))
 go_wp2_with fail
 obtain ⟨hblk2, hgr⟩ := blk4_set HKB.out (.int .i64 2) (.int .u64 0) (.string ByteArray.empty) (.slice V5 3 c5);generalize (((w5.setCell ⟨w.heap.size + 1, 0, none⟩ (.int .i64 2)).setCell ⟨w.heap.size + 1, 1, none⟩ (.int .u64 0)).setCell ⟨w.heap.size + 1, 2, none⟩ (.string ByteArray.empty)).setCell ⟨w.heap.size + 1, 3, none⟩ (.slice V5 3 c5) = w9 at hblk2 hgr ⊢;obtain ⟨d0, d1, d2, d3⟩ := blk4 hblk2;refine bodyPost_ret (v := .agg #[.int .i64 2, .int .u64 0, .string ByteArray.empty, .slice V5 3 c5]) (by simp [results, Tryz.results109, go_sem, d0, d1, d2, d3]) rfl ?_;obtain ⟨e1, e2, e3⟩ := HVV.out;have hs9 := hgr.size;have hrow9 : Cod.Row w9 (fun b => w.heap.size ≤ b ∧ b < w9.heap.size) V5 3 c5 [numIt t, numIt s, setIt l] := (HR5.out.grown hgr (fun b hb e => by injection e with e; omega)).more fun b hb _ => by omega
 rw [HIT.out];refine ⟨V5, c5, rfl, hrow9.lies (by omega) (by omega) (by decide), ?_⟩;exact (HB0.out.trans (HB5.out.mono (by omega))).trans (gr_below hgr (by have := HB5.out.size; omega) fun b hb => by injection hb with hb; omega)
end Go.Proofs.YtkejjdoaljoooaaGreatDoor
/- attr.Old: the old form, in memory of the call's own. -/
namespace Go.Proofs.YtkejjdoaljoooaaGreatDoor
open Lib (hid)
open Go.RowKit Mem Ids Att Cod
set_option maxRecDepth 100000 in
set_option maxHeartbeats 4000000 in
theorem attold_any (l : List (Int × Int)) (s t : Int) (A : Option Addr) (n c : Nat) (w : World) (hr : Rs w A n c l) :
 Calls Tryz.prog 54 #[.agg #[.slice A n c, .int .i64 s, .int .i64 t]] w (GivesOld w (attOld ⟨l, s, t⟩)) := by
 obtain ⟨W, hW⟩ : ∃ W, (w.alloc (.cells #[.slice A n c, .int .i64 s, .int .i64 t] 41)).alloc (.cells #[.int .i64 0, .int .u64 0, .string ⟨#[]⟩, .slice none 0 0] 95) = W := ⟨_, rfl⟩
 obtain ⟨k1, k2, kb, hsW⟩ := two_kinds w _ _ _ _ W hW;have HK1 := hid k1;have HBX := hid k2;have HB0 := hid kb;have HW := hid hW;have HRS := hid (hr.below kb);obtain ⟨p0, p1, p2⟩ := blk3 k1;obtain ⟨y0, y1, y2, y3⟩ := blk4 k2;have hck := acheck_any l s t A n c W (hr.below kb);clear k1 k2 kb hW hr;go_enter Tryz.func54, Tryz.ntmps54
 go_wp2_with fail
 rw [HW.out];by_cases hc : achk ⟨l, s, t⟩ = 0
 case neg =>
  have hit : attOld ⟨l, s, t⟩ = (zeroIt, 4) := by rw [attOld, if_neg hc]
  have HIT := hid hit;generalize achk ⟨l, s, t⟩ = v at hck hc;have hne : (v != 0) = true := by simpa using hc
  have HCK := hid hck;clear hck hit hc p0 p1 p2 y0 y1 y2 y3;refine HCK.out.mono ?_;rintro e w2 ⟨rfl, hb2⟩;have hblk := HBX.out.bel hb2;have HB2 := hid (bel_trans HB0.out hb2);obtain ⟨c0, c1, c2, c3⟩ := blk4 hblk;have z0 := hblk.soft 0;have z1 := hblk.soft 1;have z2 := hblk.soft 2;have z3 := hblk.soft 3;have hs2 := hb2.size;clear hb2;go_wp2_with fail
  obtain ⟨hblk2, hgr⟩ := blk4_set hblk (.int .i64 0) (.int .u64 0) (.string ⟨#[]⟩) (.slice none 0 0);generalize (((w2.setCell ⟨w.heap.size + 1, 0, none⟩ (.int .i64 0)).setCell ⟨w.heap.size + 1, 1, none⟩ (.int .u64 0)).setCell ⟨w.heap.size + 1, 2, none⟩ (.string ⟨#[]⟩)).setCell ⟨w.heap.size + 1, 3, none⟩ (.slice none 0 0) = w9 at hblk2 hgr ⊢;obtain ⟨d0, d1, d2, d3⟩ := blk4 hblk2;refine bodyPost_ret (v := .tuple #[.agg #[.int .i64 0, .int .u64 0, .string ByteArray.empty, .slice none 0 0], .int .i64 4]) (by simp [results, Tryz.results54, go_sem, d0, d1, d2, d3]; rfl) rfl ?_;rw [HIT.out];exact ⟨none, 0, rfl, lies_leaf _ _ (by omega) (by omega) (by decide), HB2.out.trans (gr_below hgr (by omega) fun b hb => by cases hb; omega)⟩
 rw [hc] at hck;by_cases ht : t = 1
 case neg =>
  have hit : attOld ⟨l, s, t⟩ = (zeroIt, 17) := by rw [attOld, if_pos hc, if_neg ht]
  have HIT := hid hit;have hne : (t != 1) = true := by simpa using ht
  have HCK := hid hck;clear hck hit hc ht p0 p1 p2 y0 y1 y2 y3;refine HCK.out.mono ?_;rintro e w2 ⟨rfl, hb2⟩;obtain ⟨p0, p1, p2⟩ := blk3 (HK1.out.bel hb2);have hblk := HBX.out.bel hb2;have HB2 := hid (bel_trans HB0.out hb2);obtain ⟨c0, c1, c2, c3⟩ := blk4 hblk;have z0 := hblk.soft 0;have z1 := hblk.soft 1;have z2 := hblk.soft 2;have z3 := hblk.soft 3;have hs2 := hb2.size;clear hb2;go_wp2_with fail
  obtain ⟨hblk2, hgr⟩ := blk4_set hblk (.int .i64 0) (.int .u64 0) (.string ⟨#[]⟩) (.slice none 0 0);generalize (((w2.setCell ⟨w.heap.size + 1, 0, none⟩ (.int .i64 0)).setCell ⟨w.heap.size + 1, 1, none⟩ (.int .u64 0)).setCell ⟨w.heap.size + 1, 2, none⟩ (.string ⟨#[]⟩)).setCell ⟨w.heap.size + 1, 3, none⟩ (.slice none 0 0) = w9 at hblk2 hgr ⊢;obtain ⟨d0, d1, d2, d3⟩ := blk4 hblk2;refine bodyPost_ret (v := .tuple #[.agg #[.int .i64 0, .int .u64 0, .string ByteArray.empty, .slice none 0 0], .int .i64 17]) (by simp [results, Tryz.results54, go_sem, d0, d1, d2, d3]; rfl) rfl ?_;rw [HIT.out];exact ⟨none, 0, rfl, lies_leaf _ _ (by omega) (by omega) (by decide), HB2.out.trans (gr_below hgr (by omega) fun b hb => by cases hb; omega)⟩
 subst ht;have hit : attOld ⟨l, s, 1⟩ = (oldIt ⟨l, s, 1⟩, 0) := by rw [attOld, if_pos hc, if_pos rfl]
 have HIT := hid hit;have HCK := hid hck;clear hit hck;have HCH := hid hc;obtain ⟨b0, b1, b2, b3⟩ := achk_sq hc;simp only at b0 b1 b2 b3;have HSZ := hid ((wts_three hc).2);have HI := hid (fun w (h : Rs w A n c l) => setitem_any l A n c w h (achk_zero.1 hc).2.2);have H1 := hid (num_any s);have u1 : IntKind.u64.wrap s = s := u64_in (by omega) (by omega);clear hc b0 b1 b2 b3;refine HCK.out.mono ?_;rintro e w2 ⟨rfl, hb2⟩;have HCUR := hid (Below.drew hb2);obtain ⟨p0, p1, p2⟩ := blk3 (HK1.out.bel hb2);obtain ⟨y0, y1, y2, y3⟩ := blk4 (HBX.out.bel hb2);clear hb2 HCK;go_wp2_with fail
 go_region_held3 (fun w' => w'.cell? ⟨w.heap.size, 0, none⟩ = some (.slice A n c) ∧ w'.cell? ⟨w.heap.size, 1, none⟩ = some (.int .i64 s) ∧ w'.cell? ⟨w.heap.size, 2, none⟩ = some (.int .i64 1)) (first | (with_reducible exact held3a HK1.out HCUR.out _) | (with_reducible exact held3 HK1.out HCUR.out) | (with_reducible exact HLAST.out _ _ _ _))
  (first
  | (go_at_call 67
     refine (H1.out _).mono ?_;rintro e v1 ⟨rfl, hb1⟩;have hnow := HCUR.out.trans (hb1.mono HCUR.out.size);replace HCUR := hid hnow;clear H1 hb1 hnow)
  | (go_at_call 95
     refine (HI.out _ (HRS.out.below HCUR.out)).mono ?_;rintro e v1 ⟨VI, cI, rfl, hli, hb1⟩;have hnow := HCUR.out.trans (hb1.mono HCUR.out.size);have HLI := hid (hli.more (S' := fun b => W.heap.size ≤ b ∧ b < v1.heap.size) fun b hb _ => ⟨Nat.le_trans HCUR.out.size hb.1, hb.2⟩);replace HCUR := hid hnow;clear HI hb1 hnow hli)
  | (go_at_call 65
     refine (list_more _ 2 2 _ [numIt s, setIt l] _ (row_of2 HCH.out v1 95 VI cI _ HCUR.out.size HLI.out) (fun b hb => by have := size_alloc v1 (.cells #[.int .i64 0, .int .u64 s, .string ByteArray.empty, .slice none 0 0, .int .i64 2, .int .u64 0, .string ByteArray.empty, .slice VI (l.length * 2) cI] 95); omega) HSZ.out).mono ?_;rintro e w5 ⟨V5, c5, rfl, hr5, hb5⟩;have hs6 := size_alloc v1 (.cells #[.int .i64 0, .int .u64 s, .string ByteArray.empty, .slice none 0 0, .int .i64 2, .int .u64 0, .string ByteArray.empty, .slice VI (l.length * 2) cI] 95);have hs5 := hb5.size;have hsv := HCUR.out.size;have hnow := (HCUR.out.alloc HCUR.out.size (.cells #[.int .i64 0, .int .u64 s, .string ByteArray.empty, .slice none 0 0, .int .i64 2, .int .u64 0, .string ByteArray.empty, .slice VI (l.length * 2) cI] 95)).trans (hb5.mono (by omega));have hblk := HBX.out.bel hnow;obtain ⟨c0, c1, c2, c3⟩ := blk4 hblk;have z0 := hblk.soft 0;have z1 := hblk.soft 1;have z2 := hblk.soft 2;have z3 := hblk.soft 3;have HR5 := hid hr5;have HB5 := hid hnow;replace HCUR := hid hnow;have HKB := hid hblk;have hs7 : W.heap.size ≤ v1.heap.size := hsv;have HVV := hid (And.intro hs6 (And.intro hs5 hs7));have HLAST := hid (show ∀ (x0 x1 x2 x3 : Value), _ from fun x0 x1 x2 x3 => blk3 (((((HK1.out.bel hnow).far (p := ⟨w.heap.size + 1, 0, none⟩) (by simp) x0).far (p := ⟨w.heap.size + 1, 1, none⟩) (by simp) x1).far (p := ⟨w.heap.size + 1, 2, none⟩) (by simp) x2).far (p := ⟨w.heap.size + 1, 3, none⟩) (by simp) x3));clear hr5 hb5 hnow hblk hs6 hs5 hsv hs7))
 go_wp2_with fail
 obtain ⟨hblk2, hgr⟩ := blk4_set HKB.out (.int .i64 2) (.int .u64 0) (.string ByteArray.empty) (.slice V5 2 c5);generalize (((w5.setCell ⟨w.heap.size + 1, 0, none⟩ (.int .i64 2)).setCell ⟨w.heap.size + 1, 1, none⟩ (.int .u64 0)).setCell ⟨w.heap.size + 1, 2, none⟩ (.string ByteArray.empty)).setCell ⟨w.heap.size + 1, 3, none⟩ (.slice V5 2 c5) = w9 at hblk2 hgr ⊢;obtain ⟨d0, d1, d2, d3⟩ := blk4 hblk2;refine bodyPost_ret (v := .tuple #[.agg #[.int .i64 2, .int .u64 0, .string ByteArray.empty, .slice V5 2 c5], .int .i64 0]) (by simp [results, Tryz.results54, go_sem, d0, d1, d2, d3]) rfl ?_;obtain ⟨e1, e2, e3⟩ := HVV.out;have hs9 := hgr.size;have hrow9 : Cod.Row w9 (fun b => w.heap.size ≤ b ∧ b < w9.heap.size) V5 2 c5 [numIt s, setIt l] := (HR5.out.grown hgr (fun b hb e => by injection e with e; omega)).more fun b hb _ => by omega
 rw [HIT.out];refine ⟨V5, c5, rfl, hrow9.lies (by omega) (by omega) (by decide), ?_⟩;exact (HB0.out.trans (HB5.out.mono (by omega))).trans (gr_below hgr (by have := HB5.out.size; omega) fun b hb => by injection hb with hb; omega)
end Go.Proofs.YtkejjdoaljoooaaGreatDoor
/- The document's Item and Old of a right one. -/
namespace Go.Proofs.YtkejjdoaljoooaaGreatDoor
open Lib (hid)
open Go.RowKit Mem Ids Att Cod
end Go.Proofs.YtkejjdoaljoooaaGreatDoor
/- attr.held, number and parts: what an item has as a value of which the type tells what it is; a number, or the parts of a list. -/
namespace Go.Proofs.YtkejjdoaljoooaaGreatDoor
open Lib (hid)
open Go.RowKit Mem Ids Att Cod
theorem as_num_num (v : Value) (w : World) : (Instr.typeAssert (.iface 92 v) 20 92 true).run Tryz.prog w = .ok (.tuple #[v, .bool true]) w := by kernel_rfl
theorem as_list_num (v : Value) (w : World) : (Instr.typeAssert (.iface 93 v) 20 92 true).run Tryz.prog w = .ok (.tuple #[.int .u64 0, .bool false]) w := by kernel_rfl
theorem as_nil_num (w : World) : (Instr.typeAssert .nilIface 20 92 true).run Tryz.prog w = .ok (.tuple #[.int .u64 0, .bool false]) w := by kernel_rfl
theorem as_list_list (v : Value) (w : World) : (Instr.typeAssert (.iface 93 v) 20 93 true).run Tryz.prog w = .ok (.tuple #[v, .bool true]) w := by kernel_rfl
theorem as_num_list (v : Value) (w : World) : (Instr.typeAssert (.iface 92 v) 20 93 true).run Tryz.prog w = .ok (.tuple #[.slice none 0 0, .bool false]) w := by kernel_rfl
theorem as_nil_list (w : World) : (Instr.typeAssert .nilIface 20 93 true).run Tryz.prog w = .ok (.tuple #[.slice none 0 0, .bool false]) w := by kernel_rfl
theorem held_num (nm : Int) (A : Option Addr) (c : Nat) (w : World) :
 Calls Tryz.prog 145 #[.agg #[.int .i64 0, .int .u64 nm, .string ⟨#[]⟩, .slice A 0 c]] w (Hands (.iface 92 (.int .u64 nm)) w) := by
 go_enter Tryz.func145, Tryz.ntmps145
 go_wp2_with fail
 go_ret;exact ⟨rfl, bel_alloc (Below.refl _ _) _⟩
theorem held_list (A : Option Addr) (m c : Nat) (w : World) :
 Calls Tryz.prog 145 #[.agg #[.int .i64 2, .int .u64 0, .string ⟨#[]⟩, .slice A m c]] w (Hands (.iface 93 (.slice A m c)) w) := by
 go_enter Tryz.func145, Tryz.ntmps145
 go_wp2_with fail
 go_ret;exact ⟨rfl, bel_alloc (Below.refl _ _) _⟩
theorem not_empty {s : ByteArray} (h : ¬ s = ByteArray.empty) : ¬ s.toList = [] := fun e => by
 apply h;have := (toList_nil s).1 e;apply ByteArray.ext;exact Array.eq_empty_of_size_eq_zero this
set_option maxHeartbeats 1000000 in
theorem held_nil (kd nm : Int) (st : ByteArray) (A : Option Addr) (m c : Nat) (w : World) (h1 : ¬ (kd = 0 ∧ st = ByteArray.empty ∧ m = 0)) (h2 : ¬ (kd = 2 ∧ nm = 0 ∧ st = ByteArray.empty)) :
 Calls Tryz.prog 145 #[.agg #[.int .i64 kd, .int .u64 nm, .string st, .slice A m c]] w (Hands .nilIface w) := by
 by_cases k0 : kd = 0
 · subst k0
   by_cases s0 : st = ByteArray.empty
   · subst s0
     have b1 : ((m : Int) == 0) = false := beq_false_of_ne fun h => h1 ⟨rfl, rfl, by omega⟩;clear h1 h2;go_enter Tryz.func145, Tryz.ntmps145
     go_wp2_with fail
     go_ret;exact ⟨rfl, bel_alloc (Below.refl _ _) _⟩
   · have b1 := not_empty s0
     have b2 : st.toList.isEmpty = false := (by simpa using b1);clear h1 h2 s0;go_enter Tryz.func145, Tryz.ntmps145
     go_wp2_with fail
     go_ret;exact ⟨rfl, bel_alloc (Below.refl _ _) _⟩
 · have b0 : (kd == 0) = false := beq_false_of_ne k0
   by_cases k2 : kd = 2
   · subst k2
     by_cases n0 : nm = 0
     · subst n0
       have s0 : ¬ st = ByteArray.empty := fun h => h2 ⟨rfl, rfl, h⟩;have b1 := not_empty s0;have b2 : st.toList.isEmpty = false := (by simpa using b1);clear h1 h2 s0 k0 b0;go_enter Tryz.func145, Tryz.ntmps145
       go_wp2_with fail
       go_ret;exact ⟨rfl, bel_alloc (Below.refl _ _) _⟩
     · have b1 : (nm == 0) = false := beq_false_of_ne n0
       clear h1 h2 n0 k0 b0;go_enter Tryz.func145, Tryz.ntmps145
       go_wp2_with fail
       go_ret;exact ⟨rfl, bel_alloc (Below.refl _ _) _⟩
   · have b1 : (kd == 2) = false := beq_false_of_ne k2
     clear h1 h2 k0 k2;go_enter Tryz.func145, Tryz.ntmps145
     go_wp2_with fail
     go_ret;exact ⟨rfl, bel_alloc (Below.refl _ _) _⟩
def Numbers (v : Int) (b : Bool) (w : World) (e : Ending) (w' : World) : Prop := e = .returned (.tuple #[.int .i64 v, .bool b]) ∧ Below w.heap.size w w'
theorem number_yes (nm : Nat) (A : Option Addr) (c : Nat) (w : World) :
 Calls Tryz.prog 110 #[.agg #[.int .i64 0, .int .u64 (nm : Int), .string ⟨#[]⟩, .slice A 0 c]] w (Numbers (w64 nm) true w) := by
 obtain ⟨R, hR⟩ : ∃ R : Int, w64 nm = R := ⟨_, rfl⟩
 rw [hR];unfold w64 at hR;have H1 := hid (fun w => held_num (nm : Int) A c w);have a1 := as_num_num;have HB := hid (bel_alloc (Below.refl w.heap.size w) (.cells #[.int .i64 0, .int .u64 (nm : Int), .string ⟨#[]⟩, .slice A 0 c] 95));go_enter Tryz.func110, Tryz.ntmps110
 go_wp2_with fail
 refine (H1.out _).mono ?_;rintro e w1 ⟨rfl, hb1⟩;have HB1 := hid (bel_trans HB.out hb1);clear hb1;go_wp2_with fail
 go_ret2
 exact ⟨rfl, HB1.out⟩
set_option maxHeartbeats 1000000 in
theorem number_no (kd nm : Int) (st : ByteArray) (A : Option Addr) (m c : Nat) (w : World) (h1 : ¬ (kd = 0 ∧ st = ByteArray.empty ∧ m = 0)) :
 Calls Tryz.prog 110 #[.agg #[.int .i64 kd, .int .u64 nm, .string st, .slice A m c]] w (Numbers 0 false w) := by
 have HB := hid (bel_alloc (Below.refl w.heap.size w) (.cells #[.int .i64 kd, .int .u64 nm, .string st, .slice A m c] 95));have hz : IntKind.i64.wrap 0 = 0 := rfl;by_cases h2 : kd = 2 ∧ nm = 0 ∧ st = ByteArray.empty
 · obtain ⟨rfl, rfl, rfl⟩ := h2
   have H1 := hid (fun w => held_list A m c w);have a1 := as_list_num;clear h1;go_enter Tryz.func110, Tryz.ntmps110
   go_wp2_with fail
   refine (H1.out _).mono ?_;rintro e w1 ⟨rfl, hb1⟩;have HB1 := hid (bel_trans HB.out hb1);clear hb1;go_wp2_with fail
   go_ret2
   exact ⟨rfl, HB1.out⟩
 · have H1 := hid (fun w => held_nil kd nm st A m c w h1 h2)
   have a1 := as_nil_num;clear h1 h2;go_enter Tryz.func110, Tryz.ntmps110
   go_wp2_with fail
   refine (H1.out _).mono ?_;rintro e w1 ⟨rfl, hb1⟩;have HB1 := hid (bel_trans HB.out hb1);clear hb1;go_wp2_with fail
   go_ret2
   exact ⟨rfl, HB1.out⟩
def numOf (x : It) : Int := if isNum x = true then w64 x.num else 0
theorem number_any (x : It) (A : Option Addr) (c : Nat) (w : World) :
 Calls Tryz.prog 110 #[.agg #[.int .i64 x.kind, .int .u64 (x.num : Int), .string x.str, .slice A x.kids.length c]] w (Numbers (numOf x) (isNum x) w) := by
 cases h : isNum x with
 | true =>
   obtain ⟨h1, h2, h3⟩ := of_decide_eq_true h;rw [numOf, if_pos h, h1, h2, h3];exact number_yes x.num A c w
 | false =>
   rw [numOf, if_neg (by simp [h])];exact number_no x.kind x.num x.str A x.kids.length c w (of_decide_eq_false h)
def Parts (v : Value) (b : Bool) (w : World) (e : Ending) (w' : World) : Prop := e = .returned (.tuple #[v, .bool b]) ∧ Below w.heap.size w w'
theorem parts_list (A : Option Addr) (m c : Nat) (k : Nat) (w : World) :
 Calls Tryz.prog 106 #[.agg #[.int .i64 2, .int .u64 0, .string ⟨#[]⟩, .slice A m c], .int .i64 (k : Int)] w (Parts (.slice A m c) (decide (m = k)) w) := by
 have hd : ((m : Int) == (k : Int)) = decide (m = k) := by
  rw [Bool.eq_iff_iff];simp only [beq_iff_eq, decide_eq_true_eq];omega
 have H1 := hid (fun w => held_list A m c w);have a1 := as_list_list;have HB := hid (bel_alloc (Below.refl w.heap.size w) (.cells #[.int .i64 2, .int .u64 0, .string ⟨#[]⟩, .slice A m c] 95));generalize decide (m = k) = r at hd ⊢;go_enter Tryz.func106, Tryz.ntmps106
 go_wp2_with fail
 refine (H1.out _).mono ?_;rintro e w1 ⟨rfl, hb1⟩;have HB1 := hid (bel_trans HB.out hb1);clear hb1;go_wp2_with fail
 go_ret2
 exact ⟨rfl, HB1.out⟩
set_option maxHeartbeats 1000000 in
theorem parts_no (kd nm : Int) (st : ByteArray) (A : Option Addr) (m c : Nat) (k : Int) (w : World) (h2 : ¬ (kd = 2 ∧ nm = 0 ∧ st = ByteArray.empty)) :
 Calls Tryz.prog 106 #[.agg #[.int .i64 kd, .int .u64 nm, .string st, .slice A m c], .int .i64 k] w (Parts (.slice none 0 0) false w) := by
 have HB := hid (bel_alloc (Below.refl w.heap.size w) (.cells #[.int .i64 kd, .int .u64 nm, .string st, .slice A m c] 95));by_cases h1 : kd = 0 ∧ st = ByteArray.empty ∧ m = 0
 · obtain ⟨rfl, rfl, rfl⟩ := h1
   have H1 := hid (fun w => held_num nm A c w);have a1 := as_num_list;clear h2;go_enter Tryz.func106, Tryz.ntmps106
   go_wp2_with fail
   refine (H1.out _).mono ?_;rintro e w1 ⟨rfl, hb1⟩;have HB1 := hid (bel_trans HB.out hb1);clear hb1;go_wp2_with fail
   go_ret2
   exact ⟨rfl, HB1.out⟩
 · have H1 := hid (fun w => held_nil kd nm st A m c w h1 h2)
   have a1 := as_nil_list;clear h1 h2;go_enter Tryz.func106, Tryz.ntmps106
   go_wp2_with fail
   refine (H1.out _).mono ?_;rintro e w1 ⟨rfl, hb1⟩;have HB1 := hid (bel_trans HB.out hb1);clear hb1;go_wp2_with fail
   go_ret2
   exact ⟨rfl, HB1.out⟩
end Go.Proofs.YtkejjdoaljoooaaGreatDoor
/- attr.taken of any tag and any two items. -/
namespace Go.Proofs.YtkejjdoaljoooaaGreatDoor
open Lib (hid)
open Go.RowKit Mem Ids Att Cod
def TakesAt (w : World) (r : Option At) (e : Ending) (w' : World) : Prop :=
 ∃ V n c, e = .returned (.tuple #[.agg #[.slice V n c, .int .i64 (r.getD zeroAt).sq, .int .i64 (r.getD zeroAt).tg], .bool r.isSome]) ∧ Rs w' V n c (r.getD zeroAt).dp ∧ Below w.heap.size w w' ∧ ∀ g o, V = some ⟨g, o, none⟩ → w.heap.size ≤ g
theorem Rs.set3n {w : World} {base r n c : Nat} {V : Option Addr} {l : List (Int × Int)} (h : Rs w V n c l) (hn : ∀ g o, V = some ⟨g, o, none⟩ → base ≤ g) (hr : r < base) (u v x : Value) :
 Rs (((w.setCell ⟨r, 0, none⟩ u).setCell ⟨r, 1, none⟩ v).setCell ⟨r, 2, none⟩ x) V n c l := by
 refine ⟨h.len, h.le, h.cap, h.nil, fun h0 => ?_⟩;obtain ⟨g, o, e, hb, hc⟩ := h.spot h0;have hg := hn g o e
 have hk : ∀ p : Addr, p.block = g → (((w.setCell ⟨r, 0, none⟩ u).setCell ⟨r, 1, none⟩ v).setCell ⟨r, 2, none⟩ x).cell? p = w.cell? p := fun p hp => by
  have hne : p.block ≠ r := by omega
  exact World.cell?_of_block (((Below.heap_setCell _ ⟨r, 2, none⟩ x _ hne).trans (Below.heap_setCell _ ⟨r, 1, none⟩ v _ hne)).trans (Below.heap_setCell _ ⟨r, 0, none⟩ u _ hne))
 exact ⟨g, o, e, by simpa [World.setCell] using hb, fun j y hy => ⟨(hk ⟨g, o + j * 2, none⟩ rfl).trans (hc j y hy).1, (hk ⟨g, o + j * 2 + 1, none⟩ rfl).trans (hc j y hy).2⟩⟩
theorem three_kinds (w : World) (t u v : TypeId) (a b c : Array Value) (W : World) (hW : ((w.alloc (.cells a t)).alloc (.cells b u)).alloc (.cells c v) = W) : Blk W w.heap.size t a ∧ Blk W (w.heap.size + 1) u b ∧ Blk W (w.heap.size + 2) v c ∧ Below w.heap.size w W ∧ W.heap.size = w.heap.size + 3 := by
 obtain ⟨h1, h2, h3, h4⟩ := two_kinds w t u a b _ rfl;subst hW;have h := Blk.new ((w.alloc (.cells a t)).alloc (.cells b u)) v c;rw [h4] at h;exact ⟨h1.alloc _, h2.alloc _, h, bel_alloc h3 _, by rw [size_alloc, h4]⟩
set_option maxRecDepth 100000 in
set_option maxHeartbeats 4000000 in
theorem taken_any (tag : Int) (x y : It) (A1 A2 : Option Addr) (c1 c2 : Nat) (S : Nat → Prop) (w : World) (hy : Lies w S y A2 c2) (hS : ∀ b, S b → b < w.heap.size) :
 Calls Tryz.prog 107 #[.int .i64 tag, .agg #[.int .i64 x.kind, .int .u64 (x.num : Int), .string x.str, .slice A1 x.kids.length c1], .agg #[.int .i64 y.kind, .int .u64 (y.num : Int), .string y.str, .slice A2 y.kids.length c2]] w (TakesAt w (takenOf tag x y)) := by
 obtain ⟨W, hW⟩ : ∃ W, ((w.alloc (.cells #[.int .i64 x.kind, .int .u64 (x.num : Int), .string x.str, .slice A1 x.kids.length c1] 95)).alloc (.cells #[.int .i64 y.kind, .int .u64 (y.num : Int), .string y.str, .slice A2 y.kids.length c2] 95)).alloc (.cells #[.slice none 0 0, .int .i64 0, .int .i64 0] 41) = W := ⟨_, rfl⟩
 obtain ⟨k1, k2, k3, kb, hsW⟩ := three_kinds w _ _ _ _ _ _ W hW;have h1 := fun w => number_any x A1 c1 w;have h2 := fun w (hy : Lies w S y A2 c2) (hS : ∀ b, S b → b < w.heap.size) => take_new y A2 c2 S w hy hS
 have hno : ∀ r b, isNum x = r → (takeOf y).isSome = b → (r && b) = false → takenOf tag x y = none := by
  rintro r b rfl rfl h;unfold takenOf;rw [if_neg];rintro ⟨h1, h2, _⟩;rw [h1, h2] at h;cases h
 have hyes : isNum x = true → (takeOf y).isSome = true → takenOf tag x y = if achk ⟨(takeOf y).getD [], numOf x, tag⟩ = 0 then some ⟨(takeOf y).getD [], numOf x, tag⟩ else none := by
  intro h1 h2;unfold takenOf numOf;rw [if_pos h1];by_cases h3 : achk ⟨(takeOf y).getD [], w64 x.num, tag⟩ = 0
  · rw [if_pos h3, if_pos ⟨h1, h2, h3⟩]
  · rw [if_neg h3, if_neg fun h => h3 h.2.2]
 generalize takeOf y = T at h2 hno hyes;generalize takenOf tag x y = R at hno hyes ⊢;generalize numOf x = v at h1 hyes;generalize isNum x = r at h1 hno hyes;have H1 := hid h1;have H2 := hid h2;have HNO := hid hno;have HYE := hid hyes;have HK1 := hid k1;have HK2 := hid k2;have HK3 := hid k3;have HBW := hid kb;have HLY := hid (hy.below kb hS);have HSS := hid hS;obtain ⟨p0, p1, p2, p3⟩ := blk4 k1;have HW := hid hW;clear h1 h2 hno hyes k1 k2 k3 kb hy hS hW;go_enter Tryz.func107, Tryz.ntmps107
 go_upto_region 1 with fail
 rw [HW.out];clear HW;go_wp2_with fail
 refine (H1.out _).mono ?_;rintro e w1 ⟨rfl, hb1⟩;have hs1 := hb1.size;replace HK2 := hid (HK2.out.bel hb1);replace HK3 := hid (HK3.out.bel hb1);replace HBW := hid (bel_trans HBW.out hb1);replace HLY := hid (HLY.out.below hb1 fun b hb => by have := HSS.out b hb; omega);obtain ⟨q0, q1, q2, q3⟩ := blk4 HK2.out;clear hb1 H1 HK1 p0 p1 p2 p3;go_wp2_with fail
 refine (H2.out _ HLY.out fun b hb => by have := HSS.out b hb; omega).mono ?_;rintro e w2 ⟨V, n, c, l, b, rfl, hrs, hl, hb, hb2, hnew⟩;have hs2 := hb2.size;have hs3 : W.heap.size ≤ w2.heap.size := by omega
 replace HK3 := hid ((HK3.out.bel hb2).alloc (.cells #[.slice V n c, .int .i64 v, .int .i64 tag] 41));replace HBW := hid (bel_alloc (bel_trans HBW.out hb2) (.cells #[.slice V n c, .int .i64 v, .int .i64 tag] 41));have HKA := hid (Blk.new w2 41 #[.slice V n c, .int .i64 v, .int .i64 tag]);have HRS := hid (hrs.alloc (.cells #[.slice V n c, .int .i64 v, .int .i64 tag] 41));have HNEW := hid (show ∀ g o, V = some ⟨g, o, none⟩ → W.heap.size ≤ g from fun g o e => by have := hnew g o e; omega);have HLB := hid (And.intro hl hb);clear hrs hl hb hb2 hnew H2 HLY HK2 q0 q1 q2 q3;cases r with
 | false =>
   have hR := HNO.out false T.isSome rfl rfl rfl;have HR := hid hR;clear hR HNO HYE;obtain ⟨z0, z1, z2⟩ := blk3 HK3.out;have f0 := HK3.out.soft 0;have f1 := HK3.out.soft 1;have f2 := HK3.out.soft 2;go_wp2_with fail
   obtain ⟨hk9, hb9⟩ := blk3_set HK3.out HBW.out (by omega) (.slice none 0 0) (.int .i64 0) (.int .i64 0);generalize ((((w2.alloc (.cells #[.slice V n c, .int .i64 v, .int .i64 tag] 41)).setCell ⟨w.heap.size + 2, 0, none⟩ (.slice none 0 0)).setCell ⟨w.heap.size + 2, 1, none⟩ (.int .i64 0)).setCell ⟨w.heap.size + 2, 2, none⟩ (.int .i64 0)) = w9 at hk9 hb9 ⊢;obtain ⟨d0, d1, d2⟩ := blk3 hk9;refine bodyPost_ret (v := .tuple #[.agg #[.slice none 0 0, .int .i64 0, .int .i64 0], .bool false]) (by simp [results, Tryz.results107, go_sem, d0, d1, d2]) rfl ?_;rw [HR.out];exact ⟨none, 0, 0, rfl, Rs.nil_ _, hb9, fun _ _ h => by cases h⟩
 | true =>
   cases b with
   | false =>
     have hR := HNO.out true T.isSome rfl rfl HLB.out.2.symm;have HR := hid hR;clear hR HNO HYE;obtain ⟨z0, z1, z2⟩ := blk3 HK3.out;have f0 := HK3.out.soft 0;have f1 := HK3.out.soft 1;have f2 := HK3.out.soft 2;go_wp2_with fail
     obtain ⟨hk9, hb9⟩ := blk3_set HK3.out HBW.out (by omega) (.slice none 0 0) (.int .i64 0) (.int .i64 0);generalize ((((w2.alloc (.cells #[.slice V n c, .int .i64 v, .int .i64 tag] 41)).setCell ⟨w.heap.size + 2, 0, none⟩ (.slice none 0 0)).setCell ⟨w.heap.size + 2, 1, none⟩ (.int .i64 0)).setCell ⟨w.heap.size + 2, 2, none⟩ (.int .i64 0)) = w9 at hk9 hb9 ⊢;obtain ⟨d0, d1, d2⟩ := blk3 hk9;refine bodyPost_ret (v := .tuple #[.agg #[.slice none 0 0, .int .i64 0, .int .i64 0], .bool false]) (by simp [results, Tryz.results107, go_sem, d0, d1, d2]) rfl ?_;rw [HR.out];exact ⟨none, 0, 0, rfl, Rs.nil_ _, hb9, fun _ _ h => by cases h⟩
   | true =>
     have hR := HYE.out rfl HLB.out.2.symm;rw [← HLB.out.1] at hR;have hck := acheck_any l v tag V n c _ HRS.out;obtain ⟨ca, hca⟩ : ∃ z, achk ⟨l, v, tag⟩ = z := ⟨_, rfl⟩
     rw [hca] at hck hR;have HR := hid hR;have HCK := hid hck;clear hR hck hca HNO HYE HLB;obtain ⟨a0, a1, a2⟩ := blk3 HKA.out;go_wp2_with fail
     refine HCK.out.mono ?_;rintro e w3 ⟨rfl, hb3⟩;replace HK3 := hid (HK3.out.bel hb3);replace HKA := hid (HKA.out.bel hb3);replace HBW := hid (bel_trans HBW.out hb3);replace HRS := hid (HRS.out.below hb3);clear hb3 HCK a0 a1 a2;obtain ⟨a0, a1, a2⟩ := blk3 HKA.out;by_cases h0 : ca = 0
     · subst h0
       have hR := HR.out;rw [if_pos rfl] at hR;replace HR := hid hR;clear hR;obtain ⟨z0, z1, z2⟩ := blk3 HK3.out;have f0 := HK3.out.soft 0;have f1 := HK3.out.soft 1;have f2 := HK3.out.soft 2;go_wp2_with fail
       have hrs := Rs.set3n (r := w.heap.size + 2) HRS.out HNEW.out (by omega) (.slice V n c) (.int .i64 v) (.int .i64 tag);obtain ⟨hk9, hb9⟩ := blk3_set HK3.out HBW.out (by omega) (.slice V n c) (.int .i64 v) (.int .i64 tag);generalize (((w3.setCell ⟨w.heap.size + 2, 0, none⟩ (.slice V n c)).setCell ⟨w.heap.size + 2, 1, none⟩ (.int .i64 v)).setCell ⟨w.heap.size + 2, 2, none⟩ (.int .i64 tag)) = w9 at hk9 hb9 hrs ⊢;obtain ⟨d0, d1, d2⟩ := blk3 hk9;refine bodyPost_ret (v := .tuple #[.agg #[.slice V n c, .int .i64 v, .int .i64 tag], .bool true]) (by simp [results, Tryz.results107, go_sem, d0, d1, d2]) rfl ?_;rw [HR.out];exact ⟨V, n, c, rfl, hrs, hb9, fun g o e => by have := HNEW.out g o e; omega⟩
     · have hR := HR.out
       rw [if_neg h0] at hR;replace HR := hid hR;have b1 : (ca != 0) = true := bne_iff_ne.2 h0;clear hR h0;obtain ⟨z0, z1, z2⟩ := blk3 HK3.out;have f0 := HK3.out.soft 0;have f1 := HK3.out.soft 1;have f2 := HK3.out.soft 2;go_wp2_with fail
       obtain ⟨hk9, hb9⟩ := blk3_set HK3.out HBW.out (by omega) (.slice none 0 0) (.int .i64 0) (.int .i64 0);generalize (((w3.setCell ⟨w.heap.size + 2, 0, none⟩ (.slice none 0 0)).setCell ⟨w.heap.size + 2, 1, none⟩ (.int .i64 0)).setCell ⟨w.heap.size + 2, 2, none⟩ (.int .i64 0)) = w9 at hk9 hb9 ⊢;obtain ⟨d0, d1, d2⟩ := blk3 hk9;refine bodyPost_ret (v := .tuple #[.agg #[.slice none 0 0, .int .i64 0, .int .i64 0], .bool false]) (by simp [results, Tryz.results107, go_sem, d0, d1, d2]) rfl ?_;rw [HR.out];exact ⟨none, 0, 0, rfl, Rs.nil_ _, hb9, fun _ _ h => by cases h⟩
end Go.Proofs.YtkejjdoaljoooaaGreatDoor
/- attr.Take and TakeOld of any item. -/
namespace Go.Proofs.YtkejjdoaljoooaaGreatDoor
open Lib (hid)
open Go.RowKit Mem Ids Att Cod
def Four (w : World) (g o : Nat) (y : It) (A : Option Addr) (c : Nat) : Prop :=
 w.cell? ⟨g, o, none⟩ = some (.int .i64 y.kind) ∧ w.cell? ⟨g, o + 1, none⟩ = some (.int .u64 (y.num : Int)) ∧ w.cell? ⟨g, o + 2, none⟩ = some (.string y.str) ∧ w.cell? ⟨g, o + 3, none⟩ = some (.slice A y.kids.length c)
theorem Four.bel {w w' : World} {g o : Nat} {y : It} {A : Option Addr} {c : Nat} (h : Four w g o y A c) (hg : g < w.heap.size) (hb : Below w.heap.size w w') : Four w' g o y A c :=
 ⟨(hb.cell (p := ⟨g, o, none⟩) hg).trans h.1, (hb.cell (p := ⟨g, o + 1, none⟩) hg).trans h.2.1, (hb.cell (p := ⟨g, o + 2, none⟩) hg).trans h.2.2.1, (hb.cell (p := ⟨g, o + 3, none⟩) hg).trans h.2.2.2⟩
theorem Four.far {w : World} {g o r : Nat} {y : It} {A : Option Addr} {c : Nat} (h : Four w g o y A c) (hg : g ≠ r) (u v x : Value) : Four (((w.setCell ⟨r, 0, none⟩ u).setCell ⟨r, 1, none⟩ v).setCell ⟨r, 2, none⟩ x) g o y A c := by
 have hk : ∀ p : Addr, p.block = g → (((w.setCell ⟨r, 0, none⟩ u).setCell ⟨r, 1, none⟩ v).setCell ⟨r, 2, none⟩ x).cell? p = w.cell? p := fun p hp => by
  have hne : p.block ≠ r := by rw [hp]; exact hg
  exact World.cell?_of_block (((Below.heap_setCell _ ⟨r, 2, none⟩ x _ hne).trans (Below.heap_setCell _ ⟨r, 1, none⟩ v _ hne)).trans (Below.heap_setCell _ ⟨r, 0, none⟩ u _ hne))
 exact ⟨(hk ⟨g, o, none⟩ rfl).trans h.1, (hk ⟨g, o + 1, none⟩ rfl).trans h.2.1, (hk ⟨g, o + 2, none⟩ rfl).trans h.2.2.1, (hk ⟨g, o + 3, none⟩ rfl).trans h.2.2.2⟩
theorem kid_at {w : World} {S : Nat → Prop} {x y : It} {A : Option Addr} {c i : Nat} (h : Lies w S x A c) (hy : x.kids[i]? = some y) :
 ∃ g o A' c', A = some ⟨g, o, none⟩ ∧ S g ∧ g < w.heap.size ∧ Four w g (o + i * 4) y A' c' ∧ Lies w S y A' c' := by
 obtain ⟨hi, rfl⟩ := List.getElem?_eq_some_iff.1 hy;obtain ⟨g, o, A', c', e, hS, hg, h0, h1, h2, h3, hl⟩ := lies_kid h hi;exact ⟨g, o, A', c', e, hS, hg, ⟨h0, h1, h2, h3⟩, hl⟩
theorem kids2 {w : World} {S : Nat → Prop} {x s d : It} {A : Option Addr} {c : Nat} (h : Lies w S x A c) (hk : x.kids = [s, d]) :
 ∃ g o A1 c1 A2 c2, A = some ⟨g, o, none⟩ ∧ S g ∧ g < w.heap.size ∧ Four w g o s A1 c1 ∧ Four w g (o + 4) d A2 c2 ∧ Lies w S s A1 c1 ∧ Lies w S d A2 c2 := by
 obtain ⟨g, o, A1, c1, e, hS, hg, f1, l1⟩ := kid_at h (show x.kids[0]? = some s by rw [hk]; rfl);obtain ⟨g', o', A2, c2, e', _, _, f2, l2⟩ := kid_at h (show x.kids[1]? = some d by rw [hk]; rfl);rw [e] at e';injection e' with e';injection e' with e1 e2;subst e1; subst e2;exact ⟨g, o, A1, c1, A2, c2, e, hS, hg, f1, f2, l1, l2⟩
theorem kids3 {w : World} {S : Nat → Prop} {x t s d : It} {A : Option Addr} {c : Nat} (h : Lies w S x A c) (hk : x.kids = [t, s, d]) :
 ∃ g o A0 c0 A1 c1 A2 c2, A = some ⟨g, o, none⟩ ∧ S g ∧ g < w.heap.size ∧ Four w g o t A0 c0 ∧ Four w g (o + 4) s A1 c1 ∧ Four w g (o + 8) d A2 c2 ∧ Lies w S t A0 c0 ∧ Lies w S s A1 c1 ∧ Lies w S d A2 c2 := by
 obtain ⟨g, o, A0, c0, e, hS, hg, f0, l0⟩ := kid_at h (show x.kids[0]? = some t by rw [hk]; rfl);obtain ⟨g', o', A1, c1, e', _, _, f1, l1⟩ := kid_at h (show x.kids[1]? = some s by rw [hk]; rfl);obtain ⟨g2, o2, A2, c2, e2, _, _, f2, l2⟩ := kid_at h (show x.kids[2]? = some d by rw [hk]; rfl);rw [e] at e' e2;injection e' with e';injection e' with a1 a2;injection e2 with e2;injection e2 with b1 b2;subst a1; subst a2; subst b1; subst b2;exact ⟨g, o, A0, c0, A1, c1, A2, c2, e, hS, hg, f0, f1, f2, l0, l1, l2⟩
theorem parts_any (x : It) (A : Option Addr) (c k : Nat) (w : World) :
 (isList x = true → Calls Tryz.prog 106 #[.agg #[.int .i64 x.kind, .int .u64 (x.num : Int), .string x.str, .slice A x.kids.length c], .int .i64 (k : Int)] w (Parts (.slice A x.kids.length c) (decide (x.kids.length = k)) w)) ∧
 (isList x = false → Calls Tryz.prog 106 #[.agg #[.int .i64 x.kind, .int .u64 (x.num : Int), .string x.str, .slice A x.kids.length c], .int .i64 (k : Int)] w (Parts (.slice none 0 0) false w)) := by
 constructor
 · intro h
   obtain ⟨h1, h2, h3⟩ := of_decide_eq_true h;rw [h1, h2, h3];exact parts_list A x.kids.length c k w
 · intro h
   exact parts_no x.kind x.num x.str A x.kids.length c k w fun h' => of_decide_eq_false h ⟨h'.1, by omega, h'.2.2⟩
theorem held8 {W w' : World} {g o o' : Nat} {y z : It} {A A' : Option Addr} {c c' : Nat} (h : Four W g o y A c) (h' : Four W g o' z A' c') (hg : g < W.heap.size) (hb : Below W.heap.size W w') : w'.cell? ⟨g, o, none⟩ = some (.int .i64 y.kind) ∧ w'.cell? ⟨g, o + 1, none⟩ = some (.int .u64 (y.num : Int)) ∧ w'.cell? ⟨g, o + 2, none⟩ = some (.string y.str) ∧ w'.cell? ⟨g, o + 3, none⟩ = some (.slice A y.kids.length c) ∧ w'.cell? ⟨g, o', none⟩ = some (.int .i64 z.kind) ∧ w'.cell? ⟨g, o' + 1, none⟩ = some (.int .u64 (z.num : Int)) ∧ w'.cell? ⟨g, o' + 2, none⟩ = some (.string z.str) ∧ w'.cell? ⟨g, o' + 3, none⟩ = some (.slice A' z.kids.length c') :=
 have k := h.bel hg hb;have k' := h'.bel hg hb
 ⟨k.1, k.2.1, k.2.2.1, k.2.2.2, k'.1, k'.2.1, k'.2.2.1, k'.2.2.2⟩
theorem held8s {W w' : World} {g o o' r : Nat} {y z : It} {A A' : Option Addr} {c c' : Nat} (h : Four W g o y A c) (h' : Four W g o' z A' c') (hg : g < W.heap.size) (hb : Below W.heap.size W w') (hr : g ≠ r) (u v x : Value) :
 (((w'.setCell ⟨r, 0, none⟩ u).setCell ⟨r, 1, none⟩ v).setCell ⟨r, 2, none⟩ x).cell? ⟨g, o, none⟩ = some (.int .i64 y.kind) ∧ (((w'.setCell ⟨r, 0, none⟩ u).setCell ⟨r, 1, none⟩ v).setCell ⟨r, 2, none⟩ x).cell? ⟨g, o + 1, none⟩ = some (.int .u64 (y.num : Int)) ∧ (((w'.setCell ⟨r, 0, none⟩ u).setCell ⟨r, 1, none⟩ v).setCell ⟨r, 2, none⟩ x).cell? ⟨g, o + 2, none⟩ = some (.string y.str) ∧ (((w'.setCell ⟨r, 0, none⟩ u).setCell ⟨r, 1, none⟩ v).setCell ⟨r, 2, none⟩ x).cell? ⟨g, o + 3, none⟩ = some (.slice A y.kids.length c) ∧ (((w'.setCell ⟨r, 0, none⟩ u).setCell ⟨r, 1, none⟩ v).setCell ⟨r, 2, none⟩ x).cell? ⟨g, o', none⟩ = some (.int .i64 z.kind) ∧ (((w'.setCell ⟨r, 0, none⟩ u).setCell ⟨r, 1, none⟩ v).setCell ⟨r, 2, none⟩ x).cell? ⟨g, o' + 1, none⟩ = some (.int .u64 (z.num : Int)) ∧ (((w'.setCell ⟨r, 0, none⟩ u).setCell ⟨r, 1, none⟩ v).setCell ⟨r, 2, none⟩ x).cell? ⟨g, o' + 2, none⟩ = some (.string z.str) ∧ (((w'.setCell ⟨r, 0, none⟩ u).setCell ⟨r, 1, none⟩ v).setCell ⟨r, 2, none⟩ x).cell? ⟨g, o' + 3, none⟩ = some (.slice A' z.kids.length c') :=
 have k := (h.bel hg hb).far hr u v x;have k' := (h'.bel hg hb).far hr u v x
 ⟨k.1, k.2.1, k.2.2.1, k.2.2.2, k'.1, k'.2.1, k'.2.2.1, k'.2.2.2⟩
set_option maxRecDepth 100000 in
set_option maxHeartbeats 4000000 in
theorem atttake_any (x : It) (A : Option Addr) (c : Nat) (S : Nat → Prop) (w : World) (hx : Lies w S x A c) (hS : ∀ b, S b → b < w.heap.size) :
 Calls Tryz.prog 60 #[.agg #[.int .i64 x.kind, .int .u64 (x.num : Int), .string x.str, .slice A x.kids.length c]] w (TakesAt w (attTake x)) := by
 obtain ⟨W, hW⟩ : ∃ W, (w.alloc (.cells #[.int .i64 x.kind, .int .u64 (x.num : Int), .string x.str, .slice A x.kids.length c] 95)).alloc (.cells #[.slice none 0 0, .int .i64 0, .int .i64 0] 41) = W := ⟨_, rfl⟩
 obtain ⟨k1, k2, kb, hsW⟩ := two_kinds w _ _ _ _ W hW;have HK3 := hid k2;have HBW := hid kb;have HLX := hid (hx.below kb hS);have HSS := hid hS;have HW := hid hW;obtain ⟨p0, p1, p2, p3⟩ := blk4 k1;have hp := fun w => parts_any x A c 3 w;clear k1 k2 kb hx hS hW;cases hl : isList x with
 | false =>
   have hR : attTake x = none := (att_notlist hl).1;have HR := hid hR;have H1 := hid (fun w => (hp w).2 hl);clear hR hp hl;go_enter Tryz.func60, Tryz.ntmps60
   go_upto_region 1 with fail
   rw [HW.out];clear HW;go_wp2_with fail
   refine (H1.out _).mono ?_;rintro e w1 ⟨rfl, hb1⟩;replace HK3 := hid (HK3.out.bel hb1);replace HBW := hid (bel_trans HBW.out hb1);clear hb1 H1 p0 p1 p2 p3;obtain ⟨z0, z1, z2⟩ := blk3 HK3.out;have f0 := HK3.out.soft 0;have f1 := HK3.out.soft 1;have f2 := HK3.out.soft 2;go_wp2_with fail
   obtain ⟨hk9, hb9⟩ := blk3_set HK3.out HBW.out (by omega) (.slice none 0 0) (.int .i64 0) (.int .i64 0);generalize (((w1.setCell ⟨w.heap.size + 1, 0, none⟩ (.slice none 0 0)).setCell ⟨w.heap.size + 1, 1, none⟩ (.int .i64 0)).setCell ⟨w.heap.size + 1, 2, none⟩ (.int .i64 0)) = w9 at hk9 hb9 ⊢;obtain ⟨d0, d1, d2⟩ := blk3 hk9;refine bodyPost_ret (v := .tuple #[.agg #[.slice none 0 0, .int .i64 0, .int .i64 0], .bool false]) (by simp [results, Tryz.results60, go_sem, d0, d1, d2]) rfl ?_;rw [HR.out];exact ⟨none, 0, 0, rfl, Rs.nil_ _, hb9, fun _ _ h => by cases h⟩
 | true =>
   by_cases hn : x.kids.length = 3
   case neg =>
    have hR : attTake x = none := att_short hn;have HR := hid hR;have h1 := fun w => (hp w).1 hl;rw [decide_eq_false hn] at h1;have H1 := hid h1;clear hR hp hl h1 hn;go_enter Tryz.func60, Tryz.ntmps60
    go_upto_region 1 with fail
    rw [HW.out];clear HW;go_wp2_with fail
    refine (H1.out _).mono ?_;rintro e w1 ⟨rfl, hb1⟩;replace HK3 := hid (HK3.out.bel hb1);replace HBW := hid (bel_trans HBW.out hb1);clear hb1 H1 p0 p1 p2 p3;obtain ⟨z0, z1, z2⟩ := blk3 HK3.out;have f0 := HK3.out.soft 0;have f1 := HK3.out.soft 1;have f2 := HK3.out.soft 2;go_wp2_with fail
    obtain ⟨hk9, hb9⟩ := blk3_set HK3.out HBW.out (by omega) (.slice none 0 0) (.int .i64 0) (.int .i64 0);generalize (((w1.setCell ⟨w.heap.size + 1, 0, none⟩ (.slice none 0 0)).setCell ⟨w.heap.size + 1, 1, none⟩ (.int .i64 0)).setCell ⟨w.heap.size + 1, 2, none⟩ (.int .i64 0)) = w9 at hk9 hb9 ⊢;obtain ⟨d0, d1, d2⟩ := blk3 hk9;refine bodyPost_ret (v := .tuple #[.agg #[.slice none 0 0, .int .i64 0, .int .i64 0], .bool false]) (by simp [results, Tryz.results60, go_sem, d0, d1, d2]) rfl ?_;rw [HR.out];exact ⟨none, 0, 0, rfl, Rs.nil_ _, hb9, fun _ _ h => by cases h⟩
   obtain ⟨t, s, d, hk⟩ : ∃ t s d, x.kids = [t, s, d] := by
    match x.kids, hn with
    | [t, s, d], _ => exact ⟨t, s, d, rfl⟩
   have hR := att_three hl hk;have h1 := fun w => (hp w).1 hl;rw [decide_eq_true hn, hn] at h1;rw [hn] at p3 HW ⊢;obtain ⟨g, o, A0, c0, A1, c1, A2, c2, rfl, hSg, hg, f0, f1, f2, l0, l1, l2⟩ := kids3 HLX.out hk;have hgw := HSS.out g hSg;have H1 := hid h1;have HF1 := hid f1;have HF2 := hid f2;have HL2 := hid l2;have HT := hid (fun w (h : Lies w S d A2 c2) (hS : ∀ b, S b → b < w.heap.size) => taken_any (numOf t) s d A1 A2 c1 c2 S w h hS);have HF0 := hid f0;have h2 := fun w => number_any t A0 c0 w;have hr2 : isNum t = true → attTake x = takenOf (numOf t) s d := fun h => (by rw [hR, if_pos h, numOf, if_pos h]);have hr3 : isNum t = false → attTake x = none := fun h => (by rw [hR, if_neg (by simp [h])]);clear hR l0 f0;generalize numOf t = v at h2 hr2 HT;generalize takenOf v s d = Q at hr2 HT;generalize isNum t = r at h2 hr2 hr3;have H2 := hid h2;have HR2 := hid hr2;have HR3 := hid hr3;clear h2 hr2 hr3;clear hp h1 l1 l2 f1 f2 hk hn HLX hl;generalize attTake x = R at HR2 HR3 ⊢;go_enter Tryz.func60, Tryz.ntmps60
   go_upto_region 1 with fail
   rw [HW.out];clear HW;go_wp2_with fail
   refine (H1.out _).mono ?_;rintro e w1 ⟨rfl, hb1⟩;have hs1 := hb1.size;replace HF0 := hid (HF0.out.bel (by omega) hb1);replace HF1 := hid (HF1.out.bel (by omega) hb1);replace HF2 := hid (HF2.out.bel (by omega) hb1);replace HL2 := hid (HL2.out.below hb1 fun b hb => by have := HSS.out b hb; omega);replace HK3 := hid (HK3.out.bel hb1);replace HBW := hid (bel_trans HBW.out hb1);clear hb1 H1 p0 p1 p2 p3;obtain ⟨t0, t1, t2, t3⟩ := HF0.out;go_wp2_with fail
   refine (H2.out _).mono ?_;rintro e w2 ⟨rfl, hb1⟩;have hs2 := hb1.size;replace HF1 := hid (HF1.out.bel (by omega) hb1);replace HF2 := hid (HF2.out.bel (by omega) hb1);replace HL2 := hid (HL2.out.below hb1 fun b hb => by have := HSS.out b hb; omega);replace HK3 := hid (HK3.out.bel hb1);replace HBW := hid (bel_trans HBW.out hb1);clear hb1 H2 t0 t1 t2 t3 HF0;cases r with
   | false =>
     have hR := HR3.out rfl;have HR := hid hR;clear hR HR2 HR3;obtain ⟨z0, z1, z2⟩ := blk3 HK3.out;have f0 := HK3.out.soft 0;have f1 := HK3.out.soft 1;have f2 := HK3.out.soft 2;go_wp2_with fail
     obtain ⟨hk9, hb9⟩ := blk3_set HK3.out HBW.out (by omega) (.slice none 0 0) (.int .i64 0) (.int .i64 0);generalize (((w2.setCell ⟨w.heap.size + 1, 0, none⟩ (.slice none 0 0)).setCell ⟨w.heap.size + 1, 1, none⟩ (.int .i64 0)).setCell ⟨w.heap.size + 1, 2, none⟩ (.int .i64 0)) = w9 at hk9 hb9 ⊢;obtain ⟨d0, d1, d2⟩ := blk3 hk9;refine bodyPost_ret (v := .tuple #[.agg #[.slice none 0 0, .int .i64 0, .int .i64 0], .bool false]) (by simp [results, Tryz.results60, go_sem, d0, d1, d2]) rfl ?_;rw [HR.out];exact ⟨none, 0, 0, rfl, Rs.nil_ _, hb9, fun _ _ h => by cases h⟩
   | true =>
   have HR := hid (HR2.out rfl);clear HR2 HR3;have hgc : g < w2.heap.size := (by omega);have hle : w.heap.size + 2 ≤ w2.heap.size := (by omega);have HCUR := hid (Below.drew (Below.refl w2.heap.size w2));have HG := hid (show g ≠ w.heap.size + 1 by omega);obtain ⟨m0, m1, m2, m3⟩ := HF1.out;obtain ⟨n0, n1, n2, n3⟩ := HF2.out;go_wp2_with fail
   go_region_held3 (fun w' => w'.cell? ⟨g, o + 4, none⟩ = some (.int .i64 s.kind) ∧ w'.cell? ⟨g, o + 4 + 1, none⟩ = some (.int .u64 (s.num : Int)) ∧ w'.cell? ⟨g, o + 4 + 2, none⟩ = some (.string s.str) ∧ w'.cell? ⟨g, o + 4 + 3, none⟩ = some (.slice A1 s.kids.length c1) ∧ w'.cell? ⟨g, o + 8, none⟩ = some (.int .i64 d.kind) ∧ w'.cell? ⟨g, o + 8 + 1, none⟩ = some (.int .u64 (d.num : Int)) ∧ w'.cell? ⟨g, o + 8 + 2, none⟩ = some (.string d.str) ∧ w'.cell? ⟨g, o + 8 + 3, none⟩ = some (.slice A2 d.kids.length c2)) (first | with_reducible exact held8 HF1.out HF2.out hgc HCUR.out | exact held8s HF1.out HF2.out hgc HCUR.out HG.out _ _ _)
    (first
    | (go_at_call 107
       refine (HT.out _ (HL2.out.below HCUR.out fun b hb => by have := HSS.out b hb; omega) fun b hb => by have := HSS.out b hb; have := HCUR.out.size; omega).mono ?_;rintro e w5 ⟨V, n, cc, rfl, hrs, hb5, hnew⟩;have hnow := HCUR.out.trans (hb5.mono HCUR.out.size);have HNEW := hid (show ∀ g o, V = some ⟨g, o, none⟩ → w2.heap.size ≤ g from fun g o e => Nat.le_trans HCUR.out.size (hnew g o e));replace HCUR := hid hnow;have hk3 := HK3.out.bel hnow;obtain ⟨z0, z1, z2⟩ := blk3 hk3;have y0 := hk3.soft 0;have y1 := hk3.soft 1;have y2 := hk3.soft 2;have HRS := hid hrs;clear hb5 hnow hnew hrs HT hk3))
   all_goals
    have hrs9 := Rs.set3n (r := w.heap.size + 1) HRS.out HNEW.out (by omega) (.slice V n cc) (.int .i64 (Q.getD zeroAt).sq) (.int .i64 (Q.getD zeroAt).tg);obtain ⟨hk9, hb9⟩ := blk3_set (g := w.heap.size + 1) (HK3.out.bel HCUR.out) (bel_trans HBW.out HCUR.out) (by omega) (.slice V n cc) (.int .i64 (Q.getD zeroAt).sq) (.int .i64 (Q.getD zeroAt).tg);generalize (((w5.setCell ⟨w.heap.size + 1, 0, none⟩ (.slice V n cc)).setCell ⟨w.heap.size + 1, 1, none⟩ (.int .i64 (Q.getD zeroAt).sq)).setCell ⟨w.heap.size + 1, 2, none⟩ (.int .i64 (Q.getD zeroAt).tg)) = w9 at hk9 hb9 hrs9 ⊢;obtain ⟨d0, d1, d2⟩ := blk3 hk9;go_wp2_with fail
    refine bodyPost_ret (v := .tuple #[.agg #[.slice V n cc, .int .i64 (Q.getD zeroAt).sq, .int .i64 (Q.getD zeroAt).tg], .bool Q.isSome]) (by simp [results, Tryz.results60, go_sem, d0, d1, d2]) rfl ?_;rw [HR.out];exact ⟨V, n, cc, rfl, hrs9, hb9, fun g o e => by have := HNEW.out g o e; omega⟩
set_option maxRecDepth 100000 in
set_option maxHeartbeats 4000000 in
theorem oldtake_any (x : It) (A : Option Addr) (c : Nat) (S : Nat → Prop) (w : World) (hx : Lies w S x A c) (hS : ∀ b, S b → b < w.heap.size) :
 Calls Tryz.prog 57 #[.agg #[.int .i64 x.kind, .int .u64 (x.num : Int), .string x.str, .slice A x.kids.length c]] w (TakesAt w (oldTake x)) := by
 obtain ⟨W, hW⟩ : ∃ W, (w.alloc (.cells #[.int .i64 x.kind, .int .u64 (x.num : Int), .string x.str, .slice A x.kids.length c] 95)).alloc (.cells #[.slice none 0 0, .int .i64 0, .int .i64 0] 41) = W := ⟨_, rfl⟩
 obtain ⟨k1, k2, kb, hsW⟩ := two_kinds w _ _ _ _ W hW;have HK3 := hid k2;have HBW := hid kb;have HLX := hid (hx.below kb hS);have HSS := hid hS;have HW := hid hW;obtain ⟨p0, p1, p2, p3⟩ := blk4 k1;have hp := fun w => parts_any x A c 2 w;clear k1 k2 kb hx hS hW;cases hl : isList x with
 | false =>
   have hR : oldTake x = none := (att_notlist hl).2;have HR := hid hR;have H1 := hid (fun w => (hp w).2 hl);clear hR hp hl;go_enter Tryz.func57, Tryz.ntmps57
   go_upto_region 1 with fail
   rw [HW.out];clear HW;go_wp2_with fail
   refine (H1.out _).mono ?_;rintro e w1 ⟨rfl, hb1⟩;replace HK3 := hid (HK3.out.bel hb1);replace HBW := hid (bel_trans HBW.out hb1);clear hb1 H1 p0 p1 p2 p3;obtain ⟨z0, z1, z2⟩ := blk3 HK3.out;have f0 := HK3.out.soft 0;have f1 := HK3.out.soft 1;have f2 := HK3.out.soft 2;go_wp2_with fail
   obtain ⟨hk9, hb9⟩ := blk3_set HK3.out HBW.out (by omega) (.slice none 0 0) (.int .i64 0) (.int .i64 0);generalize (((w1.setCell ⟨w.heap.size + 1, 0, none⟩ (.slice none 0 0)).setCell ⟨w.heap.size + 1, 1, none⟩ (.int .i64 0)).setCell ⟨w.heap.size + 1, 2, none⟩ (.int .i64 0)) = w9 at hk9 hb9 ⊢;obtain ⟨d0, d1, d2⟩ := blk3 hk9;refine bodyPost_ret (v := .tuple #[.agg #[.slice none 0 0, .int .i64 0, .int .i64 0], .bool false]) (by simp [results, Tryz.results57, go_sem, d0, d1, d2]) rfl ?_;rw [HR.out];exact ⟨none, 0, 0, rfl, Rs.nil_ _, hb9, fun _ _ h => by cases h⟩
 | true =>
   by_cases hn : x.kids.length = 2
   case neg =>
    have hR : oldTake x = none := old_short hn;have HR := hid hR;have h1 := fun w => (hp w).1 hl;rw [decide_eq_false hn] at h1;have H1 := hid h1;clear hR hp hl h1 hn;go_enter Tryz.func57, Tryz.ntmps57
    go_upto_region 1 with fail
    rw [HW.out];clear HW;go_wp2_with fail
    refine (H1.out _).mono ?_;rintro e w1 ⟨rfl, hb1⟩;replace HK3 := hid (HK3.out.bel hb1);replace HBW := hid (bel_trans HBW.out hb1);clear hb1 H1 p0 p1 p2 p3;obtain ⟨z0, z1, z2⟩ := blk3 HK3.out;have f0 := HK3.out.soft 0;have f1 := HK3.out.soft 1;have f2 := HK3.out.soft 2;go_wp2_with fail
    obtain ⟨hk9, hb9⟩ := blk3_set HK3.out HBW.out (by omega) (.slice none 0 0) (.int .i64 0) (.int .i64 0);generalize (((w1.setCell ⟨w.heap.size + 1, 0, none⟩ (.slice none 0 0)).setCell ⟨w.heap.size + 1, 1, none⟩ (.int .i64 0)).setCell ⟨w.heap.size + 1, 2, none⟩ (.int .i64 0)) = w9 at hk9 hb9 ⊢;obtain ⟨d0, d1, d2⟩ := blk3 hk9;refine bodyPost_ret (v := .tuple #[.agg #[.slice none 0 0, .int .i64 0, .int .i64 0], .bool false]) (by simp [results, Tryz.results57, go_sem, d0, d1, d2]) rfl ?_;rw [HR.out];exact ⟨none, 0, 0, rfl, Rs.nil_ _, hb9, fun _ _ h => by cases h⟩
   obtain ⟨s, d, hk⟩ : ∃ s d, x.kids = [s, d] := by
    match x.kids, hn with
    | [s, d], _ => exact ⟨s, d, rfl⟩
   have hR := old_two hl hk;have h1 := fun w => (hp w).1 hl;rw [decide_eq_true hn, hn] at h1;rw [hn] at p3 HW ⊢;obtain ⟨g, o, A1, c1, A2, c2, rfl, hSg, hg, f1, f2, l1, l2⟩ := kids2 HLX.out hk;have hgw := HSS.out g hSg;have H1 := hid h1;have HF1 := hid f1;have HF2 := hid f2;have HL2 := hid l2;have HT := hid (fun w (h : Lies w S d A2 c2) (hS : ∀ b, S b → b < w.heap.size) => taken_any 1 s d A1 A2 c1 c2 S w h hS);generalize takenOf 1 s d = Q at hR HT;have HR := hid hR;clear hR;clear hp h1 l1 l2 f1 f2 hk hn HLX hl;generalize oldTake x = R at HR ⊢;go_enter Tryz.func57, Tryz.ntmps57
   go_upto_region 1 with fail
   rw [HW.out];clear HW;go_wp2_with fail
   refine (H1.out _).mono ?_;rintro e w1 ⟨rfl, hb1⟩;have hs1 := hb1.size;replace HF1 := hid (HF1.out.bel (by omega) hb1);replace HF2 := hid (HF2.out.bel (by omega) hb1);replace HL2 := hid (HL2.out.below hb1 fun b hb => by have := HSS.out b hb; omega);replace HK3 := hid (HK3.out.bel hb1);replace HBW := hid (bel_trans HBW.out hb1);clear hb1 H1 p0 p1 p2 p3;have hgc : g < w1.heap.size := (by omega);have hle : w.heap.size + 2 ≤ w1.heap.size := (by omega);have HCUR := hid (Below.drew (Below.refl w1.heap.size w1));have HG := hid (show g ≠ w.heap.size + 1 by omega);obtain ⟨m0, m1, m2, m3⟩ := HF1.out;obtain ⟨n0, n1, n2, n3⟩ := HF2.out;go_wp2_with fail
   go_region_held3 (fun w' => w'.cell? ⟨g, o, none⟩ = some (.int .i64 s.kind) ∧ w'.cell? ⟨g, o + 1, none⟩ = some (.int .u64 (s.num : Int)) ∧ w'.cell? ⟨g, o + 2, none⟩ = some (.string s.str) ∧ w'.cell? ⟨g, o + 3, none⟩ = some (.slice A1 s.kids.length c1) ∧ w'.cell? ⟨g, o + 4, none⟩ = some (.int .i64 d.kind) ∧ w'.cell? ⟨g, o + 4 + 1, none⟩ = some (.int .u64 (d.num : Int)) ∧ w'.cell? ⟨g, o + 4 + 2, none⟩ = some (.string d.str) ∧ w'.cell? ⟨g, o + 4 + 3, none⟩ = some (.slice A2 d.kids.length c2)) (first | with_reducible exact held8 HF1.out HF2.out hgc HCUR.out | exact held8s HF1.out HF2.out hgc HCUR.out HG.out _ _ _)
    (first
    | (go_at_call 107
       refine (HT.out _ (HL2.out.below HCUR.out fun b hb => by have := HSS.out b hb; omega) fun b hb => by have := HSS.out b hb; have := HCUR.out.size; omega).mono ?_;rintro e w5 ⟨V, n, cc, rfl, hrs, hb5, hnew⟩;have hnow := HCUR.out.trans (hb5.mono HCUR.out.size);have HNEW := hid (show ∀ g o, V = some ⟨g, o, none⟩ → w1.heap.size ≤ g from fun g o e => Nat.le_trans HCUR.out.size (hnew g o e));replace HCUR := hid hnow;have hk3 := HK3.out.bel hnow;obtain ⟨z0, z1, z2⟩ := blk3 hk3;have y0 := hk3.soft 0;have y1 := hk3.soft 1;have y2 := hk3.soft 2;have HRS := hid hrs;clear hb5 hnow hnew hrs HT hk3))
   all_goals
    have hrs9 := Rs.set3n (r := w.heap.size + 1) HRS.out HNEW.out (by omega) (.slice V n cc) (.int .i64 (Q.getD zeroAt).sq) (.int .i64 (Q.getD zeroAt).tg);obtain ⟨hk9, hb9⟩ := blk3_set (g := w.heap.size + 1) (HK3.out.bel HCUR.out) (bel_trans HBW.out HCUR.out) (by omega) (.slice V n cc) (.int .i64 (Q.getD zeroAt).sq) (.int .i64 (Q.getD zeroAt).tg);generalize (((w5.setCell ⟨w.heap.size + 1, 0, none⟩ (.slice V n cc)).setCell ⟨w.heap.size + 1, 1, none⟩ (.int .i64 (Q.getD zeroAt).sq)).setCell ⟨w.heap.size + 1, 2, none⟩ (.int .i64 (Q.getD zeroAt).tg)) = w9 at hk9 hb9 hrs9 ⊢;obtain ⟨d0, d1, d2⟩ := blk3 hk9;go_wp2_with fail
    refine bodyPost_ret (v := .tuple #[.agg #[.slice V n cc, .int .i64 (Q.getD zeroAt).sq, .int .i64 (Q.getD zeroAt).tg], .bool Q.isSome]) (by simp [results, Tryz.results57, go_sem, d0, d1, d2]) rfl ?_;rw [HR.out];exact ⟨V, n, cc, rfl, hrs9, hb9, fun g o e => by have := HNEW.out g o e; omega⟩
end Go.Proofs.YtkejjdoaljoooaaGreatDoor
