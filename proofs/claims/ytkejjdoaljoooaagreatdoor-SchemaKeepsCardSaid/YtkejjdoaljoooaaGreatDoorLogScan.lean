/-
  Texts of earlier layers, as one.
-/
import Derived.Test.YtkejjdoaljoooaaGreatDoorLogFirst
import Derived.RangeFuncNested
import Derived.RangeFuncBound
import Derived.RangeFuncCalls
import Derived.RangeFuncLeaves
import Derived.Shelf.Abstract
import Derived.Shelf.RegionOpen
import Derived.OwnWalkIn
import Derived.TacticsInMore
import Derived.LoopNIn
import Derived.LoopIn
import Derived.Test.YtkejjdoaljoooaaGreatDoorDskKey
import Derived.RangeFuncBox
import Derived.Maps.AppendAt
import Derived.Test.YtkejjdoaljoooaaGreatDoorLogHave
import Derived.StillTailTactics
/- The program's records, as a range over a function: each record's piece of the bytes, and the place behind its form. -/
namespace Go.Proofs.YtkejjdoaljoooaaGreatDoor.Lg
open Lib (hid)
open Go.RowKit Mem Go.Shelf
attribute [local go_sem] Oper.semAt_some
structure Pc where
 V : Option Addr
 k : Nat
 p : List Nat
 e : Nat
def Pc.vals (x : Pc) : Array Value := #[.slice x.V x.p.length x.k, .int .i64 (x.e : Int)]
def PcOk (w : World) (x : Pc) : Prop := Rd w x.V x.p.length x.k (cs x.p) ∧ (∀ b ∈ x.p, b < 256) ∧ x.p.length ≤ 1048576 ∧ x.e ≤ 70368744177664
abbrev Piece (w : World) := { x : Pc // PcOk w x }
def lastE {w : World} (pre : List (Piece w)) : Nat := match pre.getLast? with | none => 0 | some x => x.1.e
def recs {w : World} (pre : List (Piece w)) : List (List Nat) := pre.map (·.1.p)
theorem lastE_snoc {w : World} (pre : List (Piece w)) (x : Piece w) : lastE (pre ++ [x]) = x.1.e := by simp [lastE]
theorem recs_snoc {w : World} (pre : List (Piece w)) (x : Piece w) : recs (pre ++ [x]) = recs pre ++ [x.1.p] := by simp [recs]
def Kp (n₀ Bs : Nat) (W W' : World) : Prop := Below n₀ W W' ∧ ∀ v, W.cell? ⟨Bs, 0, none⟩ = some v → W'.cell? ⟨Bs, 0, none⟩ = some v
theorem kp_t {n₀ Bs : Nat} {A B C : World} (h : Kp n₀ Bs A B) (k : Kp n₀ Bs B C) : Kp n₀ Bs A C := ⟨h.1.trans k.1, fun v hv => k.2 v (h.2 v hv)⟩
theorem kp_b {n₀ Bs : Nat} {w : World} (hn : n₀ ≤ w.heap.size) (W : World) (l : Nat) (o o' : Obj) (hl : w.heap.size ≤ l) (h : W.heap[l]? = some o) (ho : o.isCells = false) (hw : o.isWalk = false) : Kp n₀ Bs W (W.putObj l o') :=
 ⟨belowK_b hn W l o o' hl h ho hw, fun v hv => cell_kept hv (grownBy_putObj' W l o') (fun r e => by cases e; exact ⟨o, h, ho⟩)⟩
set_option maxRecDepth 100000 in
set_option maxHeartbeats 2000000 in
theorem recs1_in (n : Nat) (hn : 1 ≤ n) (w : World) (ht : Cr.Tab w) (A : Option Addr) (m c : Nat) (b : List Nat) (l : List (List Nat)) (r : List Nat) (hr : Rd w A m c (cs b)) (hb : ∀ x ∈ b, x < 256) (hm : m ≤ 70368744177664) (hrd : Reads b l r)
 (lk Bs : Nat) (J Jx : List (Piece w) → World → Prop) (W : World) (hW : Below w.heap.size w W) (hJ : AbidesFrom W.heap.size J)
 (hY : ∀ pre x W1, J pre W1 → pre.length < l.length → YieldAt Fence.wide (n - 1) Tryz.prog lk x.1.vals W1 fun e W' => (e = .returned (.bool true) ∧ J (pre ++ [x]) W' ∧ Kp w.heap.size Bs W1 W') ∨ (e = .returned (.bool false) ∧ Jx (pre ++ [x]) W'))
 (hBs : W.cell? ⟨Bs, 0, none⟩ = some (.slice A m c)) (h0 : J [] W) :
 CallsIn Fence.wide n Tryz.prog 127 #[.func (.yield lk) #[] #[], .pointer (some ⟨Bs, 0, none⟩)] W fun e W' => (∃ v, e = .returned v) ∧
  ((∃ ys : List (Piece w), (recs ys = l ∧ lastE ys = (forms l).length) ∧ J ys W') ∨ (∃ pre, True ∧ Jx pre W')) := by
 refine callsIn_of_wp Tryz.func127 rfl trivial ?_ rfl;simp only [Tryz.ntmps127, List.size_toArray, List.length_cons, List.length_nil, Nat.reduceAdd, Nat.reduceSub, Array.replicate_succ, Array.replicate_zero, List.push_toArray, List.append_toArray, List.nil_append, List.cons_append]
 gi_wp2
 gi_loopw [3] (fun at_ wr => ∃ (pre : List (Piece w)) (l2 : List (List Nat)), at_ = .int .i64 (lastE pre : Int) ∧ l = recs pre ++ l2 ∧ lastE pre = (forms (recs pre)).length ∧ J pre wr ∧ Kp w.heap.size Bs W wr)
  (fun i _ => m - (intOf i).toNat)
 case atStart => exact ⟨[], l, rfl, rfl, rfl, h0, ⟨Below.refl _ _, fun v hv => hv⟩⟩
 case round =>
  obtain ⟨pre, l2, rfl, hl2, hle, hJs, hkp⟩ := hrel;have hbl := hr.len;rw [length_cs] at hbl;have hwr := hW.trans hkp.1;have hrw := hr.below hwr;have hbe : b = forms (recs pre) ++ (forms l2 ++ r) := by rw [hrd.eq, hl2, forms_append, List.append_assoc]
  have ha : lastE pre ≤ m := by rw [hle, ← hbl, hbe, List.length_append]; omega
  have hdrop : b.drop (lastE pre) = forms l2 ++ r := by rw [hle, hbe, List.drop_left' rfl]
  have hcut := hrw.cut (k := lastE pre) ha;rw [cs_drop, hdrop] at hcut;have hsl : ∀ w, (Instr.slice 71 (.slice A m c) (some (.int .i64 ((lastE pre : Nat) : Int))) none none).run Tryz.prog w = .ok (.slice (cutA A c (lastE pre)) (m - lastE pre) (c - lastE pre)) w := fun w => run_cut 71 Tryz.underlying71 (fun w => by kernel_rfl) A m c (lastE pre) ha w;have hlt2 : ∀ x ∈ forms l2 ++ r, x < 256 := fun x hx => hb x (by rw [hbe]; exact List.mem_append_right _ hx);have hf := lfirst_any _ _ _ _ wr (ht.below hwr) hcut hlt2 (by omega);have hcell := hkp.2 _ hBs;have hJ2 : ∀ u, Below wr.heap.size wr u → J pre u := fun u hu => hJ pre wr u none hJs (Cod.below_gr hu none) (fun r e => by cases e);have hK2 : ∀ u, Below wr.heap.size wr u → Kp w.heap.size Bs W u := fun u hu => kp_t hkp ⟨hu.mono hwr.size, fun v hv => (hu.cell (World.block_lt_of_cell? _ _ hv)).trans hv⟩;have HJ2 := hid hJ2;have HK2 := hid hK2;have HLE := hid hle;cases l2 with
  | nil =>
    have hl3 : l = recs pre := (by rw [hl2, List.append_nil]);have hfn : first (forms [] ++ r) = none := hrd.no
    rw [hfn] at hf;have HF := hid hf;have HL3 := hid hl3;clear hf hl3 hfn hbe hdrop hcut hlt2 hJ2 hK2 hJs hkp hwr hrw hl2 hle hbl hr hb hrd;obtain ⟨a, hae⟩ : ∃ a, lastE pre = a := ⟨_, rfl⟩
    obtain ⟨VA, hVA⟩ : ∃ VA, cutA A c (lastE pre) = VA := ⟨_, rfl⟩
    rw [hVA] at HF hsl;rw [hae] at HF hsl ha ⊢;obtain ⟨vc, hvc⟩ : ∃ vc, c - a = vc := ⟨_, rfl⟩
    obtain ⟨vn, hvn⟩ : ∃ vn, m - a = vn := ⟨_, rfl⟩
    rw [hvc, hvn] at HF hsl;have HAE := hid hae;clear hVA hae hvc hvn;have hw1 : IntKind.i64.wrap ((a : Int) + 0) = (a : Int) := by simp only [IntKind.wrap_i64]; omega
    gi_wp2_with fail
    refine ⟨trivial, ?_⟩;refine (callsIn_wide.2 HF.out).mono ?_;rintro e u ⟨rfl, hu⟩;have HU := hid hu;clear hu
    gi_wp2_with fail
    refine ⟨fun _ h => (by cases h), ?_⟩
    gi_wp2_with fail
    refine bodyPost_ret (results_none rfl _ _ _) rfl ?_;exact ⟨⟨_, rfl⟩, .inl ⟨pre, ⟨HL3.out.symm, by rw [HL3.out, HLE.out]⟩, HJ2.out u HU.out⟩⟩
  | cons p l2 =>
    have hpl : p.length ≤ 1048576 := hrd.ok p (by rw [hl2]; simp);have hpb : ∀ x ∈ p, x < 256 := fun x hx => hlt2 x (by simp [forms, form, hx]);have hfs : first (forms (p :: l2) ++ r) = some p := by rw [forms, List.append_assoc]; exact first_form hpl _
    rw [hfs] at hf;have hfl := length_form p;have hbl2 : lastE pre + (form p).length ≤ m := (by rw [hle, ← hbl, hbe, forms, List.length_append, List.length_append, List.length_append]; omega);obtain ⟨h, hh⟩ : ∃ h, Num.size p.length + 4 = h := ⟨_, rfl⟩
    have hdp : (forms (p :: l2) ++ r).drop h = p ++ (forms l2 ++ r) := by
     rw [← hh, forms, List.append_assoc];unfold form;rw [← List.drop_drop, List.append_assoc, List.drop_left' (Num.length_put _), List.append_assoc];rfl
    have hcut0 := hr.cut (k := lastE pre) ha;rw [cs_drop, hdrop] at hcut0;have hpc := (hcut0.cut (k := h) (by omega)).take (k := p.length) (by omega);rw [cs_drop, cs_take, hdp, List.take_left' rfl] at hpc
    have hnx : (pre.length : Nat) < l.length := by
     have h1 : (recs pre).length = pre.length := (by simp [recs]);rw [hl2, List.length_append, h1, List.length_cons];omega
    obtain ⟨a, hae⟩ : ∃ a, lastE pre = a := ⟨_, rfl⟩
    obtain ⟨fl, hfe⟩ : ∃ fl, (form p).length = fl := ⟨_, rfl⟩
    rw [hae, hfe] at hbl2;rw [hae] at hpc hf hsl hle ha ⊢;obtain ⟨VA, hVA⟩ : ∃ VA, cutA A c a = VA := ⟨_, rfl⟩
    obtain ⟨vc, hvc⟩ : ∃ vc, c - a = vc := ⟨_, rfl⟩
    obtain ⟨vn, hvn⟩ : ∃ vn, m - a = vn := ⟨_, rfl⟩
    rw [hVA, hvc] at hpc;rw [hVA, hvc, hvn] at hf hsl;obtain ⟨XV, hXV⟩ : ∃ XV, cutA VA vc h = XV := ⟨_, rfl⟩
    obtain ⟨xk, hxk⟩ : ∃ xk, vc - h = xk := ⟨_, rfl⟩
    rw [hXV, hxk] at hpc;have hf2 : Calls Tryz.prog 128 #[.slice VA vn vc] wr (fun e w' => e = .returned (.tuple #[.slice XV p.length xk, .int .i64 (fl : Int)]) ∧ Below wr.heap.size wr w') := hf.mono fun e w' q => ⟨q.1.trans (by rw [hh, hXV, hxk, hfe]), q.2⟩
    obtain ⟨x, hx⟩ : ∃ x : Piece w, x.1 = ⟨XV, xk, p, a + fl⟩ := ⟨⟨⟨XV, xk, p, a + fl⟩, hpc, hpb, hpl, by show a + fl ≤ _; omega⟩, rfl⟩
    have hv : x.1.vals = #[.slice XV p.length xk, .int .i64 ((a : Int) + (fl : Int))] := (by rw [hx]; simp [Pc.vals]);have hy := fun u hu => hY pre x u (HJ2.out u hu) hnx;rw [hv] at hy
    have hrec : recs (pre ++ [x]) ++ l2 = l ∧ lastE (pre ++ [x]) = a + fl ∧ lastE (pre ++ [x]) = (forms (recs (pre ++ [x]))).length := by
     rw [recs_snoc, lastE_snoc, hx];refine ⟨by rw [hl2, List.append_assoc]; rfl, rfl, ?_⟩;rw [forms_snoc, List.length_append, ← hle, hfe]
    have hfl5 := form_pos p;rw [hfe] at hfl5;have HF := hid hf2;have HY := hid hy;have HREC := hid hrec;have HN := hid (And.intro hbl2 hfl5);have hw1 : IntKind.i64.wrap ((a : Int) + (fl : Int)) = (a : Int) + (fl : Int) := (by simp only [IntKind.wrap_i64]; omega);have hz : ((fl : Int) == 0) = false := (by simp; omega);clear hf hf2 hy hrec hbe hdrop hcut hlt2 hJ2 hK2 hJs hkp hwr hrw hl2 hle hbl hr hb hrd hh hdp hcut0 hfs hfl hbl2 hpc hv hx hXV hxk hVA hvc hvn hfe hfl5 hpb hnx HLE hae ha
    gi_wp2_with fail
    refine ⟨trivial, ?_⟩;refine (callsIn_wide.2 HF.out).mono ?_;rintro e u ⟨rfl, hu⟩;have HU := hid hu;obtain ⟨fn, tmps, assign, body, hy, hR⟩ := HY.out u hu;clear hu
    gi_wp2_with fail
    refine hR.mono ?_;rintro e W3 (⟨rfl, hJ3, hk3⟩ | ⟨rfl, hJx3⟩)
    · have HJ3 := hid hJ3
      have HK3 := hid (kp_t (HK2.out u HU.out) hk3);clear hJ3 hk3
      gi_wp2_with fail
      go_roundw
      case rel => exact ⟨pre ++ [x], l2, by rw [HREC.out.2.1, Int.natCast_add], HREC.out.1.symm, HREC.out.2.2, HJ3.out, HK3.out⟩
      case measure => have := HN.out; simp [intOf]; omega
    · have HJ3 := hid hJx3
      clear hJx3
      gi_wp2_with fail
      refine bodyPost_ret (results_none rfl _ _ _) rfl ?_;exact ⟨⟨_, rfl⟩, .inr ⟨_, trivial, HJ3.out⟩⟩
end Go.Proofs.YtkejjdoaljoooaaGreatDoor.Lg
/- The program's Scan: the records of bytes, each by itself, in new memory. -/
namespace Go.Proofs.YtkejjdoaljoooaaGreatDoor.Lg
open Lib (hid)
open Go.RowKit Mem Go.Shelf
attribute [local go_sem] Oper.semAt_some
theorem info32 : (Tryz.prog.info? 71).map (fun i => (i.zero, i.size, i.bytes)) = some (some (.slice none 0 0), 1, 24) := by kernel_rfl
def PartsNew (B : Nat) (W : World) (ps : List Cr.Part) : Prop := ∀ p ∈ ps, W.ownsRow B 5 1 (Cr.pv p) p.n (cs p.bs) ∧ ∀ b ∈ p.bs, b < 256
theorem PartsNew.below {B : Nat} {W W' : World} {ps : List Cr.Part} (h : PartsNew B W ps) (hb : Below W.heap.size W W') : PartsNew B W' ps := fun p hp => ⟨ownsRow_below (h p hp).1 hb, (h p hp).2⟩
theorem row_kept {W W' : World} {B s n : Nat} {e : TypeId} {v : Value} {xs : List Value} {row : Option Nat} (h : W.ownsRow B e s v n xs) (hg : W.grownBy W' row) (hr : ∀ (g : Nat) (cur : Array Value), v.ownBlock = some g → W.heap[g]? = some (.cells cur e (0, 0)) → row ≠ some g) : W'.ownsRow B e s v n xs := by
 refine ⟨h.1, ?_⟩;rcases h.2 with e0 | ⟨g, cap, cur, ev, hb, hgb, r⟩
 · exact .inl e0
 · refine .inr ⟨g, cap, cur, ev, hb, (hg.block g (Array.getElem?_eq_some_iff.1 hgb).1 fun e' => hr g cur (by rw [ev]; rfl) hgb e'.symm).trans hgb, r⟩
theorem PartsNew.grown {B : Nat} {W W' : World} {ps : List Cr.Part} {row : Option Nat} (h : PartsNew B W ps) (hg : W.grownBy W' row) (hr : ∀ g, row = some g → g < B ∨ ∀ cur : Array Value, W.heap[g]? ≠ some (.cells cur 5 (0, 0))) : PartsNew B W' ps := fun p hp =>
 ⟨row_kept (h p hp).1 hg fun g cur hv hgb e => (hr g e).elim (fun hl => by have := ((h p hp).1.lt g hv).1; omega) (fun hn => hn cur hgb), (h p hp).2⟩
structure NewMat (B : Nat) (W : World) (V : Option Addr) (n c : Nat) (l : List (List Nat)) (ps : List Cr.Part) : Prop where
 mat : Cr.Mat W V n c ps
 row : 0 < n → ∀ ad, V = some ad → B ≤ ad.block
 part : ∀ p ∈ ps, 0 < p.n → ∀ ad, p.A = some ad → B ≤ ad.block
 bytes : ps.map (·.bs) = l
def ScanRow (w : World) (B : Nat) (pre : List (Piece w)) (W : World) : Prop :=
 ∃ V k, ∃ ps : List Cr.Part, Boxed W w.heap.size 74 (.slice V ps.length k) ∧ W.ownsRow B 71 1 (.slice V ps.length k) ps.length (ps.map Cr.pv) ∧ PartsNew B W ps ∧ ps.map (·.bs) = recs pre
def ScanInt (w : World) (pre : List (Piece w)) (W : World) : Prop := Boxed W (w.heap.size + 1) 3 (.int .i64 (lastE pre : Int))
def ScanI (w : World) (B : Nat) (pre : List (Piece w)) (W : World) : Prop := (ScanRow w B pre W ∧ ScanInt w pre W) ∧ (Below w.heap.size w W ∧ B ≤ W.heap.size)
theorem not_cells {W : World} {k r : Nat} {c : Array Value} {t : TypeId} {f : Nat × Nat} {o : Obj} (h : W.heap[k]? = some (.cells c t f)) (ho : W.heap[r]? = some o) (hc : o.isCells = false) : k ≠ r := by
 rintro rfl;rw [h] at ho;cases ho;cases hc
theorem scan_row_own (w : World) (B : Nat) : Go.Own (ScanRow w B) := by
 rintro pre X Y row ⟨V, k, ps, hb, hr, hp, hl⟩ hg hrow;refine ⟨V, k, ps, hb.kept hg fun e => ?_, row_kept hr hg fun g cur _ hgb e => ?_, hp.grown hg fun g e => .inr fun cur hgb => ?_, hl⟩
 · obtain ⟨o, ho, hc⟩ := hrow _ e.symm
   exact not_cells hb ho hc rfl
 · obtain ⟨o, ho, hc⟩ := hrow g e
   exact not_cells hgb ho hc rfl
 · obtain ⟨o, ho, hc⟩ := hrow g e
   exact not_cells hgb ho hc rfl
theorem scan_int_own (w : World) : Go.Own (ScanInt w) := by
 intro pre X Y row hb hg hrow;refine hb.kept hg fun e => ?_;obtain ⟨o, ho, hc⟩ := hrow _ e.symm;exact not_cells hb ho hc rfl
theorem scan_own (w : World) (B : Nat) (hB : w.heap.size ≤ B) : OwnFrom B (ScanI w B) :=
 OwnFrom.and (OwnFrom.and ((scan_row_own w B).from B) ((scan_int_own w).from B)) (OwnFrom.and (ownFrom_below (Nat.le_refl _) hB) (fun _ _ _ _ h hg _ => Nat.le_trans h hg.size))
set_option maxHeartbeats 1000000 in
theorem records_in (n : Nat) (A : Option Addr) (m c : Nat) (w : World) : CallsIn Fence.wide n Tryz.prog 74 #[.slice A m c] w fun e w' => e = .returned (.func (.func 127) #[] #[.pointer (some ⟨w.heap.size, 0, none⟩)]) ∧ w' = w.alloc (.cells #[.slice A m c] 71) := by
 refine callsIn_of_wp Tryz.func74 rfl trivial ?_ rfl;simp only [Tryz.ntmps74, List.size_toArray, List.length_cons, List.length_nil, Nat.reduceAdd, Nat.reduceSub, Array.replicate_succ, Array.replicate_zero, List.push_toArray, List.append_toArray, List.nil_append, List.cons_append]
 gi_wp2
 go_ret;exact ⟨rfl, rfl⟩
theorem recs_stops (n : Nat) (hn : 1 ≤ n) (w : World) (ht : Cr.Tab w) (A : Option Addr) (m c : Nat) (b : List Nat) (l : List (List Nat)) (r : List Nat) (hr : Rd w A m c (cs b)) (hb : ∀ x ∈ b, x < 256) (hm : m ≤ 70368744177664) (hrd : Reads b l r)
 (Bs : Nat) (W0 : World) (hW0 : Below w.heap.size w W0) (hBs : W0.cell? ⟨Bs, 0, none⟩ = some (.slice A m c)) :
 SeqStopsK Fence.wide n Tryz.prog 127 #[.pointer (some ⟨Bs, 0, none⟩)] (fun x : Piece w => x.1.vals) (Kp w.heap.size Bs) (fun ys => recs ys = l ∧ lastE ys = (forms l).length) (fun _ => True) l.length W0 :=
 fun lk J Jx W hW hJ _ hY h0 => recs1_in n hn w ht A m c b l r hr hb hm hrd lk Bs J Jx W (hW0.trans (hW.mono hW0.size)) hJ hY ((hW.cell (World.block_lt_of_cell? _ _ hBs)).trans hBs) h0
theorem scan_step {w W w2 : World} {B : Nat} {pre : List (Piece w)} {x : Piece w} {V C : Option Addr} {k cc : Nat} {ps : List Cr.Part} (hBw : w.heap.size + 3 ≤ B) (hv : Boxed W w.heap.size 74 (.slice V ps.length k)) (hi1 : ScanInt w pre W)
 (hrow : W.ownsRow B 71 1 (.slice V ps.length k) ps.length (ps.map Cr.pv)) (hpn : PartsNew B W ps) (hpl : ps.map (·.bs) = recs pre) (hB : Below w.heap.size w W) (hBs : B ≤ W.heap.size) (hb2 : Below W.heap.size W w2)
 (hown : w2.ownsRow W.heap.size 5 1 (.slice C x.1.p.length cc) x.1.p.length (cs x.1.p)) (hn : ps.length ≤ 1099511627776) :
 ∃ V4 c4 w4, (Builtin.append_ #[74, 74] 74 #[.slice V ps.length k, .slice (some ⟨w2.heap.size, 0, none⟩) 1 1]).run Tryz.prog (w2.alloc (.cells #[.slice C x.1.p.length cc] 71)) = .ok (.slice V4 (ps.length + 1) c4) w4 ∧
  (w4.cell? ⟨w.heap.size, 0, none⟩ = some (.slice V ps.length k) ∧ w4.frozen? ⟨w.heap.size, 0, none⟩ = false ∧ w4.cell? ⟨w.heap.size + 1, 0, none⟩ = some (.int .i64 (lastE pre : Int)) ∧ w4.frozen? ⟨w.heap.size + 1, 0, none⟩ = false) ∧
  (KeepsFrom B W ((w4.setCell ⟨w.heap.size, 0, none⟩ (.slice V4 (ps.length + 1) c4)).setCell ⟨w.heap.size + 1, 0, none⟩ (.int .i64 (x.1.e : Int))) ∧
   Kp w.heap.size (w.heap.size + 1 + 1) W ((w4.setCell ⟨w.heap.size, 0, none⟩ (.slice V4 (ps.length + 1) c4)).setCell ⟨w.heap.size + 1, 0, none⟩ (.int .i64 (x.1.e : Int))) ∧
   ScanI w B (pre ++ [x]) ((w4.setCell ⟨w.heap.size, 0, none⟩ (.slice V4 (ps.length + 1) c4)).setCell ⟨w.heap.size + 1, 0, none⟩ (.int .i64 (x.1.e : Int)))) := by
 obtain ⟨i0, hi, hz0, hz1, hz2⟩ := info_parts info32;have hb3 := bel_alloc hb2 (.cells #[.slice C x.1.p.length cc] 71);have hc3 := (Rd.one w2 (.slice C x.1.p.length cc) 71).cells _ rfl;have hown3 := ownsRow_below hown (bel_alloc (Below.refl w2.heap.size w2) (.cells #[.slice C x.1.p.length cc] 71));generalize w2.alloc (.cells #[.slice C x.1.p.length cc] 71) = w3 at hb3 hc3 hown3 ⊢;have hrow3 := ownsRow_below hrow hb3;obtain ⟨v', w4, hrun, ho4, hg4, _, _⟩ := run_append_own_at (P := Tryz.prog) w3 B 74 74 71 i0 _ 1 24 Tryz.underlying74 hi hz0 hz1 hz2 rfl (by omega) _ ps.length _ hrow3 ⟨w2.heap.size, 0, none⟩ 1 1 [.slice C x.1.p.length cc] rfl hc3 (by intro u hu; rw [List.mem_singleton.1 hu]; rfl) (by unfold maxLen; omega) (by omega) (by have := hb3.size; omega);obtain ⟨g4, c4, rfl⟩ := ownsRow_succ ho4;have hbB : Below B w3 w4 := (Below.refl B w3).grown hg4 (by have := hb3.size; omega) fun j e => (hrow3.lt j e).1;have hv3 : Boxed w3 w.heap.size 74 (.slice V ps.length k) := (hb3.block _ hv.lt).trans hv;have hi3 : Boxed w3 (w.heap.size + 1) 3 (.int .i64 (lastE pre : Int)) := (hb3.block _ (Boxed.lt hi1)).trans hi1;have hv4 : Boxed w4 w.heap.size 74 (.slice V ps.length k) := (hbB.block _ (by omega)).trans hv3;have hi4 : Boxed w4 (w.heap.size + 1) 3 (.int .i64 (lastE pre : Int)) := (hbB.block _ (by omega)).trans hi3;have hg5 := grownBy_setCell' w4 w.heap.size (.slice (some ⟨g4, 0, none⟩) (ps.length + 1) c4);have hv5 := hv4.set (.slice (some ⟨g4, 0, none⟩) (ps.length + 1) c4);have hi5 := hi4.kept hg5 (by simp);refine ⟨some ⟨g4, 0, none⟩, c4, w4, hrun, ⟨hv4.cell, hv4.frozen, hi4.cell, hi4.frozen⟩, ?_⟩;have hg4B : B ≤ g4 := (ho4.lt g4 rfl).1
 have ho5 : (w4.setCell ⟨w.heap.size, 0, none⟩ (.slice (some ⟨g4, 0, none⟩) (ps.length + 1) c4)).ownsRow B 71 1 (.slice (some ⟨g4, 0, none⟩) (ps.length + 1) c4) (ps.length + 1) _ := row_kept ho4 hg5 fun g cur hvb hgb e => by
  injection e with e;injection hvb with hvb;simp only at hvb;omega
 have hp3 : PartsNew B w3 (ps ++ [⟨C, x.1.p.length, cc, x.1.p⟩]) := fun p hp => by
  rcases List.mem_append.1 hp with hp | hp
  · exact hpn.below hb3 p hp
  · rw [List.mem_singleton.1 hp]
    exact ⟨Dsk.own_low hown3 hBs, x.2.2.1⟩
 have hp4 : PartsNew B w4 (ps ++ [⟨C, x.1.p.length, cc, x.1.p⟩]) := hp3.grown hg4 fun g e => .inr fun cur hgb => by
  rcases hrow3.2 with ⟨e0, _⟩ | ⟨g', cap', cur', e', _, hgb', _⟩
  · rw [e0] at e; cases e
  · rw [e'] at e
    injection e with e;simp only at e;subst e;rw [hgb'] at hgb;injection hgb with hgb;injection hgb with _ h2 _;exact absurd h2 (by decide)
 have hp5 : PartsNew B (w4.setCell ⟨w.heap.size, 0, none⟩ (.slice (some ⟨g4, 0, none⟩) (ps.length + 1) c4)) (ps ++ [⟨C, x.1.p.length, cc, x.1.p⟩]) := hp4.grown hg5 fun g e => .inl (by injection e with e; omega);generalize hw5 : w4.setCell ⟨w.heap.size, 0, none⟩ (.slice (some ⟨g4, 0, none⟩) (ps.length + 1) c4) = w5 at hg5 hv5 hi5 ho5 hp5;have hg6 := grownBy_setCell' w5 (w.heap.size + 1) (.int .i64 (x.1.e : Int));have hi6 := hi5.set (.int .i64 (x.1.e : Int));have hv6 := hv5.kept hg6 (by simp)
 have ho6 := row_kept ho5 hg6 fun g cur hvb hgb e => by
  injection e with e;injection hvb with hvb;simp only at hvb;omega
 have hp6 := hp5.grown hg6 fun g e => .inl (by injection e with e; omega);have hb5 : Below w.heap.size W w5 := ((hb3.mono (by omega)).trans (hbB.mono (by omega))).grown hg5 (Nat.le_trans hb3.size hbB.size |> fun h => by have := hB.size; omega) fun j e => by injection e with e; omega
 have hb6 : Below w.heap.size W (w5.setCell ⟨w.heap.size + 1, 0, none⟩ (.int .i64 (x.1.e : Int))) := hb5.grown hg6 (by have := hB.size; have := hb5.size; omega) fun j e => by injection e with e; omega
 refine ⟨?_, ⟨hb6, fun v hcv => ?_⟩, ⟨⟨⟨some ⟨g4, 0, none⟩, c4, ps ++ [⟨C, x.1.p.length, cc, x.1.p⟩], ?_, ?_, hp6, ?_⟩, ?_⟩, hB.trans hb6, by have := hb6.size; omega⟩⟩
 · have k1 : KeepsOthers W w3 := KeepsOthers.of_grownBy (Cod.below_gr hb3 none) fun j o e _ => by cases e
   have k2 : KeepsOthers w3 w4 := KeepsOthers.of_grownBy hg4 fun j o e ho => by
    rcases hrow3.2 with ⟨e0, _⟩ | ⟨g', cap', cur', e', _, hgb', _⟩
    · rw [e0] at e; cases e
    · have ej : g' = j := by simpa [e', Value.ownBlock] using e
      subst ej;rw [hgb'] at ho;exact Option.some.inj ho ▸ rfl
   have k3 : KeepsOthers w4 w5 := (by rw [← hw5]; exact KeepsOthers.setCell _ _ _);exact (((k1.trans k2).trans k3).trans (KeepsOthers.setCell _ _ _)).from B
 · have l1 := World.block_lt_of_cell? _ _ hcv
   simp only at l1;have e1 : w3.heap[w.heap.size + 1 + 1]? = W.heap[w.heap.size + 1 + 1]? := hb3.block _ l1;have e2 : w4.heap[w.heap.size + 1 + 1]? = w3.heap[w.heap.size + 1 + 1]? := hbB.block _ (by omega);have l4 : w.heap.size + 1 + 1 < w4.heap.size := (by have := hb3.size; have := hbB.size; omega);have e3 : w5.heap[w.heap.size + 1 + 1]? = w4.heap[w.heap.size + 1 + 1]? := hg5.block _ l4 (by simp; omega);have e4 := hg6.block (w.heap.size + 1 + 1) (Nat.lt_of_lt_of_le l4 hg5.size) (by simp);exact (World.cell?_of_block (e4.trans (e3.trans (e2.trans e1)))).trans hcv
 · simpa using hv6
 · simpa [Cr.pv] using ho6
 · rw [List.map_append, hpl, recs_snoc]
   rfl
 · unfold ScanInt
   rw [lastE_snoc];exact hi6
theorem opIn_append {F : Fence} {n : Nat} {P : Program} {ops : Array Oper} {o : Oper} {a : Act} {w w' : World} {K : Act → World → Prop} {Q : Exit → Act → World → Prop} {E : Prop} {l : Nat} {t : TypeId} {v : Value} (hgd : o.guard = none) (s x : Operand)
 (ho : o.op = .call { callee := .builtin .append, args := #[s, x], argTypes := #[t, t] }) (hrun : (Builtin.append_ #[t, t] o.type #[a.eval s, a.eval x]).run P w = .ok v w') (h : K (a.put o.dst v) w') :
 if Region.wanted o (yielded ops a.tmps) = true then Oper.wpIn (F.inRound l) n P o a w K Q else E := by
 have hw : Region.wanted o (yielded ops a.tmps) = true := by simp [Region.wanted, hgd]
 rw [if_pos hw];have hs : (F.inRound l).round = some l := rfl
 have he : (execOp a.eval o).run P w = .ok (.value v) w' := by
  simp [execOp, ho, resolve, invoke, builtin, hrun, Result.andThen]
 refine ⟨fun f hf => ?_, ?_⟩
 · exfalso
   simp [Oper.about, ho, resolve, Target.leads] at hf
 · rw [hs, Oper.semAt_some l _ o (fun c => by rw [ho]; intro e; cases e), he]
   exact h
def ScanIs (l : List (List Nat)) (w : World) (e : Ending) (w' : World) : Prop :=
 ∃ V k ps, e = .returned (.tuple #[.slice V l.length k, .int .i64 ((forms l).length : Int)]) ∧ NewMat w.heap.size w' V l.length k l ps ∧ Below w.heap.size w w'
set_option maxRecDepth 100000 in
set_option maxHeartbeats 4000000 in
theorem scan_any (A : Option Addr) (m c : Nat) (b : List Nat) (l : List (List Nat)) (r : List Nat) (w : World) (ht : Cr.Tab w) (hr : Rd w A m c (cs b)) (hb : ∀ x ∈ b, x < 256) (hm : m ≤ 1099511627776) (hrd : Reads b l r) :
 Calls Tryz.prog 41 #[.slice A m c] w (ScanIs l w) := by
 obtain ⟨i0, hi, hz0, hz1, hz2⟩ := info_parts info32;refine (callsIn_wide (n := 6)).1 ?_;refine callsIn_of_wp_marks Tryz.func41 rfl trivial ?_ rfl;simp only [Tryz.ntmps41, List.size_toArray, List.length_cons, List.length_nil, Nat.reduceAdd, Nat.reduceSub, Array.replicate_succ, Array.replicate_zero, List.push_toArray, List.append_toArray, List.nil_append, List.cons_append]
 gi_wp2_with (refine ⟨trivial, ?_⟩; gi_at_call 74; refine (records_in _ _ _ _ _).mono ?_; rintro e w' ⟨rfl, rfl⟩)
 have bO := Boxed.new w 74 (.slice none 0 0);have bI := Boxed.new (w.alloc (.cells #[.slice none 0 0] 74)) 3 (.int .i64 0);have bB := Boxed.new ((w.alloc (.cells #[.slice none 0 0] 74)).alloc (.cells #[.int .i64 0] 3)) 71 (.slice A m c);have hB0 : Below w.heap.size w (((w.alloc (.cells #[.slice none 0 0] 74)).alloc (.cells #[.int .i64 0] 3)).alloc (.cells #[.slice A m c] 71)) := bel_alloc (bel_alloc (bel_alloc (Below.refl _ _) _) _) _;have bO2 := (bO.alloc (.cells #[.int .i64 0] 3)).alloc (.cells #[.slice A m c] 71);have bI2 := bI.alloc (.cells #[.slice A m c] 71);simp only [World.size_alloc] at bI bB bI2 bO2;obtain ⟨W0, hW0⟩ : ∃ W0, (((w.alloc (.cells #[.slice none 0 0] 74)).alloc (.cells #[.int .i64 0] 3)).alloc (.cells #[.slice A m c] 71)) = W0 := ⟨_, rfl⟩
 have hsz0 : W0.heap.size = w.heap.size + 1 + 1 + 1 := by rw [← hW0]; simp
 rw [hW0] at bO2 bI2 bB hB0 ⊢;have hst := recs_stops 5 (by omega) w ht A m c b l r hr hb (by omega) hrd (w.heap.size + 1 + 1) W0 hB0 bB.cell
 have hlen : l.length ≤ m := by
  have h1 := hr.len;rw [length_cs, hrd.eq, List.length_append] at h1
  have h2 : ∀ l : List (List Nat), l.length ≤ (forms l).length := fun l => by
   induction l with
   | nil => exact Nat.le_refl _
   | cons p l ih => rw [forms, List.length_append, List.length_cons]; have := form_pos p; omega
  have := h2 l;omega
 refine wpIn_rangeFunc_ownG rfl (by omega) (gf := 127) (lb := #[.pointer (some ⟨w.heap.size + 1 + 1, 0, none⟩)]) rfl trivial (enters_of Tryz.func127 (by kernel_rfl) rfl)
  hst kp_t (kp_b (by omega)) (Below.refl _ _) (fun _ => rfl)
  (ScanI w W0.heap.size) (fun _ _ _ => False) (scan_own w W0.heap.size (by omega)) (fun _ _ _ _ _ hs _ _ => hs)
  ⟨⟨⟨none, 0, [], bO2, World.ownsRow_nil _ _ _ _, fun _ h => (by cases h), rfl⟩, bI2⟩, hB0, Nat.le_refl _⟩
  (fun x => { tmps := #[.slice A m c, undef, .pointer (some ⟨w.heap.size, 0, none⟩), .pointer (some ⟨w.heap.size + 1, 0, none⟩), .slice x.1.V x.1.p.length x.1.k, .int .i64 (x.1.e : Int), .slice A m c, .func (.func 127) #[] #[.pointer (some ⟨w.heap.size + 1 + 1, 0, none⟩)], .slice x.1.V x.1.p.length x.1.k, .int .i64 (x.1.e : Int), undef, undef, undef, undef, undef, undef, undef, undef], defers := [] }) ?assign ?body ?done ?stop
 case assign =>
  intro l x W K hK;simp only [Pc.vals]
  gi_wp2
  exact hK
 case body =>
  rintro lk pre x W ⟨⟨⟨V, k, ps, hv, hrow, hpn, hpl⟩, hi1⟩, hB, hBs⟩ hlt
  have hpsl : ps.length = pre.length := by
   have h := congrArg List.length hpl;rw [List.length_map] at h;rw [h];simp [recs]
  have hcl := Dsk.bclone_any x.1.V x.1.p.length x.1.k x.1.p W.drew (x.2.1.below hB).drew (by have := x.2.2.2.1; omega);have hst : ∀ w2 C cc, w2.ownsRow W.drew.heap.size 5 1 (.slice C x.1.p.length cc) x.1.p.length (cs x.1.p) → Below W.drew.heap.size W.drew w2 → _ := fun w2 C cc ho hb2 => scan_step (w := w) (W := W) (w2 := w2) (B := W0.heap.size) (pre := pre) (x := x) (V := V) (C := C) (k := k) (cc := cc) (ps := ps) (by omega) hv hi1 hrow hpn hpl hB hBs ((Below.refl W.heap.size W).drew.trans hb2) ho (by omega);have hcv := hv.cell;have hc2 : ∀ w2, Below W.drew.heap.size W.drew w2 → w2.cell? ⟨w.heap.size, 0, none⟩ = some (.slice V ps.length k) ∧ w.heap.size < w2.heap.size := fun w2 hb2 => ⟨(hb2.cell (p := ⟨w.heap.size, 0, none⟩) hv.lt).trans hv.cell, Nat.lt_of_lt_of_le hv.lt hb2.size⟩
  have HCL := hid hcl;have HST := hid hst;have HC2 := hid hc2;clear hcl hst hc2 hv hi1 hrow hpn hpl hB hBs hlt hpsl;have hmo : Tryz.prog.follows .mixedOrders = true := by kernel_rfl
  gi_wp2_with fail
  -- ROUND
  refine wpIn_region_any hmo ?_
  change wpAnyIn _ _ _ _ _ _ _ _ _ (World.drew _)
  refine wpAnyIn_ready (rs := [0, 1]) (by kernel_rfl) (by simp) ?_;refine AllReadyIn.cons rfl (fun K hK => ?_) (AllReadyIn.cons rfl (fun K hK => ?_) AllReadyIn.nil)
  · go_simp
    refine hK _ _ ?_;clear hK K;refine wpAnyIn_ready (rs := [1]) (by kernel_rfl) (by simp) ?_;refine AllReadyIn.cons rfl (fun K hK => ?_) AllReadyIn.nil;go_simp;refine hK _ _ ?_;clear hK K;refine wpAnyIn_ready (rs := [2]) (by kernel_rfl) (by simp) ?_;refine AllReadyIn.cons rfl (fun K hK => ?_) AllReadyIn.nil;go_simp;refine ⟨trivial, ?_⟩;refine (CallsIn.inRound lk (callsIn_wide.2 HCL.out)).mono ?_;rintro e w2 ⟨C, cc, rfl, hown, hb2⟩;obtain ⟨V4, c4, w4, hrun, ⟨hc0, hf0, hc1, hf1⟩, hend⟩ := HST.out w2 C cc hown hb2;obtain ⟨hcw, hlw⟩ := HC2.out w2 hb2;have HEND := hid hend;have HRUN := hid hrun;clear hend hown hb2 hrun;refine hK _ _ ?_;clear hK K;refine wpAnyIn_ready (rs := [3]) (by kernel_rfl) (by simp) ?_;refine AllReadyIn.cons rfl (fun K hK => ?_) AllReadyIn.nil;go_simp;refine hK _ _ ?_;clear hK K;refine wpAnyIn_ready (rs := [4]) (by kernel_rfl) (by simp) ?_;refine AllReadyIn.cons rfl (fun K hK => ?_) AllReadyIn.nil;refine opIn_append rfl (.tmp 10) (.tmp 13) rfl (by first | exact HRUN.out | exact HRUN.out) ?_;refine hK _ _ ?_;clear hK K;refine wpAnyIn_ready (rs := [5]) (by kernel_rfl) (by simp) ?_;refine AllReadyIn.cons rfl (fun K hK => ?_) AllReadyIn.nil;go_simp;refine hK _ _ ?_;clear hK K;refine wpAnyIn_done (by kernel_rfl) ?_ _;skip
    gi_wp2_with fail
    exact HEND.out
  · go_simp
    refine hK _ _ ?_;clear hK K;refine wpAnyIn_ready (rs := [0, 2]) (by kernel_rfl) (by simp) ?_;refine AllReadyIn.cons rfl (fun K hK => ?_) (AllReadyIn.cons rfl (fun K hK => ?_) AllReadyIn.nil)
    · go_simp
      refine hK _ _ ?_;clear hK K;refine wpAnyIn_ready (rs := [2]) (by kernel_rfl) (by simp) ?_;refine AllReadyIn.cons rfl (fun K hK => ?_) AllReadyIn.nil;go_simp;refine ⟨trivial, ?_⟩;refine (CallsIn.inRound lk (callsIn_wide.2 HCL.out)).mono ?_;rintro e w2 ⟨C, cc, rfl, hown, hb2⟩;obtain ⟨V4, c4, w4, hrun, ⟨hc0, hf0, hc1, hf1⟩, hend⟩ := HST.out w2 C cc hown hb2;obtain ⟨hcw, hlw⟩ := HC2.out w2 hb2;have HEND := hid hend;have HRUN := hid hrun;clear hend hown hb2 hrun;refine hK _ _ ?_;clear hK K;refine wpAnyIn_ready (rs := [3]) (by kernel_rfl) (by simp) ?_;refine AllReadyIn.cons rfl (fun K hK => ?_) AllReadyIn.nil;go_simp;refine hK _ _ ?_;clear hK K;refine wpAnyIn_ready (rs := [4]) (by kernel_rfl) (by simp) ?_;refine AllReadyIn.cons rfl (fun K hK => ?_) AllReadyIn.nil;refine opIn_append rfl (.tmp 10) (.tmp 13) rfl (by first | exact HRUN.out | exact HRUN.out) ?_;refine hK _ _ ?_;clear hK K;refine wpAnyIn_ready (rs := [5]) (by kernel_rfl) (by simp) ?_;refine AllReadyIn.cons rfl (fun K hK => ?_) AllReadyIn.nil;go_simp;refine hK _ _ ?_;clear hK K;refine wpAnyIn_done (by kernel_rfl) ?_ _;skip
      gi_wp2_with fail
      exact HEND.out
    · go_simp
      refine ⟨trivial, ?_⟩;refine (CallsIn.inRound lk (callsIn_wide.2 HCL.out)).mono ?_;rintro e w2 ⟨C, cc, rfl, hown, hb2⟩;obtain ⟨V4, c4, w4, hrun, ⟨hc0, hf0, hc1, hf1⟩, hend⟩ := HST.out w2 C cc hown hb2;obtain ⟨hcw, hlw⟩ := HC2.out w2 hb2;have HEND := hid hend;have HRUN := hid hrun;clear hend hown hb2 hrun;refine hK _ _ ?_;clear hK K;refine wpAnyIn_ready (rs := [0, 3]) (by kernel_rfl) (by simp) ?_;refine AllReadyIn.cons rfl (fun K hK => ?_) (AllReadyIn.cons rfl (fun K hK => ?_) AllReadyIn.nil)
      · go_simp
        refine hK _ _ ?_;clear hK K;refine wpAnyIn_ready (rs := [3]) (by kernel_rfl) (by simp) ?_;refine AllReadyIn.cons rfl (fun K hK => ?_) AllReadyIn.nil;go_simp;refine hK _ _ ?_;clear hK K;refine wpAnyIn_ready (rs := [4]) (by kernel_rfl) (by simp) ?_;refine AllReadyIn.cons rfl (fun K hK => ?_) AllReadyIn.nil;refine opIn_append rfl (.tmp 10) (.tmp 13) rfl (by first | exact HRUN.out | exact HRUN.out) ?_;refine hK _ _ ?_;clear hK K;refine wpAnyIn_ready (rs := [5]) (by kernel_rfl) (by simp) ?_;refine AllReadyIn.cons rfl (fun K hK => ?_) AllReadyIn.nil;go_simp;refine hK _ _ ?_;clear hK K;refine wpAnyIn_done (by kernel_rfl) ?_ _;skip
        gi_wp2_with fail
        exact HEND.out
      · go_simp
        refine hK _ _ ?_;clear hK K;refine wpAnyIn_ready (rs := [0]) (by kernel_rfl) (by simp) ?_;refine AllReadyIn.cons rfl (fun K hK => ?_) AllReadyIn.nil;go_simp;refine hK _ _ ?_;clear hK K;refine wpAnyIn_ready (rs := [4]) (by kernel_rfl) (by simp) ?_;refine AllReadyIn.cons rfl (fun K hK => ?_) AllReadyIn.nil;refine opIn_append rfl (.tmp 10) (.tmp 13) rfl (by first | exact HRUN.out | exact HRUN.out) ?_;refine hK _ _ ?_;clear hK K;refine wpAnyIn_ready (rs := [5]) (by kernel_rfl) (by simp) ?_;refine AllReadyIn.cons rfl (fun K hK => ?_) AllReadyIn.nil;go_simp;refine hK _ _ ?_;clear hK K;refine wpAnyIn_done (by kernel_rfl) ?_ _;skip
        gi_wp2_with fail
        exact HEND.out
  -- DNUOR
 case done =>
  rintro D ys W hD ⟨hys1, hys2⟩ ⟨⟨⟨V, k, ps, hv, hrow, hpn, hpl⟩, hi1⟩, hB, hBs⟩ hK;have hc0 := hv.cell;have hf0 := hv.frozen;have hc1 := Boxed.cell hi1;have hf1 := Boxed.frozen hi1;rw [hys2] at hc1;have HV := hid (And.intro hv (And.intro hrow (And.intro hpn hpl)));have HI := hid hi1;have HB := hid (And.intro hB (And.intro hD hsz0));have HK := hid hK;have HY := hid (And.intro hys1 hys2);have hmo : Tryz.prog.follows .mixedOrders = true := by kernel_rfl
  clear hv hrow hpn hpl hi1 hB hD hK hys1 hys2 hst bO bI bB bI2 bO2 hW0 hB0 hr hb hrd hBs
  gi_wp2_with fail
  gi_region_o
  gi_wp2_with fail
  obtain ⟨hv, hrow, hpn, hpl⟩ := HV.out;obtain ⟨hB, hD, hsz⟩ := HB.out;have hi1 := HI.out;unfold ScanInt at hi1;rw [HY.out.2] at hi1;rw [HY.out.1] at hpl;have hne0 : w.heap.size ≠ D := by omega
  have hne1 : w.heap.size + 1 ≠ D := by omega
  have g5 := grownBy_setCell' W w.heap.size (.slice V ps.length k);have v5 := hv.set (.slice V ps.length k);have i5 := hi1.kept g5 (by simp)
  have r5 := row_kept hrow g5 fun g cur hvb hgb e => by
   have := (hrow.lt g hvb).1;injection e with e;omega
  have p5 := hpn.grown g5 fun g e => .inl (by injection e with e; omega);have k5 : (W.setCell ⟨w.heap.size, 0, none⟩ (.slice V ps.length k)).heap[D]? = some (.deferred (some [])) := (KeepsOthers.setCell W ⟨w.heap.size, 0, none⟩ (.slice V ps.length k)).same D _ HK.out rfl;have b5 : Below w.heap.size w (W.setCell ⟨w.heap.size, 0, none⟩ (.slice V ps.length k)) := hB.grown g5 hB.size fun j e => by injection e with e; omega
  generalize W.setCell ⟨w.heap.size, 0, none⟩ (.slice V ps.length k) = W5 at g5 v5 i5 r5 p5 k5 b5 ⊢;have g6 := grownBy_setCell' W5 (w.heap.size + 1) (.int .i64 ((forms l).length : Int));have i6 := i5.set (.int .i64 ((forms l).length : Int));have v6 := v5.kept g6 (by simp)
  have r6 := row_kept r5 g6 fun g cur hvb hgb e => by
   have := (r5.lt g hvb).1;injection e with e;omega
  have p6 := p5.grown g6 fun g e => .inl (by injection e with e; omega);have k6 : (W5.setCell ⟨w.heap.size + 1, 0, none⟩ (.int .i64 ((forms l).length : Int))).heap[D]? = some (.deferred (some [])) := (KeepsOthers.setCell W5 ⟨w.heap.size + 1, 0, none⟩ (.int .i64 ((forms l).length : Int))).same D _ k5 rfl;have b6 : Below w.heap.size w (W5.setCell ⟨w.heap.size + 1, 0, none⟩ (.int .i64 ((forms l).length : Int))) := b5.grown g6 b5.size fun j e => by injection e with e; omega
  generalize W5.setCell ⟨w.heap.size + 1, 0, none⟩ (.int .i64 ((forms l).length : Int)) = W6 at g6 v6 i6 r6 p6 k6 b6 ⊢;have k7 : W6.drew.heap[D]? = some (.deferred (some [])) := k6;have g7 := grownBy_putObj' W6.drew D (.deferred none);have v7 : Boxed (W6.drew.putObj D (.deferred none)) w.heap.size 74 (.slice V ps.length k) := Boxed.kept (W := W6.drew) v6 g7 (by simp [hne0]);have i7 : Boxed (W6.drew.putObj D (.deferred none)) (w.heap.size + 1) 3 (.int .i64 ((forms l).length : Int)) := Boxed.kept (W := W6.drew) i6 g7 (by simp [hne1])
  have r7 : (W6.drew.putObj D (.deferred none)).ownsRow W0.heap.size 71 1 (.slice V ps.length k) ps.length (ps.map Cr.pv) := row_kept (W := W6.drew) r6 g7 fun g cur _ hgb e => by
   injection e with e;subst e;rw [k7] at hgb;cases hgb
  have p7 : PartsNew W0.heap.size (W6.drew.putObj D (.deferred none)) ps := PartsNew.grown (W := W6.drew) p6 g7 fun g e => .inr fun cur hgb => by
   injection e with e;subst e;rw [k7] at hgb;cases hgb
  have b7 : Below w.heap.size w (W6.drew.putObj D (.deferred none)) := b6.drew.grown g7 b6.size fun j e => by injection e with e; omega
  have c7 := v7.cell;have d7 := i7.cell;have hll : ps.length = l.length := by rw [← hpl, List.length_map]
  refine ⟨by simp, .inl ⟨_, _, rfl, run_takeDeferred k7, ?_⟩⟩;refine ⟨.tuple #[.slice V ps.length k, .int .i64 ((forms l).length : Int)], ?_, ?_⟩
  · have a1 := Tryz.isAgg3
    have a2 := Tryz.isAgg74;simp [results, Tryz.results41, loadVar, a1, a2, c7, d7, asAddr]
  · rw [hll]
    rw [hll] at r7;refine ⟨V, k, ps, rfl, ⟨⟨Rd.own r7, fun p hp => ⟨Rd.own (p7 p hp).1, (p7 p hp).2⟩⟩, fun _ ad e => ?_, fun p hp _ ad e => ?_, hpl⟩, b7⟩
    · have := (r7.lt ad.block (by rw [e]; rfl)).1
      omega
    · have := ((p7 p hp).1.lt ad.block (by unfold Cr.pv; rw [e]; rfl)).1
      omega
 case stop =>
  rintro D c pre W _ _ h _;exact h.elim
end Go.Proofs.YtkejjdoaljoooaaGreatDoor.Lg
/- What lasts while a disk is turned: the table of the sums, a log's box, a row of records. -/
namespace Go.Proofs.YtkejjdoaljoooaaGreatDoor.Lg
open Lib (hid)
open Go.RowKit Mem Dsk
def FTab (w : World) (S : Nat → Prop) : Prop := Cr.Tab w ∧ ¬ S 0
theorem frame_tab : Dsk.Frame FTab := by
 refine ⟨fun {w w' S S'} h hk hg => ⟨fun i hi => ?_, fun hs => ?_⟩⟩
 · have hc := h.1 i hi
   exact (hk.cell (p := ⟨0, i, none⟩) (World.block_lt_of_cell? _ _ hc) h.2).trans hc
 · have hl := World.block_lt_of_cell? _ _ (h.1 0 (by decide))
   simp only at hl;rcases hg _ hs with h' | h'
   · exact h.2 h'
   · omega
def FLog (g p : Nat) (s : ByteArray) (w : World) (S : Nat → Prop) : Prop := Blk w g 105 #[Dsk.ptr p, .string s] ∧ ¬ S g
theorem frame_log (g p : Nat) (s : ByteArray) : Dsk.Frame (FLog g p s) := by
 refine ⟨fun {w w' S S'} h hk hg => ⟨?_, fun hs => ?_⟩⟩
 · exact (hk.block g h.1.lt h.2).trans h.1
 · rcases hg _ hs with h' | h'
   · exact h.2 h'
   · have := h.1.lt
     omega
def FMat (V : Option Addr) (n c : Nat) (ps : List Cr.Part) (w : World) (S : Nat → Prop) : Prop := FRd V n c (ps.map Cr.pv) w S ∧ ∀ p ∈ ps, FRd p.A p.n p.c (cs p.bs) w S ∧ ∀ b ∈ p.bs, b < 256
theorem frame_mat (V : Option Addr) (n c : Nat) (ps : List Cr.Part) : Dsk.Frame (FMat V n c ps) :=
 ⟨fun h hk hg => ⟨(frame_rd _ _ _ _).go h.1 hk hg, fun p hp => ⟨(frame_rd _ _ _ _).go (h.2 p hp).1 hk hg, (h.2 p hp).2⟩⟩⟩
theorem FMat.mat {V : Option Addr} {n c : Nat} {ps : List Cr.Part} {w : World} {S : Nat → Prop} (h : FMat V n c ps w S) : Cr.Mat w V n c ps := ⟨h.1.1, fun p hp => ⟨(h.2 p hp).1.1, (h.2 p hp).2⟩⟩
theorem NewMat.out {B n c : Nat} {w : World} {V : Option Addr} {l : List (List Nat)} {ps : List Cr.Part} {S : Nat → Prop} (h : NewMat B w V n c l ps) (hS : ∀ k, S k → k < B) : FMat V n c ps w S := by
 refine ⟨⟨h.mat.row, fun h0 ad e hs => ?_⟩, fun p hp => ⟨⟨(h.mat.part p hp).1, fun h0 ad e hs => ?_⟩, (h.mat.part p hp).2⟩⟩
 · have := h.row h0 ad e
   have := hS _ hs;omega
 · have := h.part p hp h0 ad e
   have := hS _ hs;omega
theorem Does.on {I : Held} {S S1 : Nat → Prop} {p : Nat} {r : Nat × Dk} {w w1 w' : World} {e : Ending} (h : Does I p S1 r w1 e w') (hk : Keeps S w w1) (hg : Grew S S1 w) : Does I p S r w e w' := by
 obtain ⟨h1, S', h2, h3, h4⟩ := h;exact ⟨h1, S', h2, hg.trans h3 hk.size, hk.trans h4 hg⟩
theorem have_bel {I : Held} (hH : Has2 I) {w w' : World} {S : Nat → Prop} {p : Nat} {d : Dk} (h : I w S p d) (hb : Below w.heap.size w w') : I w' S p d := hH.keep h (T := fun _ => False) (Keeps.ofBelow hb) fun _ _ h => h
end Go.Proofs.YtkejjdoaljoooaaGreatDoor.Lg
/- The program's Add and Flush, over whatever is a disk. -/
namespace Go.Proofs.YtkejjdoaljoooaaGreatDoor.Lg
open Lib (hid)
open Go.RowKit Mem Dsk
set_option maxRecDepth 20000 in
set_option maxHeartbeats 2000000 in
theorem add_any {I : Held} (hH : Has2 I) (g p : Nat) (S : Nat → Prop) (d : Dk) (s : ByteArray) (A : Option Addr) (n c : Nat) (bs : List Nat) (w : World) (hI : I w S p d) (hf : Fine d) (ht : FTab w S) (hg : FLog g p s w S) (hr : FRd A n c (cs bs) w S) (hb : ∀ b ∈ bs, b < 256) (hn : n ≤ 1048576) (hs : s.size ≤ 9223372036854775807) :
 Calls Tryz.prog 23 #[.pointer (some ⟨g, 0, none⟩), .slice A n c] w (Does I p S (whole (doAppend s (form bs)) d) w) := by
 have hfm := lform_any A n c bs w ht.1 hr.1 hb hn
 have hfl : (form bs).length ≤ 1099511627776 := by
  have h1 := hr.1.len;rw [length_cs] at h1;have h2 := Num.size_le bs.length (by omega);rw [length_form];omega
 have HF := hid hfm;have HFL := hid hfl;have HG := hid hg;have HI := hid hI;have HS := hid hs;clear hfm hfl ht hr hg hb hI;go_enter Tryz.func23, Tryz.ntmps23
 go_wp2_with fail
 refine HF.out.mono ?_;rintro e w1 ⟨V, vc, rfl, hown, hb1⟩;have hblk : Blk w1 g 105 #[Dsk.ptr p, .string s] := HG.out.1.bel hb1;have hI1 := have_bel hH HI.out hb1;have hlow := hH.low HI.out
 have hou : Outs S (form bs).length V := fun h0 ad e hs' => by
  have h1 := (hown.lt ad.block (by rw [e]; rfl)).1;have h2 := hlow _ hs';omega
 have hI2 : I w1.drew S p d := have_bel hH hI1 (Below.refl _ _).drew;have hap := hH.append p S d s V (form bs).length vc (form bs) w1.drew hI2 hf (Rd.own hown).drew hou HS.out HFL.out;have c0 := hblk.cell 0;have c1 := hblk.cell 1;simp only [List.getElem?_toArray, List.getElem?_cons_zero, List.getElem?_cons_succ] at c0 c1;unfold Dsk.ptr at c0;have HA := hid hap;have HB := hid hb1;clear hap hb1 hI1 hI2 hou hown hblk hlow;go_wp2_with fail
 go_still_tail 9, (by kernel_rfl)
 change wpList _ _ _ _ _ w1.drew
 go_wp2_with fail
 refine HA.out.mono ?_;rintro e w2 hd;have hd2 := Does.on hd (Keeps.ofBelow (S := S) ((HB.out.drew))) (Grew.refl S w);obtain ⟨rfl, hst⟩ := hd2;have HST := hid hst;clear hst hd;go_wp2_with fail
 go_ret;exact ⟨rfl, HST.out⟩
set_option maxRecDepth 20000 in
set_option maxHeartbeats 2000000 in
theorem flush_any {I : Held} (hH : Has2 I) (g p : Nat) (S : Nat → Prop) (d : Dk) (s : ByteArray) (w : World) (hI : I w S p d) (hf : Fine d) (hg : FLog g p s w S) (hs : s.size ≤ 9223372036854775807) :
 Calls Tryz.prog 24 #[.pointer (some ⟨g, 0, none⟩)] w (fun e w' => e = .returned (.int .i64 (fg (whole (doSync s) d).1 : Int)) ∧ Stays I p S (whole (doSync s) d).2 w w') := by
 have hI2 : I w.drew S p d := have_bel hH hI (Below.refl _ _).drew;have hsy := hH.sync p S d s w.drew hI2 hf hs;have c0 := hg.1.cell 0;have c1 := hg.1.cell 1;simp only [List.getElem?_toArray, List.getElem?_cons_zero, List.getElem?_cons_succ] at c0 c1;unfold Dsk.ptr at c0;have HA := hid hsy;clear hI hI2 hsy hg hf;go_enter Tryz.func24, Tryz.ntmps24
 go_wp2_with fail
 go_still_tail 8, (by kernel_rfl)
 change wpList _ _ _ _ _ w.drew
 go_wp2_with fail
 refine HA.out.mono ?_;rintro e w2 hd;obtain ⟨rfl, hst⟩ := Does.on hd (Keeps.ofBelow (S := S) (Below.refl w.heap.size w).drew) (Grew.refl S w);have HST := hid hst;have hfo := forgiven_any (whole (doSync s) d).1 w2;have HFO := hid hfo;clear hst hd hfo;go_wp2_with fail
 refine HFO.out.mono ?_;rintro e w3 ⟨rfl, rfl⟩;go_wp2_with fail
 go_ret;exact ⟨rfl, HST.out⟩
end Go.Proofs.YtkejjdoaljoooaaGreatDoor.Lg
/- The program's Open, over whatever is a disk. -/
namespace Go.Proofs.YtkejjdoaljoooaaGreatDoor.Lg
open Lib (hid)
open Go.RowKit Mem Dsk
def OpenIs (I : Held) (p : Nat) (S : Nat → Prop) (s : ByteArray) (l : List (List Nat)) (d : Dk) (w : World) (e : Ending) (w' : World) : Prop :=
 ∃ g V k ps, e = .returned (.tuple #[.pointer (some ⟨g, 0, none⟩), .slice V l.length k, .int .i64 0]) ∧ ∃ S', I w' S' p d ∧ Grew S S' w ∧ Keeps S w w' ∧ FLog g p s w' S' ∧ FMat V l.length k ps w' S' ∧ ps.map (·.bs) = l
theorem open_end {I : Held} (hH : Has2 I) {p : Nat} {S S4 : Nat → Prop} {d2 : Dk} {s : ByteArray} {l : List (List Nat)} {w w4 w5 : World} {V : Option Addr} {k : Nat} {ps : List Cr.Part} (hI : I w4 S4 p d2) (hg : Grew S S4 w) (hk : Keeps S w w4) (hm : FMat V l.length k ps w4 S4) (hl : ps.map (·.bs) = l) (hb : Below w4.heap.size w4 w5) :
 OpenIs I p S s l d2 w (.returned (.tuple #[.pointer (some ⟨w5.heap.size, 0, none⟩), .slice V l.length k, .int .i64 0])) (w5.alloc (.cells #[.pointer (some ⟨p, 0, none⟩), .string s] 105)) := by
 have hb6 := bel_alloc hb (.cells #[.pointer (some ⟨p, 0, none⟩), .string s] 105);refine ⟨w5.heap.size, V, k, ps, rfl, S4, have_bel hH hI hb6, hg, hk.trans (Keeps.ofBelow (S := S4) hb6) hg, ⟨Blk.new w5 105 #[.pointer (some ⟨p, 0, none⟩), .string s], fun hs => ?_⟩, (frame_mat _ _ _ _).go hm (Keeps.ofBelow (S := S4) hb6) (Grew.refl S4 w4), hl⟩;have := hH.low hI _ hs;have := hb.size;omega
set_option maxRecDepth 20000 in
set_option maxHeartbeats 4000000 in
theorem open_any {I : Held} (hH : Has2 I) (p : Nat) (S : Nat → Prop) (d d2 : Dk) (s : ByteArray) (c : List Nat) (l : List (List Nat)) (r : List Nat) (w : World) (hI : I w S p d) (hf : Fine d) (ht : FTab w S) (hs : s.size ≤ 281474976710656)
 (hrd : Dsk.read s d = (c, 0) ∨ Dsk.read s d = (c, 8)) (hc : ∀ b ∈ c, b < 256) (hcl : c.length ≤ 1099511627776) (hR : Reads c l r)
 (h0 : r = [] → d2 = d) (h1 : r ≠ [] → whole (doCut s ((forms l).length : Int)) d = (0, d2)) :
 Calls Tryz.prog 22 #[Dsk.ptr p, .string s] w (OpenIs I p S s l d2 w) := by
 have hre := hH.read p S d s w hI hf (by omega);have hfg : ((Dsk.read s d).2 = 0 ∨ (Dsk.read s d).2 = 8) ∧ (Dsk.read s d).1 = c := by rcases hrd with h | h <;> rw [h] <;> simp
 obtain ⟨x, hx⟩ : ∃ x, (Dsk.read s d).2 = x := ⟨_, rfl⟩
 rw [hfg.2, hx] at hre;rw [hx] at hfg;have hlen : c.length = (forms l).length + r.length := by rw [hR.eq, List.length_append]
 obtain ⟨fl, hfl⟩ : ∃ fl, (forms l).length = fl := ⟨_, rfl⟩
 rw [hfl] at hlen h1;have HRE := hid hre;have HR := hid (And.intro hR (And.intro hc hcl));have HFL := hid (And.intro hfl hlen);have HT := hid ht;have HH := hid hH;have HF := hid hf;have H0 := hid (And.intro h0 h1);have HS := hid hs;have HFG := hid hfg;have hxc : fg x = 0 := by unfold fg; rcases hfg.1 with h | h <;> rw [h] <;> simp
 have HXC := hid hxc;clear hre hR hfl hlen ht hf h0 h1 hrd hfg hI hs hxc hcl hc hx;unfold Dsk.ptr at *;go_enter Tryz.func22, Tryz.ntmps22
 go_wp2_with fail
 refine HRE.out.mono ?_;rintro e w1 ⟨A, n, ac, rfl, ho, S1, hI1, hg1, hk1, ho1⟩;have hn : n = c.length := by have h := ho.1; rw [length_cs, Nat.mul_one] at h; exact h.symm
 subst hn;have hfo : Calls Tryz.prog 40 #[.int .i64 (x : Int)] w1 (fun r w' => r = .returned (.int .i64 0) ∧ w' = w1) := (forgiven_any x w1).mono fun e w' h => ⟨by rw [h.1, HXC.out]; rfl, h.2⟩
 have HFO := hid hfo;have HO := hid ho;have HI1 := hid hI1;have HG1 := hid (And.intro hg1 hk1);clear hfo ho hI1 hg1 hk1 ho1;go_wp2_with fail
 refine HFO.out.mono ?_;rintro e w2 ⟨rfl, rfl⟩;have hscan := scan_any A c.length ac c l r w2 (frame_tab.go HT.out HG1.out.2 HG1.out.1).1 (Rd.own HO.out) HR.out.2.1 HR.out.2.2 HR.out.1;have HSC := hid hscan;clear hscan;go_wp2_with fail
 refine HSC.out.mono ?_;rintro e w3 ⟨V, k, ps, rfl, hm, hb3⟩;rw [HFL.out.1];have hI3 := have_bel hH HI1.out hb3;have hk3 := HG1.out.2.trans (Keeps.ofBelow (S := S1) hb3) HG1.out.1;have hfm : FMat V l.length k ps w3 S1 := hm.out fun k hk => hH.low HI1.out k hk;have HFM := hid (And.intro hfm hm.bytes);have HI3 := hid (And.intro hI3 hk3);clear hm hb3 hI3 hk3 hfm;by_cases hr : r = []
 · have hd2 := H0.out.1 hr
   have hcl : c.length = fl := (by rw [HFL.out.2, hr]; rfl);have b1 : decide ((fl : Int) < (c.length : Int)) = false := decide_eq_false (by omega);have b2 : decide (fl < c.length) = false := decide_eq_false (by omega);have HD2 := hid hd2;clear hr hd2 hcl;go_wp2_with fail
   refine (sclone_any s w3 HS.out).mono ?_;rintro e w5 ⟨rfl, hb5⟩;have HB5 := hid hb5;clear hb5;go_wp2_with fail
   go_ret3
   rw [HD2.out];exact open_end hH HI3.out.1 HG1.out.1 HI3.out.2 HFM.out.1 HFM.out.2 HB5.out
 · have hcu := hH.cut p S1 d s (fl : Int) w3 HI3.out.1 HF.out (by have := HS.out; omega)
   rw [H0.out.2 hr] at hcu
   have hcl : fl < c.length := by
    have h1 : 0 < r.length := (by cases r; exact absurd rfl hr; simp);rw [HFL.out.2];omega
   have b1 : decide ((fl : Int) < (c.length : Int)) = true := decide_eq_true (by omega);have b2 : decide (fl < c.length) = true := decide_eq_true hcl;have HCU := hid hcu;clear hr hcu hcl;unfold Dsk.ptr at HCU;go_wp2_with fail
   refine HCU.out.mono ?_;rintro e w4 ⟨rfl, S4, hI4, hg4, hk4⟩;have hm4 := (frame_mat _ _ _ _).go HFM.out.1 hk4 hg4;have HI4 := hid (And.intro hI4 (And.intro (HG1.out.1.trans hg4 HI3.out.2.size) (And.intro (HI3.out.2.trans hk4 HG1.out.1) hm4)));clear hI4 hg4 hk4 hm4;go_wp2_with fail
   refine (sclone_any s w4 HS.out).mono ?_;rintro e w5 ⟨rfl, hb5⟩;have HB5 := hid hb5;clear hb5;go_wp2_with fail
   go_ret3
   exact open_end hH HI4.out.1 HI4.out.2.1 HI4.out.2.2.1 HI4.out.2.2.2 HFM.out.2 HB5.out
end Go.Proofs.YtkejjdoaljoooaaGreatDoor.Lg
