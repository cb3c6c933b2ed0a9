/-
  Texts of earlier layers, as one.
-/
import Derived.Test.YtkejjdoaljoooaaGreatDoorRCod
import Derived.StillTailTactics
/- The document's Size of any item: asked up to L, where it answers at most L, it is how many items and bytes there are. -/
namespace Go.Proofs.YtkejjdoaljoooaaGreatDoor
open Lib (hid)
open Go.RowKit Mem Cod
end Go.Proofs.YtkejjdoaljoooaaGreatDoor
/- codec.Same of any two items tells whether they are the same. -/
namespace Go.Proofs.YtkejjdoaljoooaaGreatDoor
open Lib (hid)
open Go.RowKit Mem Cod
theorem row_lit (W : World) (hs : List Hung) (vs : Array Value) (n : Nat) (hv : vs.toList = cells4 hs) (hn : hs.length = n) (hm : n ≤ 9223372036854775807) (hl : ∀ h ∈ hs, Lies W (fun b => b < W.heap.size) h.x h.A h.c) :
 Row (W.alloc (.cells vs 95)) (fun b => b < W.heap.size + 1) (some ⟨W.heap.size, 0, none⟩) n n (hs.map (·.x)) := by
 refine Row.of_hung hn ⟨Nat.le_refl _, hm, (fun e => by cases e)⟩ (fun h hh => ((hl h hh).alloc _).more fun b hb _ => by omega) fun _ => ⟨_, rfl, Nat.lt_succ_self _, by simp, fun j u hu => ?_⟩
 rw [Addr.add_lit, Nat.zero_add, cell_of_row _ _ _ _ _ _ (heap_alloc_new W _)];rw [← hv] at hu;simpa using hu
theorem info68 : (Tryz.prog.info? 227).map (fun i => (i.zero, i.size, i.bytes)) = some (some (.agg #[.slice none 0 0, .slice none 0 0]), 2, 48) := by kernel_rfl
structure Pr where
 A : Option Addr
 c : Nat
 l : List It
 B : Option Addr
 d : Nat
 m : List It
def Pr.cells (p : Pr) : List Value := [.slice p.A p.l.length p.c, .slice p.B p.m.length p.d]
def cells2 (ps : List Pr) : List Value := ps.flatMap Pr.cells
def pd : List Pr → Nat
 | [] => 0
 | p :: r => wts p.l + 1 + pd r
theorem pd_append (a b : List Pr) : pd (a ++ b) = pd a + pd b := by
 induction a with
 | nil => simp [pd]
 | cons e a ih => simp [pd, ih]; omega
theorem length_pd (ps : List Pr) : ps.length ≤ pd ps := by
 induction ps with
 | nil => simp
 | cons e a ih => simp [pd]; omega
theorem length_cells2 (ps : List Pr) : (cells2 ps).length = ps.length * 2 := by
 induction ps with
 | nil => rfl
 | cons h hs ih => simp [cells2, Pr.cells] at *; omega
theorem cells2_append (a b : List Pr) : cells2 (a ++ b) = cells2 a ++ cells2 b := by simp [cells2]
structure Pair (B : Nat) (w : World) (p : Pr) : Prop where
 row : Row w (fun b => b < B) p.A p.l.length p.c p.l
 row' : Row w (fun b => b < B) p.B p.m.length p.d p.m
 same : p.l.length = p.m.length
theorem Pair.below {B B' : Nat} {w w' : World} {p : Pr} (h : Pair B w p) (hb : Below B' w w') (hB : B ≤ B') : Pair B w' p :=
 ⟨h.row.below hb fun _ hb => by omega, h.row'.below hb fun _ hb => by omega, h.same⟩
theorem ownsRow_pop2 {w : World} {base : Nat} {e : TypeId} {V : Option Addr} {n c : Nat} {xs : List Value} {u v : Value} (h : w.ownsRow base e 2 (.slice V (n + 1) c) (n + 1) (xs ++ [u, v])) : w.ownsRow base e 2 (.slice V n c) n xs := by
 obtain ⟨hl, hr⟩ := h;simp at hl;have hl' : xs.length = n * 2 := by omega
 refine ⟨hl', ?_⟩;rcases hr with ⟨_, h0⟩ | ⟨g, cap, cur, hv, hb, hg, hn, hm, hs, ht⟩
 · omega
 · injection hv with h1 _ h2
   subst h1; subst h2;refine .inr ⟨g, c, cur, rfl, hb, hg, by omega, hm, hs, ?_⟩;have := congrArg (List.take (n * 2)) ht;rw [List.take_take, show min (n * 2) ((n + 1) * 2) = n * 2 by omega] at this;rw [this, ← hl'];exact List.take_left
def SOut (B : Nat) (w0 : World) (a b : It) (K : Nat) (work : Value) (wr : World) : Prop :=
 ∃ (ps : List Pr) (V : Option Addr) (c : Nat), work = .slice V ps.length c ∧ wr.ownsRow B 227 2 (.slice V ps.length c) ps.length (cells2 ps) ∧ (∀ p ∈ ps, Pair B wr p) ∧ pd ps ≤ K ∧ K ≤ 200001 ∧
  (a = b ↔ ∀ p ∈ ps, p.l = p.m) ∧ Below B w0 wr
def SIn (B : Nat) (w0 : World) (a b : It) (q : Pr) (gp : Nat) (K : Nat) (work i : Value) (wr : World) : Prop :=
 ∃ (k : Nat) (ps : List Pr) (V : Option Addr) (c : Nat), k ≤ q.l.length ∧ i = .int .i64 k ∧ work = .slice V ps.length c ∧ wr.ownsRow B 227 2 (.slice V ps.length c) ps.length (cells2 ps) ∧ (∀ p ∈ ps, Pair B wr p) ∧
  pd ps + wts (q.l.drop k) ≤ K ∧ (a = b ↔ (∀ p ∈ ps, p.l = p.m) ∧ q.l.drop k = q.m.drop k) ∧ Below B w0 wr ∧ Blk wr gp 227 #[.slice q.A q.l.length q.c, .slice q.B q.m.length q.d] ∧ (Value.slice V ps.length c).ownBlock ≠ some gp ∧ Pair B wr q
theorem it_eq_iff (x y : It) : x = y ↔ x.kind = y.kind ∧ x.num = y.num ∧ x.str = y.str ∧ x.kids = y.kids := by
 cases x; cases y;simp [It.kind, It.num, It.str, It.kids]
theorem toList_inj (x y : ByteArray) : x.toList = y.toList ↔ x = y := by
 rw [ByteArray.toList_eq, ByteArray.toList_eq];constructor
 · intro h
   cases x; cases y;simpa using h
 · rintro rfl; rfl
set_option maxRecDepth 100000 in
set_option maxHeartbeats 4000000 in
theorem same_item (a b : It) (A1 A2 : Option Addr) (c1 c2 : Nat) (S : Nat → Prop) (w : World) (h1 : Lies w S a A1 c1) (h2 : Lies w S b A2 c2) (hS : ∀ b, S b → b < w.heap.size) (hsz : wt a ≤ 100000) :
 Calls Tryz.prog 108 #[.agg #[.int .i64 a.kind, .int .u64 (a.num : Int), .string a.str, .slice A1 a.kids.length c1], .agg #[.int .i64 b.kind, .int .u64 (b.num : Int), .string b.str, .slice A2 b.kids.length c2]] w (Tells (same a b) w) := by
 obtain ⟨i0, hi, hz0, hz1, hz2⟩ := info_parts info68;have H1 := hid h1;have H2 := hid h2;have HS := hid hS;clear h1 h2 hS;have HT := hid (same_iff a b);generalize same a b = t at HT ⊢;go_enter Tryz.func108, Tryz.ntmps108
 go_wp2_with fail
 have ha1 : Lies ((w.alloc (.cells #[.int .i64 a.kind, .int .u64 (a.num : Int), .string a.str, .slice A1 a.kids.length c1] 95)).alloc (.cells #[.int .i64 b.kind, .int .u64 (b.num : Int), .string b.str, .slice A2 b.kids.length c2] 95)) (fun b => b < w.heap.size + 2) a A1 c1 :=
  ((H1.out.alloc _).alloc _).more fun b hb _ => by have := HS.out b hb; omega
 have hb1 : Lies ((w.alloc (.cells #[.int .i64 a.kind, .int .u64 (a.num : Int), .string a.str, .slice A1 a.kids.length c1] 95)).alloc (.cells #[.int .i64 b.kind, .int .u64 (b.num : Int), .string b.str, .slice A2 b.kids.length c2] 95)) (fun b => b < w.heap.size + 2) b A2 c2 :=
  ((H2.out.alloc _).alloc _).more fun b hb _ => by have := HS.out b hb; omega
 have hw2 : Below w.heap.size w ((w.alloc (.cells #[.int .i64 a.kind, .int .u64 (a.num : Int), .string a.str, .slice A1 a.kids.length c1] 95)).alloc (.cells #[.int .i64 b.kind, .int .u64 (b.num : Int), .string b.str, .slice A2 b.kids.length c2] 95)) := bel_alloc (bel_alloc (Below.refl _ _) _) _;have hsz2 : ((w.alloc (.cells #[.int .i64 a.kind, .int .u64 (a.num : Int), .string a.str, .slice A1 a.kids.length c1] 95)).alloc (.cells #[.int .i64 b.kind, .int .u64 (b.num : Int), .string b.str, .slice A2 b.kids.length c2] 95)).heap.size = w.heap.size + 2 := by simp only [size_alloc]
 generalize (w.alloc (.cells #[.int .i64 a.kind, .int .u64 (a.num : Int), .string a.str, .slice A1 a.kids.length c1] 95)).alloc (.cells #[.int .i64 b.kind, .int .u64 (b.num : Int), .string b.str, .slice A2 b.kids.length c2] 95) = W2 at ha1 hb1 hw2 hsz2 ⊢
 have hst : SOut (w.heap.size + 4) (((W2.alloc (.cells #[.int .i64 a.kind, .int .u64 (a.num : Int), .string a.str, .slice A1 a.kids.length c1] 95)).alloc (.cells #[.int .i64 b.kind, .int .u64 (b.num : Int), .string b.str, .slice A2 b.kids.length c2] 95)).alloc (.cells #[.slice (some ⟨w.heap.size + 2, 0, none⟩) 1 1, .slice (some ⟨w.heap.size + 3, 0, none⟩) 1 1] 227)) a b (wt a + 1) (.slice (some ⟨w.heap.size + 4, 0, none⟩) 1 1)
  (((W2.alloc (.cells #[.int .i64 a.kind, .int .u64 (a.num : Int), .string a.str, .slice A1 a.kids.length c1] 95)).alloc (.cells #[.int .i64 b.kind, .int .u64 (b.num : Int), .string b.str, .slice A2 b.kids.length c2] 95)).alloc (.cells #[.slice (some ⟨w.heap.size + 2, 0, none⟩) 1 1, .slice (some ⟨w.heap.size + 3, 0, none⟩) 1 1] 227)) := by
  refine ⟨[⟨some ⟨w.heap.size + 2, 0, none⟩, 1, [a], some ⟨w.heap.size + 3, 0, none⟩, 1, [b]⟩], _, 1, rfl, ?_, ?_, by simp [pd, wts], by omega, by simp, Below.refl _ _⟩
  · have := World.ownsRow_lit (base := w.heap.size + 4) (e := 227) (size := 2) ((W2.alloc (.cells #[.int .i64 a.kind, .int .u64 (a.num : Int), .string a.str, .slice A1 a.kids.length c1] 95)).alloc (.cells #[.int .i64 b.kind, .int .u64 (b.num : Int), .string b.str, .slice A2 b.kids.length c2] 95)) #[.slice (some ⟨w.heap.size + 2, 0, none⟩) 1 1, .slice (some ⟨w.heap.size + 3, 0, none⟩) 1 1] 1 (by simp only [size_alloc, hsz2]; omega) (by simp [maxLen]) rfl
    simp only [size_alloc, hsz2] at this;exact this
  · intro p hp
    rw [List.mem_singleton.1 hp];have r1 := row_lit W2 [⟨a, A1, c1⟩] #[.int .i64 a.kind, .int .u64 (a.num : Int), .string a.str, .slice A1 a.kids.length c1] 1 rfl rfl (by omega) (by intro h hh; rw [List.mem_singleton.1 hh, hsz2]; exact ha1);have r2 := row_lit (W2.alloc (.cells #[.int .i64 a.kind, .int .u64 (a.num : Int), .string a.str, .slice A1 a.kids.length c1] 95)) [⟨b, A2, c2⟩] #[.int .i64 b.kind, .int .u64 (b.num : Int), .string b.str, .slice A2 b.kids.length c2] 1 rfl rfl (by omega) (by intro h hh; rw [List.mem_singleton.1 hh]; exact (hb1.alloc _).more fun b hb _ => by rw [size_alloc, hsz2]; omega);rw [size_alloc, hsz2] at r2;rw [hsz2] at r1;refine ⟨?_, ?_, rfl⟩
    · refine Row.keep (S := fun b => b < w.heap.size + 2 + 1) r1 (fun b hb _ => by show b < w.heap.size + 4; omega) (by simp only [size_alloc]; omega) fun q _ hq => ?_
      exact (World.cell?_alloc_lt _ _ q (by simp only [size_alloc] at *; omega)).trans (World.cell?_alloc_lt _ _ q hq)
    · exact Row.keep (S := fun b => b < w.heap.size + 2 + 1 + 1) r2 (fun b hb _ => by show b < w.heap.size + 4; omega) (by simp only [size_alloc]; omega) fun q _ hq => World.cell?_alloc_lt _ _ q hq
 have hbw0 : Below w.heap.size w (((W2.alloc (.cells #[.int .i64 a.kind, .int .u64 (a.num : Int), .string a.str, .slice A1 a.kids.length c1] 95)).alloc (.cells #[.int .i64 b.kind, .int .u64 (b.num : Int), .string b.str, .slice A2 b.kids.length c2] 95)).alloc (.cells #[.slice (some ⟨w.heap.size + 2, 0, none⟩) 1 1, .slice (some ⟨w.heap.size + 3, 0, none⟩) 1 1] 227)) := bel_alloc (bel_alloc (bel_alloc hw2 _) _) _;have hsz5 : (((W2.alloc (.cells #[.int .i64 a.kind, .int .u64 (a.num : Int), .string a.str, .slice A1 a.kids.length c1] 95)).alloc (.cells #[.int .i64 b.kind, .int .u64 (b.num : Int), .string b.str, .slice A2 b.kids.length c2] 95)).alloc (.cells #[.slice (some ⟨w.heap.size + 2, 0, none⟩) 1 1, .slice (some ⟨w.heap.size + 3, 0, none⟩) 1 1] 227)).heap.size = w.heap.size + 5 := by simp only [size_alloc, hsz2]
 generalize ((W2.alloc (.cells #[.int .i64 a.kind, .int .u64 (a.num : Int), .string a.str, .slice A1 a.kids.length c1] 95)).alloc (.cells #[.int .i64 b.kind, .int .u64 (b.num : Int), .string b.str, .slice A2 b.kids.length c2] 95)).alloc (.cells #[.slice (some ⟨w.heap.size + 2, 0, none⟩) 1 1, .slice (some ⟨w.heap.size + 3, 0, none⟩) 1 1] 227) = W5 at hst hbw0 hsz5 ⊢;have HBW0 := hid hbw0;have HSZ5 := hid hsz5;clear ha1 hb1 hw2 hsz2 hbw0 hsz5;go_loopg [5] (wt a + 1) (SOut (w.heap.size + 4) W5 a b)
 case atStart => exact hst
 case round =>
  clear hst;obtain ⟨ps, V, c, rfl, hown, hpr, hpd, hK, hiff, hbw⟩ := hrel;rcases List.eq_nil_or_concat ps with rfl | ⟨ps', ⟨pA, pc, pl, pB, pdd, pm⟩, rfl⟩
  · have HIFF := hid hiff
    have HBW := hid hbw;clear hiff hbw hown hpr;simp only [List.length_nil];go_wp2_with fail
    go_ret;refine ⟨?_, HBW0.out.trans (HBW.out.mono (by omega))⟩;have : t = true := HT.out.2 (HIFF.out.2 (by simp));subst this;rfl
  · rw [List.concat_eq_append] at *
    have hes : (ps' ++ [(⟨pA, pc, pl, pB, pdd, pm⟩ : Pr)]).length = ps'.length + 1 := (by simp);rw [hes];have hml : ps'.length ≤ 200001 := (by have := length_pd (ps' ++ [(⟨pA, pc, pl, pB, pdd, pm⟩ : Pr)]); omega);rw [pd_append] at hpd;simp only [pd] at hpd;rw [hes, cells2_append] at hown;have hown' : wr.ownsRow (w.heap.size + 4) 227 2 (.slice V (ps'.length + 1) c) (ps'.length + 1) (cells2 ps' ++ [.slice pA pl.length pc, .slice pB pm.length pdd]) := hown;obtain ⟨gw, cw, hV, hgw, hgwlt⟩ := hown'.form (by omega);injection hV with hV _ hcw;subst hV; subst hcw;have hl2 := length_cells2 ps';have q1 := hown'.cells (g := gw) rfl (ps'.length * 2) (.slice pA pl.length pc) (by rw [List.getElem?_append_right (by omega), hl2, Nat.sub_self]; rfl);have q2 := hown'.cells (g := gw) rfl (ps'.length * 2 + 1) (.slice pB pm.length pdd) (by rw [List.getElem?_append_right (by omega), hl2, Nat.add_sub_cancel_left]; rfl);rw [Addr.add_lit, Nat.zero_add] at q1 q2
    have hcapc : ps'.length + 1 ≤ c ∧ c ≤ 9223372036854775807 := by
     rcases hown'.2 with ⟨_, h0⟩ | ⟨g9, cap9, cur9, e9, _, _, h91, h92, _⟩
     · omega
     · injection e9 with _ _ e9
       subst e9;unfold maxLen at h92;exact ⟨h91, h92⟩
    have hP : Pair (w.heap.size + 4) wr ⟨pA, pc, pl, pB, pdd, pm⟩ := hpr _ (by simp);have hwB : w.heap.size + 4 ≤ wr.heap.size := by have := hbw.size; have := HSZ5.out; omega
    have hiff2 : a = b ↔ (∀ p ∈ ps', p.l = p.m) ∧ pl.drop 0 = pm.drop 0 := by
     rw [hiff];constructor
     · intro h
       exact ⟨fun p hp => h p (by simp [hp]), h ⟨pA, pc, pl, pB, pdd, pm⟩ (by simp)⟩
     · rintro ⟨h1, h2⟩ p hp
       rcases List.mem_append.1 hp with hp | hp
       · exact h1 p hp
       · rw [List.mem_singleton.1 hp]
         exact h2
    have HST := hid (show SIn (w.heap.size + 4) W5 a b ⟨pA, pc, pl, pB, pdd, pm⟩ wr.heap.size (pd ps' + wts pl) (.slice (some ⟨gw, 0, none⟩) ps'.length c) (.int .i64 0) (wr.alloc (.cells #[.slice pA pl.length pc, .slice pB pm.length pdd] 227)) from
     ⟨0, ps', _, c, Nat.zero_le _, rfl, rfl, (ownsRow_pop2 hown').alloc _, fun p hp => (hpr p (by simp [hp])).below (bel_alloc (Below.refl _ _) _) hwB, by simp, hiff2, hbw.alloc hwB _, Blk.new _ _ _, by simp [Value.ownBlock]; omega, hP.below (bel_alloc (Below.refl _ _) _) hwB⟩)
    have hpl : pl.length ≤ 200001 := (by have := length_wts pl; omega);have hpc : pl.length ≤ pc ∧ pc ≤ 9223372036854775807 := ⟨hP.row.2.1.1, hP.row.2.1.2.1⟩
    have hpd' : pm.length ≤ pdd ∧ pdd ≤ 9223372036854775807 := ⟨hP.row'.2.1.1, hP.row'.2.1.2.1⟩
    have hlm : pl.length = pm.length := hP.same;have HLM := hid hlm;clear hes hown hown' hl2 hP hpr hiff hiff2 hbw hlm;go_wp2_with fail
    go_loopw [5, 33] (SIn (w.heap.size + 4) W5 a b ⟨pA, pc, pl, pB, pdd, pm⟩ wr.heap.size (pd ps' + wts pl)) (fun _ i _ => pl.length - (intOf i).toNat)
    case atStart => exact HST.out
    case round =>
     clear HST q1 q2;obtain ⟨k, ps, V, cw, hk, rfl, rfl, hown, hpr, hpd2, hiff, hbw, hgp, hne, hP⟩ := hrel;replace hk : k ≤ pl.length := hk;replace hpd2 : pd ps + wts (pl.drop k) ≤ pd ps' + wts pl := hpd2;replace hiff : a = b ↔ (∀ p ∈ ps, p.l = p.m) ∧ pl.drop k = pm.drop k := hiff;have hwB2 : w.heap.size + 4 ≤ wr.heap.size := (by have := hbw.size; have := HSZ5.out; omega);have hgplt := hgp.lt;have HO := hid hown;have HPR := hid hpr;have HIFF := hid hiff;have HBW := hid hbw;have HGP := hid hgp;have HNE := hid hne;have HP := hid hP;clear hown hpr hiff hbw hgp hne hP;have hps : ps.length ≤ 200001 := (by have := length_pd ps; omega);by_cases hlt : k < pl.length
     · have hltm : k < pm.length := by have := HLM.out; omega
       obtain ⟨ad1, X1, d1, rfl, _, hl1, hsp1, hL1⟩ := HP.out.row.2.2 k pl[k] (List.getElem?_eq_getElem hlt);obtain ⟨ad2, X2, d2, rfl, _, hl2, hsp2, hL2⟩ := HP.out.row'.2.2 k pm[k] (List.getElem?_eq_getElem hltm);have hdr : pl.drop k = pl[k] :: pl.drop (k + 1) := List.drop_eq_getElem_cons hlt;have hdrm : pm.drop k = pm[k] :: pm.drop (k + 1) := List.drop_eq_getElem_cons hltm
       have hiff3 : a = b ↔ (∀ p ∈ ps, p.l = p.m) ∧ pl[k] = pm[k] ∧ pl.drop (k + 1) = pm.drop (k + 1) := by
        rw [HIFF.out, hdr, hdrm, List.cons.injEq]
       have hwt : wts (pl.drop k) = wt pl[k] + wts (pl.drop (k + 1)) := (by rw [hdr]; simp [wts]);rw [wt_eq] at hwt;have bx := hL1.bounds;have by' := hL2.bounds;generalize pl[k] = x at *;generalize pm[k] = y at *;obtain ⟨s0, s1, s2, s3⟩ := hsp1;generalize hea1 : ad1.add (k * 4) = ea1 at s0 s1 s2 s3;obtain ⟨r0, r1, r2, r3⟩ := hsp2;have hl2' : (ad2.add (k * 4)).block < wr.heap.size := (by rw [add_block]; exact hl2);generalize hea2 : ad2.add (k * 4) = ea2 at r0 r1 r2 r3 hl2';have t0 := (World.cell?_alloc_lt wr (.cells #[.int .i64 x.kind, .int .u64 (x.num : Int), .string x.str, .slice X1 x.kids.length d1] 95) ea2 hl2').trans r0;have t1 := (World.cell?_alloc_lt wr (.cells #[.int .i64 x.kind, .int .u64 (x.num : Int), .string x.str, .slice X1 x.kids.length d1] 95) ⟨ea2.block, ea2.off + 1, none⟩ hl2').trans r1;have t2 := (World.cell?_alloc_lt wr (.cells #[.int .i64 x.kind, .int .u64 (x.num : Int), .string x.str, .slice X1 x.kids.length d1] 95) ⟨ea2.block, ea2.off + 2, none⟩ hl2').trans r2;have t3 := (World.cell?_alloc_lt wr (.cells #[.int .i64 x.kind, .int .u64 (x.num : Int), .string x.str, .slice X1 x.kids.length d1] 95) ⟨ea2.block, ea2.off + 3, none⟩ hl2').trans r3;have hpb := (HGP.out.alloc (.cells #[.int .i64 x.kind, .int .u64 (x.num : Int), .string x.str, .slice X1 x.kids.length d1] 95)).cell 1;simp only [List.getElem?_toArray, List.getElem?_cons_succ, List.getElem?_cons_zero] at hpb;have HI3 := hid hiff3;have HWT := hid hwt;have HL1 := hid hL1;have HL2 := hid hL2;clear hiff3 hwt hdr hdrm r0 r1 r2 r3 hL1 hL2
       have hbe : Below w.heap.size w ((wr.alloc (.cells #[.int .i64 x.kind, .int .u64 (x.num : Int), .string x.str, .slice X1 x.kids.length d1] 95)).alloc (.cells #[.int .i64 y.kind, .int .u64 (y.num : Int), .string y.str, .slice X2 y.kids.length d2] 95)) :=
        HBW0.out.trans (((HBW.out.alloc hwB2 _).alloc (by rw [size_alloc]; omega) _).mono (by omega))
       have fin : x ≠ y → Tells t w (.returned (.bool false)) ((wr.alloc (.cells #[.int .i64 x.kind, .int .u64 (x.num : Int), .string x.str, .slice X1 x.kids.length d1] 95)).alloc (.cells #[.int .i64 y.kind, .int .u64 (y.num : Int), .string y.str, .slice X2 y.kids.length d2] 95)) := by
        intro h
        have : t = false := by
         rcases hb : t with _ | _
         · rfl
         · exact absurd (HI3.out.1 (HT.out.1 hb)).2.1 h
        rw [this];exact ⟨rfl, hbe⟩
       have FIN := hid fin;have HBE := hid hbe;clear fin hbe;by_cases e1 : x.kind = y.kind
       · have f1 : (x.kind != y.kind) = false := by rw [bne_eq_false_iff_eq]; exact e1
         have E1 := hid e1;clear e1;by_cases e2 : x.num = y.num
         · have f2 : ((x.num : Int) != (y.num : Int)) = false := by rw [bne_eq_false_iff_eq]; omega
           have E2 := hid e2;clear e2;by_cases e3 : x.str = y.str
           · have f3 : x.str.toList = y.str.toList := by rw [e3]
             have f3' : (x.str.toList == y.str.toList) = true := (by simp [f3]);have E3 := hid e3;clear e3;by_cases e4 : x.kids.length = y.kids.length
             · have f4 : ((x.kids.length : Int) != (y.kids.length : Int)) = false := by rw [bne_eq_false_iff_eq]; omega
               have E4 := hid e4;clear e4;by_cases h0 : 0 < x.kids.length
               · have hnb : Blk (((wr.alloc (.cells #[.int .i64 x.kind, .int .u64 (x.num : Int), .string x.str, .slice X1 x.kids.length d1] 95)).alloc (.cells #[.int .i64 y.kind, .int .u64 (y.num : Int), .string y.str, .slice X2 y.kids.length d2] 95)).alloc (.cells #[.slice X1 x.kids.length d1, .slice X2 y.kids.length d2] 227)) (wr.heap.size + 1 + 1) 227 #[.slice X1 x.kids.length d1, .slice X2 y.kids.length d2] := by
                  have := Blk.new ((wr.alloc (.cells #[.int .i64 x.kind, .int .u64 (x.num : Int), .string x.str, .slice X1 x.kids.length d1] 95)).alloc (.cells #[.int .i64 y.kind, .int .u64 (y.num : Int), .string y.str, .slice X2 y.kids.length d2] 95)) 227 #[.slice X1 x.kids.length d1, .slice X2 y.kids.length d2];rwa [size_alloc, size_alloc] at this
                 have HNB := hid (World.news_of_block hnb);clear hnb;go_wp2_with (at_builtin; refine wpList_append_lies _ rfl (.tmp 75) (.tmp 81) 228 rfl (w.heap.size + 4) 227 i0 _ 2 48 Tryz.underlying228 hi hz0 hz1 hz2 rfl (by omega) (.slice V ps.length cw) ps.length (cells2 ps) rfl (((HO.out.alloc _).alloc _).alloc _) ⟨wr.heap.size + 1 + 1, 0, none⟩ 1 1 [.slice X1 x.kids.length d1, .slice X2 y.kids.length d2] rfl rfl HNB.out (by intro u hu; simp at hu; rcases hu with rfl | rfl <;> rfl) (by omega) (by unfold maxLen; omega) (by omega) (by simp only [size_alloc]; omega) (wr.heap.size + 3) (by simp only [size_alloc]) ?_; intro g' cap' w7 hown7 hgr7 hat7 hlt7)
                 have hb3 : Below wr.heap.size wr (((wr.alloc (.cells #[.int .i64 x.kind, .int .u64 (x.num : Int), .string x.str, .slice X1 x.kids.length d1] 95)).alloc (.cells #[.int .i64 y.kind, .int .u64 (y.num : Int), .string y.str, .slice X2 y.kids.length d2] 95)).alloc (.cells #[.slice X1 x.kids.length d1, .slice X2 y.kids.length d2] 227)) := bel_alloc (bel_alloc (bel_alloc (Below.refl _ _) _) _) _;have hb7 : Below (w.heap.size + 4) wr w7 := (hb3.mono hwB2).trans (gr_below hgr7 (by simp only [size_alloc]; omega) fun b hb => (HO.out.lt b hb).1);have hes2 : (ps ++ [(⟨X1, d1, x.kids, X2, d2, y.kids⟩ : Pr)]).length = ps.length + 1 := (by simp);refine ⟨⟨k + 1, ps ++ [⟨X1, d1, x.kids, X2, d2, y.kids⟩], _, cap', by show k + 1 ≤ pl.length; omega, by simp, by rw [hes2], by rw [hes2, cells2_append]; exact hown7, ?_, ?_, ?_, HBW.out.trans hb7, ?_, ?_, HP.out.below hb7 (Nat.le_refl _)⟩, by simp [intOf]; omega⟩
                 · intro p hp
                   rcases List.mem_append.1 hp with hp | hp
                   · exact (HPR.out p hp).below hb7 (Nat.le_refl _)
                   · rw [List.mem_singleton.1 hp]
                     exact ⟨HL1.out.row.below hb7 fun _ h => h, HL2.out.row.below hb7 fun _ h => h, E4.out⟩
                 · rw [pd_append]
                   simp only [pd];have := HWT.out;show pd ps + (wts x.kids + 1 + 0) + wts (pl.drop (k + 1)) ≤ pd ps' + wts pl;omega
                 · rw [HI3.out, it_eq_iff]
                   constructor
                   · rintro ⟨g1, ⟨_, _, _, g2⟩, g3⟩
                     refine ⟨fun p hp => ?_, g3⟩;rcases List.mem_append.1 hp with hp | hp
                     · exact g1 p hp
                     · rw [List.mem_singleton.1 hp]
                       exact g2
                   · rintro ⟨g1, g3⟩
                     exact ⟨fun p hp => g1 p (by simp [hp]), ⟨E1.out, E2.out, E3.out, g1 ⟨X1, d1, x.kids, X2, d2, y.kids⟩ (by simp)⟩, g3⟩
                 · exact (((HGP.out.alloc _).alloc _).alloc _).grown hgr7 fun e => HNE.out e.symm
                 · rcases hat7 with h | h
                   · intro e
                     exact HNE.out (h.trans (by simpa [Value.ownBlock] using e))
                   · simp [Value.ownBlock]
                     omega
               · have hk0 : x.kids = [] := List.eq_nil_of_length_eq_zero (by omega)
                 have hk1 : y.kids = [] := List.eq_nil_of_length_eq_zero (by have := E4.out; omega);have HK0 := hid hk0;have HK1 := hid hk1;clear hk0 hk1;go_wp2_with fail
                 have hb3 : Below wr.heap.size wr ((wr.alloc (.cells #[.int .i64 x.kind, .int .u64 (x.num : Int), .string x.str, .slice X1 x.kids.length d1] 95)).alloc (.cells #[.int .i64 y.kind, .int .u64 (y.num : Int), .string y.str, .slice X2 y.kids.length d2] 95)) := bel_alloc (bel_alloc (Below.refl _ _) _) _;have hb7 := hb3.mono hwB2;refine ⟨⟨k + 1, ps, V, cw, by show k + 1 ≤ pl.length; omega, by simp, rfl, (HO.out.alloc _).alloc _, fun p hp => (HPR.out p hp).below hb7 (Nat.le_refl _), ?_, ?_, HBW.out.trans hb7, (HGP.out.alloc _).alloc _, HNE.out, HP.out.below hb7 (Nat.le_refl _)⟩, by simp [intOf]; omega⟩
                 · have := HWT.out
                   show pd ps + wts (pl.drop (k + 1)) ≤ pd ps' + wts pl;omega
                 · rw [HI3.out, it_eq_iff]
                   constructor
                   · rintro ⟨g1, _, g3⟩
                     exact ⟨g1, g3⟩
                   · rintro ⟨g1, g3⟩
                     exact ⟨g1, ⟨E1.out, E2.out, E3.out, by rw [HK0.out, HK1.out]⟩, g3⟩
             · have f4 : ((x.kids.length : Int) != (y.kids.length : Int)) = true := by rw [bne_iff_ne]; omega
               have E4 := hid e4;clear e4;go_wp2_with fail
               go_ret;exact FIN.out fun h => E4.out (by rw [h])
           · have f3 : ¬ x.str.toList = y.str.toList := fun h => e3 ((toList_inj _ _).1 h)
             have f3' : (x.str.toList == y.str.toList) = false := (by simpa using f3);have E3 := hid e3;clear e3;go_wp2_with fail
             go_ret;exact FIN.out fun h => E3.out (by rw [h])
         · have f2 : ((x.num : Int) != (y.num : Int)) = true := by rw [bne_iff_ne]; omega
           have E2 := hid e2;clear e2;go_wp2_with fail
           go_ret;exact FIN.out fun h => E2.out (by rw [h])
       · have f1 : (x.kind != y.kind) = true := by rw [bne_iff_ne]; exact e1
         have E1 := hid e1;clear e1;go_wp2_with fail
         go_ret;exact FIN.out fun h => E1.out (by rw [h])
     · obtain rfl : k = pl.length := by omega
       go_wp2_with fail
       go_roundg (pd ps)
       case measure => rw [List.drop_length] at hpd2; omega
       case rel =>
        refine ⟨ps, V, cw, rfl, HO.out, HPR.out, Nat.le_refl _, by omega, ?_, HBW.out⟩;have hm := HLM.out;have := HIFF.out;rw [List.drop_length, List.drop_of_length_le (by omega)] at this;simpa using this
end Go.Proofs.YtkejjdoaljoooaaGreatDoor
/- The document's Same of any two items tells whether they are the same. -/
namespace Go.Proofs.YtkejjdoaljoooaaGreatDoor
open Lib (hid)
open Go.RowKit Mem Cod
end Go.Proofs.YtkejjdoaljoooaaGreatDoor
