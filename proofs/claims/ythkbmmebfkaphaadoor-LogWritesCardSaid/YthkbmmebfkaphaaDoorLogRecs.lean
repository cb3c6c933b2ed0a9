/-
  Texts of earlier layers, as one.
-/
import Derived.Test.YthkbmmebfkaphaaDoorLogFirst
import Derived.RangeFuncNested
import Derived.RangeFuncBound
import Derived.RangeFuncCalls
import Derived.RangeFuncLeaves
import Derived.Shelf.Abstract
import Derived.Shelf.RegionOpen
import Derived.OwnWalkIn
import Derived.TacticsInMore
import Derived.LoopNIn
import Derived.LoopIn
/- The program's records, as a range over a function: each record's piece of the bytes, and the place behind its form. -/
namespace Go.Proofs.YthkbmmebfkaphaaDoor.Lg
open Go.RowKit Mem Go.Shelf

attribute [local go_sem] Oper.semAt_some

/-- A record that has come: a piece of the bytes, and the place behind its form. -/
structure Pc where
  V : Option Addr
  k : Nat
  p : List Nat
  e : Nat
def Pc.vals (x : Pc) : Array Value := #[.slice x.V x.p.length x.k, .int .i64 (x.e : Int)]
def PcOk (w : World) (x : Pc) : Prop := Rd w x.V x.p.length x.k (cs x.p) ∧ (∀ b ∈ x.p, b < 256) ∧ x.p.length ≤ 1048576 ∧ x.e ≤ 70368744177664
abbrev Piece (w : World) := { x : Pc // PcOk w x }
def lastE {w : World} (pre : List (Piece w)) : Nat := match pre.getLast? with | none => 0 | some x => x.1.e
def recs {w : World} (pre : List (Piece w)) : List (List Nat) := pre.map (·.1.p)
theorem lastE_snoc {w : World} (pre : List (Piece w)) (x : Piece w) : lastE (pre ++ [x]) = x.1.e := by simp [lastE]
theorem recs_snoc {w : World} (pre : List (Piece w)) (x : Piece w) : recs (pre ++ [x]) = recs pre ++ [x.1.p] := by simp [recs]
/-- What a round of the loop keeps: what lay below n₀, and one variable's box. -/
def Kp (n₀ Bs : Nat) (W W' : World) : Prop := Below n₀ W W' ∧ ∀ v, W.cell? ⟨Bs, 0, none⟩ = some v → W'.cell? ⟨Bs, 0, none⟩ = some v
theorem kp_t {n₀ Bs : Nat} {A B C : World} (h : Kp n₀ Bs A B) (k : Kp n₀ Bs B C) : Kp n₀ Bs A C := ⟨h.1.trans k.1, fun v hv => k.2 v (h.2 v hv)⟩
theorem kp_b {n₀ Bs : Nat} {w : World} (hn : n₀ ≤ w.heap.size) (W : World) (l : Nat) (o o' : Obj) (hl : w.heap.size ≤ l) (h : W.heap[l]? = some o) (ho : o.isCells = false) (hw : o.isWalk = false) : Kp n₀ Bs W (W.putObj l o') :=
  ⟨belowK_b hn W l o o' hl h ho hw, fun v hv => cell_kept hv (grownBy_putObj' W l o') (fun r e => by cases e; exact ⟨o, h, ho⟩)⟩

set_option maxRecDepth 100000 in
set_option maxHeartbeats 2000000 in
theorem recs1_in (n : Nat) (hn : 1 ≤ n) (w : World) (ht : Cr.Tab w) (A : Option Addr) (m c : Nat) (b : List Nat) (l : List (List Nat)) (r : List Nat) (hr : Rd w A m c (cs b)) (hb : ∀ x ∈ b, x < 256) (hm : m ≤ 70368744177664) (hrd : Reads b l r)
    (lk Bs : Nat) (J Jx : List (Piece w) → World → Prop) (W : World) (hW : Below w.heap.size w W) (hJ : AbidesFrom W.heap.size J)
    (hY : ∀ pre x W1, J pre W1 → pre.length < l.length → YieldAt Fence.wide (n - 1) Tryd.prog lk x.1.vals W1 fun e W' => (e = .returned (.bool true) ∧ J (pre ++ [x]) W' ∧ Kp w.heap.size Bs W1 W') ∨ (e = .returned (.bool false) ∧ Jx (pre ++ [x]) W'))
    (hBs : W.cell? ⟨Bs, 0, none⟩ = some (.slice A m c)) (h0 : J [] W) :
    CallsIn Fence.wide n Tryd.prog 49 #[.func (.yield lk) #[] #[], .pointer (some ⟨Bs, 0, none⟩)] W fun e W' => (∃ v, e = .returned v) ∧
      ((∃ ys : List (Piece w), (recs ys = l ∧ lastE ys = (forms l).length) ∧ J ys W') ∨ (∃ pre, True ∧ Jx pre W')) := by
  refine callsIn_of_wp Tryd.func49 rfl trivial ?_ rfl
  simp only [Tryd.ntmps49, List.size_toArray, List.length_cons, List.length_nil, Nat.reduceAdd, Nat.reduceSub, Array.replicate_succ, Array.replicate_zero, List.push_toArray, List.append_toArray, List.nil_append, List.cons_append]
  gi_wp2
  gi_loopw [3] (fun at_ wr => ∃ (pre : List (Piece w)) (l2 : List (List Nat)), at_ = .int .i64 (lastE pre : Int) ∧ l = recs pre ++ l2 ∧ lastE pre = (forms (recs pre)).length ∧ J pre wr ∧ Kp w.heap.size Bs W wr)
    (fun i _ => m - (intOf i).toNat)
  case atStart => exact ⟨[], l, rfl, rfl, rfl, h0, ⟨Below.refl _ _, fun v hv => hv⟩⟩
  case round =>
    obtain ⟨pre, l2, rfl, hl2, hle, hJs, hkp⟩ := hrel
    have hbl := hr.len
    rw [length_cs] at hbl
    have hwr := hW.trans hkp.1
    have hrw := hr.below hwr
    have hbe : b = forms (recs pre) ++ (forms l2 ++ r) := by rw [hrd.eq, hl2, forms_append, List.append_assoc]
    have ha : lastE pre ≤ m := by rw [hle, ← hbl, hbe, List.length_append]; omega
    have hdrop : b.drop (lastE pre) = forms l2 ++ r := by rw [hle, hbe, List.drop_left' rfl]
    have hcut := hrw.cut (k := lastE pre) ha
    rw [cs_drop, hdrop] at hcut
    have hsl : ∀ w, (Instr.slice 32 (.slice A m c) (some (.int .i64 ((lastE pre : Nat) : Int))) none none).run Tryd.prog w = .ok (.slice (cutA A c (lastE pre)) (m - lastE pre) (c - lastE pre)) w := fun w => run_cut 32 Tryd.underlying32 (fun w => by kernel_rfl) A m c (lastE pre) ha w
    have hlt2 : ∀ x ∈ forms l2 ++ r, x < 256 := fun x hx => hb x (by rw [hbe]; exact List.mem_append_right _ hx)
    have hf := lfirst_any _ _ _ _ wr (ht.below hwr) hcut hlt2 (by omega)
    have hcell := hkp.2 _ hBs
    have hJ2 : ∀ u, Below wr.heap.size wr u → J pre u := fun u hu => hJ pre wr u none hJs (Cod.below_gr hu none) (fun r e => by cases e)
    have hK2 : ∀ u, Below wr.heap.size wr u → Kp w.heap.size Bs W u := fun u hu => kp_t hkp ⟨hu.mono hwr.size, fun v hv => (hu.cell (World.block_lt_of_cell? _ _ hv)).trans hv⟩
    have HJ2 := Lib.hid hJ2
    have HK2 := Lib.hid hK2
    have HLE := Lib.hid hle
    cases l2 with
    | nil =>
      have hl3 : l = recs pre := by rw [hl2, List.append_nil]
      have hfn : first (forms [] ++ r) = none := hrd.no
      rw [hfn] at hf
      have HF := Lib.hid hf
      have HL3 := Lib.hid hl3
      clear hf hl3 hfn hbe hdrop hcut hlt2 hJ2 hK2 hJs hkp hwr hrw hl2 hle hbl hr hb hrd
      obtain ⟨a, hae⟩ : ∃ a, lastE pre = a := ⟨_, rfl⟩
      obtain ⟨VA, hVA⟩ : ∃ VA, cutA A c (lastE pre) = VA := ⟨_, rfl⟩
      rw [hVA] at HF hsl
      rw [hae] at HF hsl ha ⊢
      obtain ⟨vc, hvc⟩ : ∃ vc, c - a = vc := ⟨_, rfl⟩
      obtain ⟨vn, hvn⟩ : ∃ vn, m - a = vn := ⟨_, rfl⟩
      rw [hvc, hvn] at HF hsl
      have HAE := Lib.hid hae
      clear hVA hae hvc hvn
      have hw1 : IntKind.i64.wrap ((a : Int) + 0) = (a : Int) := by simp only [IntKind.wrap_i64]; omega
      gi_wp2_with fail
      refine ⟨trivial, ?_⟩
      refine (callsIn_wide.2 HF.out).mono ?_
      rintro e u ⟨rfl, hu⟩
      have HU := Lib.hid hu
      clear hu
      gi_wp2_with fail
      refine ⟨fun _ h => (by cases h), ?_⟩
      gi_wp2_with fail
      refine bodyPost_ret (results_none rfl _ _ _) rfl ?_
      exact ⟨⟨_, rfl⟩, .inl ⟨pre, ⟨HL3.out.symm, by rw [HL3.out, HLE.out]⟩, HJ2.out u HU.out⟩⟩
    | cons p l2 =>
      have hpl : p.length ≤ 1048576 := hrd.ok p (by rw [hl2]; simp)
      have hpb : ∀ x ∈ p, x < 256 := fun x hx => hlt2 x (by simp [forms, form, hx])
      have hfs : first (forms (p :: l2) ++ r) = some p := by rw [forms, List.append_assoc]; exact first_form hpl _
      rw [hfs] at hf
      have hfl := length_form p
      have hbl2 : lastE pre + (form p).length ≤ m := by rw [hle, ← hbl, hbe, forms, List.length_append, List.length_append, List.length_append]; omega
      obtain ⟨h, hh⟩ : ∃ h, Num.size p.length + 4 = h := ⟨_, rfl⟩
      have hdp : (forms (p :: l2) ++ r).drop h = p ++ (forms l2 ++ r) := by
        rw [← hh, forms, List.append_assoc]
        unfold form
        rw [← List.drop_drop, List.append_assoc, List.drop_left' (Num.length_put _), List.append_assoc]
        rfl
      have hcut0 := hr.cut (k := lastE pre) ha
      rw [cs_drop, hdrop] at hcut0
      have hpc := (hcut0.cut (k := h) (by omega)).take (k := p.length) (by omega)
      rw [cs_drop, cs_take, hdp, List.take_left' rfl] at hpc
      have hnx : (pre.length : Nat) < l.length := by
        have h1 : (recs pre).length = pre.length := by simp [recs]
        rw [hl2, List.length_append, h1, List.length_cons]
        omega
      obtain ⟨a, hae⟩ : ∃ a, lastE pre = a := ⟨_, rfl⟩
      obtain ⟨fl, hfe⟩ : ∃ fl, (form p).length = fl := ⟨_, rfl⟩
      rw [hae, hfe] at hbl2
      rw [hae] at hpc hf hsl hle ha ⊢
      obtain ⟨VA, hVA⟩ : ∃ VA, cutA A c a = VA := ⟨_, rfl⟩
      obtain ⟨vc, hvc⟩ : ∃ vc, c - a = vc := ⟨_, rfl⟩
      obtain ⟨vn, hvn⟩ : ∃ vn, m - a = vn := ⟨_, rfl⟩
      rw [hVA, hvc] at hpc
      rw [hVA, hvc, hvn] at hf hsl
      obtain ⟨XV, hXV⟩ : ∃ XV, cutA VA vc h = XV := ⟨_, rfl⟩
      obtain ⟨xk, hxk⟩ : ∃ xk, vc - h = xk := ⟨_, rfl⟩
      rw [hXV, hxk] at hpc
      have hf2 : Calls Tryd.prog 50 #[.slice VA vn vc] wr (fun e w' => e = .returned (.tuple #[.slice XV p.length xk, .int .i64 (fl : Int)]) ∧ Below wr.heap.size wr w') := hf.mono fun e w' q => ⟨q.1.trans (by rw [hh, hXV, hxk, hfe]), q.2⟩
      obtain ⟨x, hx⟩ : ∃ x : Piece w, x.1 = ⟨XV, xk, p, a + fl⟩ := ⟨⟨⟨XV, xk, p, a + fl⟩, hpc, hpb, hpl, by show a + fl ≤ _; omega⟩, rfl⟩
      have hv : x.1.vals = #[.slice XV p.length xk, .int .i64 ((a : Int) + (fl : Int))] := by rw [hx]; simp [Pc.vals]
      have hy := fun u hu => hY pre x u (HJ2.out u hu) hnx
      rw [hv] at hy
      have hrec : recs (pre ++ [x]) ++ l2 = l ∧ lastE (pre ++ [x]) = a + fl ∧ lastE (pre ++ [x]) = (forms (recs (pre ++ [x]))).length := by
        rw [recs_snoc, lastE_snoc, hx]
        refine ⟨by rw [hl2, List.append_assoc]; rfl, rfl, ?_⟩
        rw [forms_snoc, List.length_append, ← hle, hfe]
      have hfl5 := form_pos p
      rw [hfe] at hfl5
      have HF := Lib.hid hf2
      have HY := Lib.hid hy
      have HREC := Lib.hid hrec
      have HN := Lib.hid (And.intro hbl2 hfl5)
      have hw1 : IntKind.i64.wrap ((a : Int) + (fl : Int)) = (a : Int) + (fl : Int) := by simp only [IntKind.wrap_i64]; omega
      have hz : ((fl : Int) == 0) = false := by simp; omega
      clear hf hf2 hy hrec hbe hdrop hcut hlt2 hJ2 hK2 hJs hkp hwr hrw hl2 hle hbl hr hb hrd hh hdp hcut0 hfs hfl hbl2 hpc hv hx hXV hxk hVA hvc hvn hfe hfl5 hpb hnx HLE hae ha
      gi_wp2_with fail
      refine ⟨trivial, ?_⟩
      refine (callsIn_wide.2 HF.out).mono ?_
      rintro e u ⟨rfl, hu⟩
      have HU := Lib.hid hu
      obtain ⟨fn, tmps, assign, body, hy, hR⟩ := HY.out u hu
      clear hu
      gi_wp2_with fail
      refine hR.mono ?_
      rintro e W3 (⟨rfl, hJ3, hk3⟩ | ⟨rfl, hJx3⟩)
      · have HJ3 := Lib.hid hJ3
        have HK3 := Lib.hid (kp_t (HK2.out u HU.out) hk3)
        clear hJ3 hk3
        gi_wp2_with fail
        go_roundw
        case rel => exact ⟨pre ++ [x], l2, by rw [HREC.out.2.1, Int.natCast_add], HREC.out.1.symm, HREC.out.2.2, HJ3.out, HK3.out⟩
        case measure => have := HN.out; simp [intOf]; omega
      · have HJ3 := Lib.hid hJx3
        clear hJx3
        gi_wp2_with fail
        refine bodyPost_ret (results_none rfl _ _ _) rfl ?_
        exact ⟨⟨_, rfl⟩, .inr ⟨_, trivial, HJ3.out⟩⟩
end Go.Proofs.YthkbmmebfkaphaaDoor.Lg
