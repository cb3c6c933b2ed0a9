/-
  codec.Put: the form of a right item, or what is wrong with it; a fault goes up by a panic, and is caught.
-/
import Derived.Test.YthlhlhihllgfiaaCodPlantList
import Derived.Test.YthlhlhihllgfiaaCodWrite
import Derived.Defers
import Derived.Recover
import Derived.Laws.Pointers
import Derived.BigRegion
namespace Go.Proofs.Ythlhlhihllgfiaa
open Go.RowKit Mem Cod

/-- What Put's own function leaves. -/
def PutDone (x : It) (bb : Nat) (w : World) (e : Ending) (w' : World) : Prop :=
  (chk x 0 = 0 ∧ e = .returned (.tuple #[]) ∧ w.grownBy w' (some bb) ∧ ∃ A c, Blk w' bb 28 #[.slice A (form x).length c] ∧ Rd w' A (form x).length c (cs (form x)) ∧ ∀ ad, A = some ad → w.heap.size ≤ ad.block) ∨
  (chk x 0 ≠ 0 ∧ e = .panicked (flt (chk x 0) 0) ∧ Below w.heap.size w w')

set_option maxHeartbeats 2000000 in
theorem put1_any (x : It) (A : Option Addr) (c bx bb : Nat) (S : Nat → Prop) (w : World) (hx : Blk w bx 25 #[.int .i64 x.kind, .int .u64 (x.num : Int), .string x.str, .slice A x.kids.length c])
    (hb : Blk w bb 28 #[.slice none 0 0]) (hl : Lies w S x A c) (hS : ∀ b, S b → b < w.heap.size) (hsz : (form x).length ≤ 1000000) :
    Calls Try.prog 23 #[.pointer (some ⟨bx, 0, none⟩), .pointer (some ⟨bb, 0, none⟩)] w (PutDone x bb w) := by
  obtain ⟨i0, hi, hz0, hz1, hz2⟩ := info_parts info5
  have hbx := hx.lt
  have hbb := hb.lt
  obtain ⟨c0, c1, c2, c3⟩ := blk4 (hx.alloc (.cells #[.int .i64 0] 53))
  have HL := Lib.hid hl
  have HS := Lib.hid hS
  have HX := Lib.hid hx
  have HB := Lib.hid hb
  clear hl hS hx hb
  go_enter Try.func23, Try.ntmps23
  go_wp2_with fail
  refine (plant_any x A c 0 w.heap.size 0 S _ (by omega) (fun b hb => by have := HS.out b hb; omega) (HL.out.alloc _) (Blk.new w _ _) (by omega)).mono ?_
  rintro e w2 ⟨hg2, ⟨hc0, ⟨v, rfl, hnv⟩, hpl⟩ | ⟨hc0, rfl⟩⟩
  · have HC0 := Lib.hid hc0
    have HG2 := Lib.hid hg2
    have HNV := Lib.hid hnv
    clear hc0 hg2 hnv
    rw [Nat.zero_add] at hpl
    go_wp2_with fail
    refine (over_any w.heap.size (form x).length _ hpl (by omega)).mono ?_
    rintro e w3 ⟨rfl, rfl⟩
    have hcp : w2.cell? ⟨w.heap.size, 0, none⟩ = some (.int .i64 ((form x).length : Int)) := Blk.cell hpl 0
    generalize hF : (form x).length = F at hsz hcp hpl
    have HF := Lib.hid hF
    clear hF
    go_wp2_with (at_make; refine wpList_make_own _ rfl _ _ 28 rfl w2.heap.size 5 i0 _ 1 Try.underlying28 hi hz0 hz1 .i64 .i64 _ F rfl rfl (by omega) (by rw [hz2]; omega) (by unfold maxLen; omega) (Nat.le_refl _) ?_; intro w4 hown4 hg4)
    have hb2 : Blk w2 bb 28 #[.slice none 0 0] := (HB.out.alloc _).grown HG2.out (by simp; omega)
    have hs2 : w.heap.size + 1 ≤ w2.heap.size := by have := HG2.out.size; rw [size_alloc] at this; exact this
    have hs4 : w2.heap.size ≤ w4.heap.size := hg4.size
    have hnv4 : IsNode w4 (fun b => b < w2.heap.size) x v := HNV.out.grown hg4 fun b _ hb => ⟨by simp, hb⟩
    refine (write_any x v _ w2.heap.size 0 _ F [] w4 hnv4 (fun _ h => h) hown4 hs4 (by rw [HF.out]; omega)).mono ?_
    rintro e w5 ⟨V5, c5, rfl, hown5, hb5⟩
    have hb4 : Blk w5 bb 28 #[.slice none 0 0] := (hb2.grown hg4 (by simp)).below hb5 (by omega)
    have hcb : w5.cell? ⟨bb, 0, none⟩ = some (.slice none 0 0) := hb4.cell 0
    have hfb := hb4.soft 0
    rw [Nat.zero_add, List.nil_append, HF.out] at hown5
    rw [Nat.zero_add, HF.out]
    go_wp2_with fail
    go_end0
    refine .inl ⟨HC0.out, rfl, ?_, V5, c5, ?_, ?_, fun ad e => by subst e; have := (hown5.lt ad.block rfl).1; omega⟩
    · refine gr_set (below_gr ?_ _) (.inl rfl) _
      have h1 : Below w.heap.size w w2 := (bel_alloc (Below.refl _ _) _).trans (gr_below HG2.out (by rw [size_alloc]; omega) fun b hb => by cases hb; exact Nat.le_refl _)
      exact (h1.trans (gr_below hg4 (by omega) fun b hb => by cases hb)).trans (hb5.mono (by omega))
    · rw [HF.out]
      exact hb4.put 0 _
    · rw [HF.out]
      exact Rd.own (hown5.kept (gr_set (gr_refl w5 (some bb)) (.inl rfl) _) (.inr fun e => by have := (hown5.lt bb e).1; omega))
  · refine ⟨rfl, .inr ⟨hc0, rfl, ?_⟩⟩
    exact (bel_alloc (Below.refl _ _) _).trans (gr_below hg2 (by rw [size_alloc]; omega) fun b hb => by cases hb; exact Nat.le_refl _)

theorem caught1_panic (g : Nat) (e0 p0 : Int) (e q : Nat) (w : World) (hb : Blk w g 50 #[.int .i64 e0, .int .i64 p0]) :
    CallsD Try.prog 35 #[.pointer (some ⟨g, 0, none⟩)] (.panicking (flt e q)) w fun en u' w' =>
      en = .returned (.tuple #[]) ∧ u' = .panicking [{ v := .iface 50 (.agg #[.int .i64 (e : Int), .int .i64 (q : Int)]), recovered := true }] ∧ Blk w' g 50 #[.int .i64 (e : Int), .int .i64 (q : Int)] ∧ w.grownBy w' (some g) := by
  have hc0 : w.cell? ⟨g, 0, none⟩ = some (.int .i64 e0) := hb.cell 0
  have hc1 : w.cell? ⟨g, 1, none⟩ = some (.int .i64 p0) := hb.cell 1
  have hz0 := hb.soft 0
  have hz1 := hb.soft 1
  have ha := as_fault
  refine callsD_of_wpS Try.func35 rfl fun c₀ cs hu => ?_
  unfold flt at hu
  apply wpS_seq
  apply wpS_region
  simp [wpOpsS, go_sem, recoverD, hu, Try.ntmps35, Exit.thenS]
  apply wpS_seq
  apply wpS_region
  simp [wpOpsS, go_sem, Exit.thenS]
  refine wpS_cond (t := true) (by simp [Act.eval, Array.replicate]) ?_
  simp only [if_true]
  apply wpS_region
  simp [wpOpsS, go_sem, hc0, hc1, hz0, hz1, ha, bodyPostS, results, Try.results35]
  exact ⟨by simpa using (hb.put 0 (.int .i64 (e : Int))).put 1 (.int .i64 (q : Int)), gr_set (p := ⟨g, 1, none⟩) (gr_set (p := ⟨g, 0, none⟩) (gr_refl w (some g)) (.inl rfl) _) (.inl rfl) _⟩

theorem caught1_idle (g : Nat) (w : World) :
    CallsD Try.prog 35 #[.pointer (some ⟨g, 0, none⟩)] .returning w fun en u' w' => en = .returned (.tuple #[]) ∧ u' = .returning ∧ w' = w := by
  refine callsD_of_wpS Try.func35 rfl fun c₀ cs hu => ?_
  apply wpS_seq
  apply wpS_region
  simp [wpOpsS, go_sem, recoverD, hu, Try.ntmps35, Exit.thenS]
  apply wpS_seq
  apply wpS_region
  simp [wpOpsS, go_sem, Exit.thenS]
  refine wpS_cond (t := false) (by simp [Act.eval, Array.replicate]) ?_
  simp only [Bool.false_eq_true, if_false]
  refine wpS_of_wp (wp_skip ?_)
  cases c₀
  simp_all [bodyPostS, results, Try.results35]

/-- What a function that is handed to 'caught' comes to: it returns, or it throws a fault; the fault's own cell, in a new block, stays. -/
def Does (w : World) (P0 : World → Prop) (P1 : Nat → Nat → World → Prop) (e : Ending) (w' : World) : Prop :=
  w.heap.size < w'.heap.size ∧ Blk w' w.heap.size 50 #[.int .i64 0, .int .i64 0] ∧ ((e = .returned (.tuple #[]) ∧ P0 w') ∨ ∃ a b, e = .panicked (flt a b) ∧ P1 a b w')
/-- What 'caught' answers. -/
def Caught (w : World) (P0 : World → Prop) (P1 : Nat → Nat → World → Prop) (e : Ending) (w' : World) : Prop :=
  ∃ (a b : Nat) (w1 : World), e = .returned (.agg #[.int .i64 (a : Int), .int .i64 (b : Int)]) ∧ w1.grownBy w' (some w.heap.size) ∧ ((a = 0 ∧ b = 0 ∧ P0 w1) ∨ P1 a b w1)

theorem caught_any (k : Nat) (cap : Array Value) (w : World) (P0 : World → Prop) (P1 : Nat → Nat → World → Prop)
    (hk : ∀ W : World, (callFunc k cap).run Try.prog W = .ok (.enter k cap) W) (h : Calls Try.prog k cap (w.alloc (.cells #[.int .i64 0, .int .i64 0] 50)) (Does w P0 P1)) :
    Calls Try.prog 22 #[.func (.func k) #[] cap] w (Caught w P0 P1) := by
  have hmf : ∀ (fn : Fn) (first cap : Array Value) (w : World), (Instr.makeFunc fn first cap).run Try.prog w = .ok (.func fn first cap) w := fun _ _ _ _ => rfl
  have H := Lib.hid h
  clear h
  go_enter_defers Try.func22, Try.ntmps22
  go_wp2_with fail
  refine H.out.mono ?_
  rintro e w1 ⟨hs, hblk, ⟨rfl, h0⟩ | ⟨a, b, rfl, h1⟩⟩
  · have H0 := Lib.hid h0
    clear h0
    have hc0 : w1.cell? ⟨w.heap.size, 0, none⟩ = some (.int .i64 0) := hblk.cell 0
    have hc1 : w1.cell? ⟨w.heap.size, 1, none⟩ = some (.int .i64 0) := hblk.cell 1
    have hz0 := hblk.soft 0
    have hz1 := hblk.soft 1
    go_wp2_with fail
    refine leaves_cons (f := 35) (args := #[.pointer (some ⟨w.heap.size, 0, none⟩)]) (by simp) (by simp [go_sem]) ?_
    refine (caught1_idle w.heap.size _).mono ?_
    rintro e u' w2 ⟨rfl, rfl, rfl⟩
    have hblk2 : Blk ((w1.setCell ⟨w.heap.size, 0, none⟩ (.int .i64 0)).setCell ⟨w.heap.size, 1, none⟩ (.int .i64 0)) w.heap.size 50 #[.int .i64 0, .int .i64 0] := by
      simpa using (hblk.put 0 (.int .i64 0)).put 1 (.int .i64 0)
    have hd0 := hblk2.cell 0
    have hd1 := hblk2.cell 1
    simp only [List.getElem?_toArray, List.getElem?_cons_succ, List.getElem?_cons_zero] at hd0 hd1
    have hgr : w1.grownBy ((w1.setCell ⟨w.heap.size, 0, none⟩ (.int .i64 0)).setCell ⟨w.heap.size, 1, none⟩ (.int .i64 0)) (some w.heap.size) :=
      gr_set (p := ⟨w.heap.size, 1, none⟩) (gr_set (p := ⟨w.heap.size, 0, none⟩) (gr_refl w1 (some w.heap.size)) (.inl rfl) _) (.inl rfl) _
    generalize (w1.setCell ⟨w.heap.size, 0, none⟩ (.int .i64 0)).setCell ⟨w.heap.size, 1, none⟩ (.int .i64 0) = w3 at hd0 hd1 hgr
    simp [Leaves, settle, results, Try.results22, go_sem, hd0, hd1]
    exact ⟨0, 0, w1, rfl, hgr, .inl ⟨rfl, rfl, H0.out⟩⟩
  · refine leaves_cons (f := 35) (args := #[.pointer (some ⟨w.heap.size, 0, none⟩)]) (by simp) (by simp [go_sem]) ?_
    refine (caught1_panic w.heap.size 0 0 a b _ hblk).mono ?_
    rintro e u' w2 ⟨rfl, rfl, hblk2, hgr⟩
    have hd0 := hblk2.cell 0
    have hd1 := hblk2.cell 1
    simp only [List.getElem?_toArray, List.getElem?_cons_succ, List.getElem?_cons_zero] at hd0 hd1
    simp [Leaves, settle, results, Try.results22, go_sem, hd0, hd1]
    exact ⟨a, b, w1, rfl, hgr, .inr h1⟩

/-- What Put's function leaves, behind Put's own beginning: where all is well; where something is wrong. -/
def PutOk (x : It) (w : World) (w' : World) : Prop :=
  chk x 0 = 0 ∧ Below w.heap.size w w' ∧ w.heap.size + 2 < w'.heap.size ∧ ∃ A c, Blk w' (w.heap.size + 1) 28 #[.slice A (form x).length c] ∧ Rd w' A (form x).length c (cs (form x)) ∧ ∀ ad, A = some ad → w.heap.size + 3 ≤ ad.block
def PutNo (x : It) (w : World) (a b : Nat) (w' : World) : Prop :=
  chk x 0 ≠ 0 ∧ a = chk x 0 ∧ b = 0 ∧ Below w.heap.size w w' ∧ w.heap.size + 2 < w'.heap.size ∧ Blk w' (w.heap.size + 1) 28 #[.slice none 0 0]
theorem putdone_does {x : It} {w : World} {e : Ending} {w' : World} {o1 : Obj} (h : PutDone x (w.heap.size + 1) (((w.alloc o1).alloc (.cells #[.slice none 0 0] 28)).alloc (.cells #[.int .i64 0, .int .i64 0] 50)) e w') :
    Does ((w.alloc o1).alloc (.cells #[.slice none 0 0] 28)) (PutOk x w) (PutNo x w) e w' := by
  have hf : Blk (((w.alloc o1).alloc (.cells #[.slice none 0 0] 28)).alloc (.cells #[.int .i64 0, .int .i64 0] 50)) (w.heap.size + 2) 50 #[.int .i64 0, .int .i64 0] := by
    have := Blk.new ((w.alloc o1).alloc (.cells #[.slice none 0 0] 28)) 50 #[.int .i64 0, .int .i64 0]
    simpa only [size_alloc] using this
  have hb0 : Blk (((w.alloc o1).alloc (.cells #[.slice none 0 0] 28)).alloc (.cells #[.int .i64 0, .int .i64 0] 50)) (w.heap.size + 1) 28 #[.slice none 0 0] := by
    have := (Blk.new (w.alloc o1) 28 #[.slice none 0 0]).alloc (.cells #[.int .i64 0, .int .i64 0] 50)
    simpa only [size_alloc] using this
  have hw0 : Below w.heap.size w (((w.alloc o1).alloc (.cells #[.slice none 0 0] 28)).alloc (.cells #[.int .i64 0, .int .i64 0] 50)) := bel_alloc (bel_alloc (bel_alloc (Below.refl _ _) _) _) _
  have hsz0 : (((w.alloc o1).alloc (.cells #[.slice none 0 0] 28)).alloc (.cells #[.int .i64 0, .int .i64 0] 50)).heap.size = w.heap.size + 3 := by simp only [size_alloc]
  unfold Does
  simp only [size_alloc]
  generalize (((w.alloc o1).alloc (.cells #[.slice none 0 0] 28)).alloc (.cells #[.int .i64 0, .int .i64 0] 50)) = W at *
  rcases h with ⟨h0, rfl, hg, A, c, hb, hr, ha⟩ | ⟨h0, rfl, hb⟩
  · have := hg.size
    exact ⟨by omega, hf.grown hg (by simp), .inl ⟨rfl, h0, hw0.trans (gr_below hg (by omega) fun b hb => by cases hb; omega), by omega, A, c, hb, hr, fun ad e => by have := ha ad e; omega⟩⟩
  · have := hb.size
    exact ⟨by omega, hf.bel hb, .inr ⟨_, _, rfl, h0, rfl, rfl, hw0.trans (hb.mono (by omega)), by omega, hb0.bel hb⟩⟩

theorem cell_same {w : World} {p : Addr} {v : Value} (h : w.cell? p = some v) (q : Addr) : (w.setCell p v).cell? q = w.cell? q := by
  by_cases e : q = p
  · subst e
    rw [h]
    exact World.cell?_setCell_same w q v h
  · exact World.cell?_setCell_other w p q v (fun h => e h.symm)
theorem rd_grown {w w' : World} {A : Option Addr} {n c : Nat} {xs : List Value} {r : Option Nat} (h : Rd w A n c xs) (hg : w.grownBy w' r) (hr : ∀ ad, A = some ad → some ad.block ≠ r) : Rd w' A n c xs :=
  ⟨h.len, h.le, h.cap, h.nil, fun hn => by
    obtain ⟨ad, e, hb, hc⟩ := h.spot hn
    exact ⟨ad, e, by have := hg.size; omega, fun j u hu => (World.cell?_of_block (by rw [add_block]; exact hg.block _ hb (hr ad e))).trans (hc j u hu)⟩⟩

theorem call_put1 (cap : Array Value) (W : World) : (callFunc 23 cap).run Try.prog W = .ok (.enter 23 cap) W := by kernel_rfl

set_option maxHeartbeats 2000000 in
theorem put_item (x : It) (A : Option Addr) (c : Nat) (S : Nat → Prop) (w : World) (hl : Lies w S x A c) (hS : ∀ b, S b → b < w.heap.size) (hsz : (form x).length ≤ 1000000) :
    Calls Try.prog 11 #[.agg #[.int .i64 x.kind, .int .u64 (x.num : Int), .string x.str, .slice A x.kids.length c]] w (PutIs x w) := by
  have hmf : ∀ (fn : Fn) (first cap : Array Value) (w : World), (Instr.makeFunc fn first cap).run Try.prog w = .ok (.func fn first cap) w := fun _ _ _ _ => rfl
  have HL := Lib.hid hl
  have HS := Lib.hid hS
  clear hl hS
  go_enter Try.func11, Try.ntmps11
  go_wp2_with fail
  refine (caught_any 23 _ _ (PutOk x w) (PutNo x w) (call_put1 _) ?_).mono ?_
  · refine (put1_any x A c w.heap.size (w.heap.size + 1) S _ (((Blk.new w _ _).alloc _).alloc _) ((by have := Blk.new (w.alloc (.cells #[.int .i64 x.kind, .int .u64 (x.num : Int), .string x.str, .slice A x.kids.length c] 25)) 28 #[.slice none 0 0]; rw [size_alloc] at this; exact this.alloc _))
      (((HL.out.alloc _).alloc _).alloc _) (fun b hb => by have := HS.out b hb; simp only [size_alloc]; omega) hsz).mono ?_
    exact fun e w' h => putdone_does h
  simp only [Caught, size_alloc]
  rintro e w2 ⟨a, b, w1, rfl, hg, h⟩
  rcases h with ⟨rfl, rfl, h0, hbl, hs, A1, c1, hb1, hr1, ha1⟩ | ⟨h0, rfl, rfl, hbl, hs, hb1⟩
  · have hb2 := hb1.grown hg (by simp)
    have hr2 := rd_grown hr1 hg fun ad e => by have := ha1 ad e; simp; omega
    have hbw : Below w.heap.size w w2 := hbl.trans (gr_below hg (by omega) fun b hb => by cases hb; omega)
    have hs2 : w.heap.size + 2 < w2.heap.size := by have := hg.size; omega
    have hc : (w2.alloc (.cells #[.int .i64 0, .int .i64 0] 50)).cell? ⟨w.heap.size + 1, 0, none⟩ = some (.slice A1 (form x).length c1) := (hb2.alloc _).cell 0
    have hz := (hb2.alloc (.cells #[.int .i64 0, .int .i64 0] 50)).soft 0
    have HB2 := Lib.hid hb2
    have H0 := Lib.hid h0
    have HR2 := Lib.hid hr2
    have HBW := Lib.hid hbw
    clear hb1 hr1 ha1 hbl hs hg h0 hr2 hbw hb2
    go_wp2_with fail
    go_region
    go_wp2_with fail
    have hfin : ((w2.alloc (.cells #[.int .i64 0, .int .i64 0] 50)).setCell ⟨w.heap.size + 1, 0, none⟩ (.slice A1 (form x).length c1)).drew.cell? ⟨w.heap.size + 1, 0, none⟩ = some (.slice A1 (form x).length c1) := (cell_same hc _).trans hc
    refine bodyPost_ret (v := .tuple #[.slice A1 (form x).length c1, .int .i64 0]) (by simp [results, Try.results11, go_sem, hfin]) rfl ?_
    refine ⟨A1, _, c1, by rw [H0.out]; rfl, ?_, ?_⟩
    · rw [if_pos H0.out]
      exact (HR2.out.alloc _).keep (w' := ((w2.alloc (.cells #[.int .i64 0, .int .i64 0] 50)).setCell ⟨w.heap.size + 1, 0, none⟩ (.slice A1 (form x).length c1)).drew) (by simp [World.setCell]) fun p _ => cell_same hc p
    · exact ((bel_alloc HBW.out _).setCell (p := ⟨w.heap.size + 1, 0, none⟩) (by simp) _).drew
  · have hb2 := hb1.grown hg (by simp)
    have hbw : Below w.heap.size w w2 := hbl.trans (gr_below hg (by omega) fun b hb => by cases hb; omega)
    have hs2 : w.heap.size + 2 < w2.heap.size := by have := hg.size; omega
    generalize hV : chk x 0 = v at h0
    have HV := Lib.hid hV
    have H0 := Lib.hid h0
    have hc : (w2.alloc (.cells #[.int .i64 (v : Int), .int .i64 0] 50)).cell? ⟨w.heap.size + 1, 0, none⟩ = some (.slice none 0 0) := (hb2.alloc _).cell 0
    have hz := (hb2.alloc (.cells #[.int .i64 (v : Int), .int .i64 0] 50)).soft 0
    have HBW := Lib.hid hbw
    clear hb1 hbl hs hg h0 hbw hb2 hV
    go_wp2_with fail
    go_region
    go_wp2_with fail
    have hfin : ((w2.alloc (.cells #[.int .i64 (v : Int), .int .i64 0] 50)).setCell ⟨w.heap.size + 1, 0, none⟩ (.slice none 0 0)).drew.cell? ⟨w.heap.size + 1, 0, none⟩ = some (.slice none 0 0) := (cell_same hc _).trans hc
    refine bodyPost_ret (v := .tuple #[.slice none 0 0, .int .i64 (v : Int)]) (by simp [results, Try.results11, go_sem, hfin]) rfl ?_
    refine ⟨none, 0, 0, by rw [HV.out], ?_, ?_⟩
    · rw [if_neg (by rw [HV.out]; exact H0.out)]
      exact Rd.nil_ _
    · exact ((bel_alloc HBW.out _).setCell (p := ⟨w.heap.size + 1, 0, none⟩) (by simp) _).drew
end Go.Proofs.Ythlhlhihllgfiaa
