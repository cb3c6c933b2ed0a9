/-
  codec.Get: the item that bytes are, or what is wrong with them, and where; a fault goes up by a panic, and is caught.
-/
import Derived.Test.YthlhlhihllgfiaaCodHarvest
namespace Go.Proofs.Ythlhlhihllgfiaa
open Go.RowKit Mem Cod

/-- What Get's own function leaves. -/
def GetDone (b : List Nat) (bx : Nat) (w : World) (e : Ending) (w' : World) : Prop :=
  (∃ x, get b = .ok x 0 ∧ e = .returned (.tuple #[]) ∧ w.grownBy w' (some bx) ∧ ∃ A c, Blk w' bx 25 #[.int .i64 x.kind, .int .u64 (x.num : Int), .string x.str, .slice A x.kids.length c] ∧ Lies w' (fun b => w.heap.size ≤ b) x A c) ∨
  (∃ er q, get b = .bad er q ∧ e = .panicked (flt er q) ∧ Below w.heap.size w w')

set_option maxHeartbeats 2000000 in
theorem get1_any (b : List Nat) (A : Option Addr) (n c bb bx : Nat) (w : World) (hbb : Blk w bb 28 #[.slice A n c]) (hbx : Blk w bx 25 #[.int .i64 0, .int .u64 0, .string ⟨#[]⟩, .slice none 0 0])
    (hr : Rd w A n c (cs b)) (hb : ∀ x ∈ b, x < 256) (hn : n ≤ 1000000) :
    Calls Try.prog 30 #[.pointer (some ⟨bb, 0, none⟩), .pointer (some ⟨bx, 0, none⟩)] w (GetDone b bx w) := by
  have hlb := hr.len
  rw [length_cs] at hlb
  have c0 : w.cell? ⟨bb, 0, none⟩ = some (.slice A n c) := hbb.cell 0
  have hltx := hbx.lt
  have hltb := hbb.lt
  have hgt : decide ((1048576 : Int) < n) = false := by simp; omega
  have hA : 0 < n → ∀ ad, A = some ad → ad.block ≠ w.heap.size := fun h0 ad e => by
    obtain ⟨ad', e', hb', _⟩ := hr.spot h0
    cases e.symm.trans e'
    omega
  have HBB := Lib.hid hbb
  have HBX := Lib.hid hbx
  have HR := Lib.hid hr
  have HB := Lib.hid hb
  have HA := Lib.hid hA
  have HLB := Lib.hid hlb
  clear hbb hbx hr hb hA hlb
  go_enter Try.func30, Try.ntmps30
  go_wp2_with fail
  have hrn : Rdr (w.alloc (.cells #[.slice A n c, .int .i64 0] 61)) w.heap.size A n c 0 := Blk.new w _ _
  refine (item_any b w.heap.size A n c HA.out HB.out (by omega) 16 0 0 _ rfl hrn (HR.out.alloc _) (Nat.zero_le _)).mono ?_
  rintro e w2 ⟨hg2, ⟨x, q, v, htk, rfl, hnv, hrd⟩ | ⟨er, q, htk, rfl⟩⟩
  · have hgood := tk_good HB.out (by have := HLB.out; omega) 16 0 x q (by omega) htk
    have hq : q ≤ n := by have := hgood.2.2.2.1; have := HLB.out; omega
    have hwt : wt x ≤ 2000000 := by
      have h1 := wt_le_form x _ hgood.1
      rw [hgood.2.2.2.2, seg, List.length_take] at h1
      omega
    have c1 : w2.cell? ⟨w.heap.size, 1, none⟩ = some (.int .i64 (q : Int)) := Blk.cell hrd 1
    have hs2 : w.heap.size + 1 ≤ w2.heap.size := by have := hg2.size; rw [size_alloc] at this; exact this
    have hb2 : Below w.heap.size w w2 := (bel_alloc (Below.refl _ _) _).trans (gr_below hg2 (by rw [size_alloc]; omega) fun b hb => by cases hb; exact Nat.le_refl _)
    have c2 : w2.cell? ⟨bb, 0, none⟩ = some (.slice A n c) := (hb2.cell hltb).trans c0
    have HT := Lib.hid htk
    have HB2 := Lib.hid hb2
    have HNV := Lib.hid (hnv.keep (S' := fun b => b < w2.heap.size) x (fun b _ h => h) (Nat.le_refl _) fun _ _ _ => rfl)
    clear hgood htk hb2 hnv hg2
    by_cases hlt : q < n
    · have hltb : decide ((q : Int) < n) = true := by simp; omega
      go_wp2_with fail
      refine (fail_3p q _).mono ?_
      rintro e w3 ⟨rfl, rfl⟩
      refine ⟨rfl, .inr ⟨3, q, ?_, rfl, HB2.out⟩⟩
      rw [Cod.get, if_neg (by have := HLB.out; omega), HT.out]
      simp only
      rw [if_pos (by have := HLB.out; omega)]
    · have hltb : decide ((q : Int) < n) = false := by simp; omega
      go_wp2_with fail
      refine (harvest_any x v _ w2 HNV.out (fun b h => h) hwt).mono ?_
      rintro e w3 ⟨A3, c3, rfl, hl3, hb3⟩
      have hbx3 := HBX.out.below (HB2.out.trans (hb3.mono (by omega))) hltx
      obtain ⟨d0, d1, d2, d3⟩ := blk4 hbx3
      obtain ⟨z0, z1, z2, z3⟩ := blk4_soft hbx3
      have HL3 := Lib.hid hl3
      have HB3 := Lib.hid hb3
      clear hl3 hb3
      go_wp2_with fail
      go_end0
      obtain ⟨hk, hg⟩ := blk4_set hbx3 (.int .i64 x.kind) (.int .u64 (x.num : Int)) (.string x.str) (.slice A3 x.kids.length c3)
      refine .inl ⟨x, ?_, rfl, ?_, A3, c3, hk, ?_⟩
      · rw [Cod.get, if_neg (by have := HLB.out; omega), HT.out]
        simp only
        rw [if_neg (by have := HLB.out; omega)]
      · exact (below_gr (HB2.out.trans (HB3.out.mono (by omega))) _).trans hg
      · exact (HL3.out.grown hg fun b hb => by simp; omega).more fun b hb _ => by omega
  · refine ⟨rfl, .inr ⟨er, q, ?_, rfl, ?_⟩⟩
    · rw [Cod.get, if_neg (by have := HLB.out; omega), htk]
    · exact (bel_alloc (Below.refl _ _) _).trans (gr_below hg2 (by rw [size_alloc]; omega) fun b hb => by cases hb; exact Nat.le_refl _)

/-- What get tells, taken apart: the item, the error, the place. -/
def getX (b : List Nat) : It := match Cod.get b with | .ok x _ => x | .bad _ _ => .mk 0 0 ByteArray.empty []
def getE (b : List Nat) : Nat := match Cod.get b with | .ok _ _ => 0 | .bad e _ => e
def getP (b : List Nat) : Nat := match Cod.get b with | .ok _ _ => 0 | .bad _ p => p
theorem get_parts_ok {b : List Nat} {x : It} {q : Nat} (h : Cod.get b = .ok x q) : getX b = x ∧ getE b = 0 ∧ getP b = 0 := by simp [getX, getE, getP, h]
theorem get_parts_bad {b : List Nat} {e p : Nat} (h : Cod.get b = .bad e p) : getX b = .mk 0 0 ByteArray.empty [] ∧ getE b = e ∧ getP b = p := by simp [getX, getE, getP, h]
/-- What Get comes to. -/
def GetIs (b : List Nat) (w : World) (e : Ending) (w' : World) : Prop :=
  ∃ A c, e = .returned (.tuple #[.agg #[.int .i64 (getX b).kind, .int .u64 ((getX b).num : Int), .string (getX b).str, .slice A (getX b).kids.length c], .int .i64 (getE b : Int), .int .i64 (getP b : Int)]) ∧ Lies w' (fun b => w.heap.size ≤ b) (getX b) A c ∧ Below w.heap.size w w'

def GetOk (b : List Nat) (w : World) (w' : World) : Prop :=
  ∃ x, Cod.get b = .ok x 0 ∧ Below w.heap.size w w' ∧ w.heap.size + 2 < w'.heap.size ∧ ∃ A c, Blk w' (w.heap.size + 1) 25 #[.int .i64 x.kind, .int .u64 (x.num : Int), .string x.str, .slice A x.kids.length c] ∧ Lies w' (fun b => w.heap.size + 3 ≤ b) x A c
def GetNo (b : List Nat) (w : World) (a p : Nat) (w' : World) : Prop :=
  Cod.get b = .bad a p ∧ Below w.heap.size w w' ∧ w.heap.size + 2 < w'.heap.size ∧ Blk w' (w.heap.size + 1) 25 #[.int .i64 0, .int .u64 0, .string ⟨#[]⟩, .slice none 0 0]
theorem getdone_does {b : List Nat} {w : World} {e : Ending} {w' : World} {o1 : Obj} (h : GetDone b (w.heap.size + 1) (((w.alloc o1).alloc (.cells #[.int .i64 0, .int .u64 0, .string ⟨#[]⟩, .slice none 0 0] 25)).alloc (.cells #[.int .i64 0, .int .i64 0] 50)) e w') :
    Does ((w.alloc o1).alloc (.cells #[.int .i64 0, .int .u64 0, .string ⟨#[]⟩, .slice none 0 0] 25)) (GetOk b w) (GetNo b w) e w' := by
  have hf : Blk (((w.alloc o1).alloc (.cells #[.int .i64 0, .int .u64 0, .string ⟨#[]⟩, .slice none 0 0] 25)).alloc (.cells #[.int .i64 0, .int .i64 0] 50)) (w.heap.size + 2) 50 #[.int .i64 0, .int .i64 0] := by
    have := Blk.new ((w.alloc o1).alloc (.cells #[.int .i64 0, .int .u64 0, .string ⟨#[]⟩, .slice none 0 0] 25)) 50 #[.int .i64 0, .int .i64 0]
    simpa only [size_alloc] using this
  have hb0 : Blk (((w.alloc o1).alloc (.cells #[.int .i64 0, .int .u64 0, .string ⟨#[]⟩, .slice none 0 0] 25)).alloc (.cells #[.int .i64 0, .int .i64 0] 50)) (w.heap.size + 1) 25 #[.int .i64 0, .int .u64 0, .string ⟨#[]⟩, .slice none 0 0] := by
    have := (Blk.new (w.alloc o1) 25 #[.int .i64 0, .int .u64 0, .string ⟨#[]⟩, .slice none 0 0]).alloc (.cells #[.int .i64 0, .int .i64 0] 50)
    simpa only [size_alloc] using this
  have hw0 : Below w.heap.size w (((w.alloc o1).alloc (.cells #[.int .i64 0, .int .u64 0, .string ⟨#[]⟩, .slice none 0 0] 25)).alloc (.cells #[.int .i64 0, .int .i64 0] 50)) := bel_alloc (bel_alloc (bel_alloc (Below.refl _ _) _) _) _
  have hsz0 : (((w.alloc o1).alloc (.cells #[.int .i64 0, .int .u64 0, .string ⟨#[]⟩, .slice none 0 0] 25)).alloc (.cells #[.int .i64 0, .int .i64 0] 50)).heap.size = w.heap.size + 3 := by simp only [size_alloc]
  unfold Does
  simp only [size_alloc]
  generalize (((w.alloc o1).alloc (.cells #[.int .i64 0, .int .u64 0, .string ⟨#[]⟩, .slice none 0 0] 25)).alloc (.cells #[.int .i64 0, .int .i64 0] 50)) = W at *
  rcases h with ⟨x, h0, rfl, hg, A, c, hb, hl⟩ | ⟨er, q, h0, rfl, hb⟩
  · have := hg.size
    exact ⟨by omega, hf.grown hg (by simp), .inl ⟨rfl, x, h0, hw0.trans (gr_below hg (by omega) fun b hb => by cases hb; omega), by omega, A, c, hb, hl.more fun b hb _ => by omega⟩⟩
  · have := hb.size
    exact ⟨by omega, hf.bel hb, .inr ⟨_, _, rfl, h0, hw0.trans (hb.mono (by omega)), by omega, hb0.bel hb⟩⟩

theorem call_get1 (cap : Array Value) (W : World) : (callFunc 30 cap).run Try.prog W = .ok (.enter 30 cap) W := by kernel_rfl

set_option maxHeartbeats 2000000 in
theorem get_item (b : List Nat) (A : Option Addr) (n c : Nat) (w : World) (hr : Rd w A n c (cs b)) (hb : ∀ x ∈ b, x < 256) (hn : n ≤ 1000000) :
    Calls Try.prog 14 #[.slice A n c] w (GetIs b w) := by
  have hmf : ∀ (fn : Fn) (first cap : Array Value) (w : World), (Instr.makeFunc fn first cap).run Try.prog w = .ok (.func fn first cap) w := fun _ _ _ _ => rfl
  have HR := Lib.hid hr
  have HB := Lib.hid hb
  clear hr hb
  go_enter Try.func14, Try.ntmps14
  go_wp2_with fail
  refine (caught_any 30 _ _ (GetOk b w) (GetNo b w) (call_get1 _) ?_).mono ?_
  · refine (get1_any b A n c w.heap.size (w.heap.size + 1) _ (((Blk.new w _ _).alloc _).alloc _) ((by have := Blk.new (w.alloc (.cells #[.slice A n c] 28)) 25 #[.int .i64 0, .int .u64 0, .string ⟨#[]⟩, .slice none 0 0]; rw [size_alloc] at this; exact this.alloc _))
      (((HR.out.alloc _).alloc _).alloc _) HB.out hn).mono ?_
    exact fun e w' h => getdone_does h
  simp only [Caught, size_alloc]
  rintro e w2 ⟨a, p, w1, rfl, hg, h⟩
  rcases h with ⟨rfl, rfl, x, h0, hbl, hs, A1, c1, hb1, hl1⟩ | ⟨h0, hbl, hs, hb1⟩
  · have hb2 := hb1.grown hg (by simp)
    have hl2 := hl1.grown hg fun b hb => by simp; omega
    have hbw : Below w.heap.size w w2 := hbl.trans (gr_below hg (by omega) fun b hb => by cases hb; omega)
    have hs2 : w.heap.size + 2 < w2.heap.size := by have := hg.size; omega
    obtain ⟨d0, d1, d2, d3⟩ := blk4 (hb2.alloc (.cells #[.int .i64 0, .int .i64 0] 50))
    obtain ⟨z0, z1, z2, z3⟩ := blk4_soft (hb2.alloc (.cells #[.int .i64 0, .int .i64 0] 50))
    have HB2 := Lib.hid hb2
    have H0 := Lib.hid h0
    have HL2 := Lib.hid hl2
    have HBW := Lib.hid hbw
    clear hb1 hl1 hbl hs hg h0 hl2 hbw hb2
    go_wp2_with fail
    go_region
    go_wp2_with fail
    have hp := get_parts_ok H0.out
    obtain ⟨hk, hgr⟩ := blk4_set (HB2.out.alloc (.cells #[.int .i64 0, .int .i64 0] 50)) (.int .i64 x.kind) (.int .u64 (x.num : Int)) (.string x.str) (.slice A1 x.kids.length c1)
    have hl3 := (HL2.out.alloc (.cells #[.int .i64 0, .int .i64 0] 50)).grown hgr fun b hb => by simp; omega
    have hb3 : Below w.heap.size w _ := (bel_alloc HBW.out (.cells #[.int .i64 0, .int .i64 0] 50)).trans (gr_below hgr (by rw [size_alloc]; omega) fun b hb => by cases hb; omega)
    generalize (((((w2.alloc (.cells #[.int .i64 0, .int .i64 0] 50)).setCell ⟨w.heap.size + 1, 0, none⟩ (.int .i64 x.kind)).setCell ⟨w.heap.size + 1, 1, none⟩ (.int .u64 (x.num : Int))).setCell ⟨w.heap.size + 1, 2, none⟩ (.string x.str)).setCell ⟨w.heap.size + 1, 3, none⟩ (.slice A1 x.kids.length c1)) = w3 at hk hl3 hb3 ⊢
    obtain ⟨e0, e1, e2, e3⟩ := blk4 (show Blk w3.drew (w.heap.size + 1) 25 #[.int .i64 x.kind, .int .u64 (x.num : Int), .string x.str, .slice A1 x.kids.length c1] from hk)
    refine bodyPost_ret (v := .tuple #[.agg #[.int .i64 x.kind, .int .u64 (x.num : Int), .string x.str, .slice A1 x.kids.length c1], .int .i64 0, .int .i64 0]) (by simp [results, Try.results14, go_sem, e0, e1, e2, e3]) rfl ?_
    refine ⟨A1, c1, by rw [hp.1, hp.2.1, hp.2.2]; rfl, ?_, hb3.drew⟩
    rw [hp.1]
    exact hl3.keep _ (fun b hb _ => by omega) (Nat.le_refl _) fun _ _ _ => rfl
  · have hb2 := hb1.grown hg (by simp)
    have hbw : Below w.heap.size w w2 := hbl.trans (gr_below hg (by omega) fun b hb => by cases hb; omega)
    have hs2 : w.heap.size + 2 < w2.heap.size := by have := hg.size; omega
    obtain ⟨d0, d1, d2, d3⟩ := blk4 (hb2.alloc (.cells #[.int .i64 (a : Int), .int .i64 (p : Int)] 50))
    obtain ⟨z0, z1, z2, z3⟩ := blk4_soft (hb2.alloc (.cells #[.int .i64 (a : Int), .int .i64 (p : Int)] 50))
    have HB2 := Lib.hid hb2
    have H0 := Lib.hid h0
    have HBW := Lib.hid hbw
    clear hb1 hbl hs hg h0 hbw hb2
    go_wp2_with fail
    go_region
    go_wp2_with fail
    have hp := get_parts_bad H0.out
    obtain ⟨hk, hgr⟩ := blk4_set (HB2.out.alloc (.cells #[.int .i64 (a : Int), .int .i64 (p : Int)] 50)) (.int .i64 0) (.int .u64 0) (.string ⟨#[]⟩) (.slice none 0 0)
    have hb3 : Below w.heap.size w _ := (bel_alloc HBW.out (.cells #[.int .i64 (a : Int), .int .i64 (p : Int)] 50)).trans (gr_below hgr (by rw [size_alloc]; omega) fun b hb => by cases hb; omega)
    generalize (((((w2.alloc (.cells #[.int .i64 (a : Int), .int .i64 (p : Int)] 50)).setCell ⟨w.heap.size + 1, 0, none⟩ (.int .i64 0)).setCell ⟨w.heap.size + 1, 1, none⟩ (.int .u64 0)).setCell ⟨w.heap.size + 1, 2, none⟩ (.string ⟨#[]⟩)).setCell ⟨w.heap.size + 1, 3, none⟩ (.slice none 0 0)) = w3 at hk hb3 ⊢
    obtain ⟨e0, e1, e2, e3⟩ := blk4 (show Blk w3.drew (w.heap.size + 1) 25 #[.int .i64 0, .int .u64 0, .string ⟨#[]⟩, .slice none 0 0] from hk)
    refine bodyPost_ret (v := .tuple #[.agg #[.int .i64 0, .int .u64 0, .string ⟨#[]⟩, .slice none 0 0], .int .i64 (a : Int), .int .i64 (p : Int)]) (by simp [results, Try.results14, go_sem, e0, e1, e2, e3]) rfl ?_
    refine ⟨none, 0, by rw [hp.1, hp.2.1, hp.2.2]; rfl, ?_, hb3.drew⟩
    rw [hp.1]
    exact Row.lies (l := []) (m := 0) ⟨rfl, ⟨by omega, by omega, fun _ => rfl⟩, fun i y h => by simp at h⟩ (by omega) (by omega) (by show (0 : Nat) ≤ _; omega)

theorem rows_bad_ne {f : Nat → Res It} (hf : ∀ p e q, f p = .bad e q → e ≠ 0) : ∀ k p e q, rows f k p = .bad e q → e ≠ 0 := by
  intro k
  induction k with
  | zero => intro p e q h; rw [rows] at h; cases h
  | succ k ih =>
    intro p e q h
    rw [rows] at h
    cases hr : rows f k p with
    | bad e' q' => rw [hr] at h; cases h; exact ih _ _ _ hr
    | ok xs q' =>
      rw [hr] at h
      simp only at h
      cases hq : f q' with
      | bad e2 q2 => rw [hq] at h; cases h; exact hf _ _ _ hq
      | ok x q2 => rw [hq] at h; cases h
theorem tk_bad_ne (b : List Nat) : ∀ r p e q, tk b r p = .bad e q → e ≠ 0 := by
  intro r
  induction r with
  | zero => intro p e q h; rw [tk] at h; split at h <;> cases h <;> omega
  | succ r ih =>
    intro p e q h
    rw [tk] at h
    split at h
    · cases h; omega
    rw [one] at h
    split at h
    · cases h; omega
    split at h
    · rename_i h1; cases h; exact h1
    rw [body] at h
    split at h
    · cases h
    split at h
    · cases h; omega
    split at h
    · cases h
    revert h
    split
    · rename_i hr
      intro h
      cases h
      exact rows_bad_ne ih _ _ _ _ hr
    · intro h; cases h
theorem get_bad_ne {b : List Nat} {e q : Nat} (h : Cod.get b = .bad e q) : e ≠ 0 := by
  rw [Cod.get] at h
  split at h
  · cases h; omega
  cases ht : tk b 16 0 with
  | bad e' p => rw [ht] at h; cases h; exact tk_bad_ne _ _ _ _ _ ht
  | ok x p =>
    rw [ht] at h
    simp only at h
    split at h <;> cases h
    omega

/-- .. where the bytes are no item. -/
theorem get_no {b : List Nat} {er p : Nat} (h : Cod.get b = .bad er p) (A : Option Addr) (n c : Nat) (w : World) (hr : Rd w A n c (cs b)) (hb : ∀ x ∈ b, x < 256) (hn : n ≤ 1000000) :
    Calls Try.prog 14 #[.slice A n c] w fun e w' => ∃ Z cz, e = .returned (.tuple #[.agg #[.int .i64 0, .int .u64 0, .string ByteArray.empty, .slice Z 0 cz], .int .i64 (er : Int), .int .i64 (p : Int)]) ∧ Below w.heap.size w w' := by
  refine (get_item b A n c w hr hb hn).mono ?_
  rintro e w' ⟨Z, cz, rfl, hl, hbw⟩
  obtain ⟨h1, h2, h3⟩ := get_parts_bad h
  rw [h1, h2, h3]
  exact ⟨Z, cz, rfl, hbw⟩
/-- .. where they are. -/
theorem get_yes {b : List Nat} {x : It} {p : Nat} (h : Cod.get b = .ok x p) (A : Option Addr) (n c : Nat) (w : World) (hr : Rd w A n c (cs b)) (hb : ∀ x ∈ b, x < 256) (hn : n ≤ 1000000) :
    Calls Try.prog 14 #[.slice A n c] w fun e w' => ∃ Z cz, e = .returned (.tuple #[.agg #[.int .i64 x.kind, .int .u64 (x.num : Int), .string x.str, .slice Z x.kids.length cz], .int .i64 0, .int .i64 0]) ∧ Lies w' (fun b => w.heap.size ≤ b) x Z cz ∧ Below w.heap.size w w' := by
  refine (get_item b A n c w hr hb hn).mono ?_
  rintro e w' ⟨Z, cz, rfl, hl, hbw⟩
  obtain ⟨h1, h2, h3⟩ := get_parts_ok h
  rw [h1] at hl
  rw [h1, h2, h3]
  exact ⟨Z, cz, rfl, hl, hbw⟩
end Go.Proofs.Ythlhlhihllgfiaa
