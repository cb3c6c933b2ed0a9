/-
  attr.Join, and the document's Join: what any two come to.
-/
import Derived.Test.YtccbkpdkmdnmfaaAttJoin
import Derived.Lib.MinMax
namespace Go.Proofs.Ytccbkpdkmdnmfaa
open Go.RowKit Mem Ids Att

/-- The ending: what it is, and an error's number; what was there stays. -/
def GivesAt (w : World) (r : At × Int) (e : Ending) (w' : World) : Prop :=
  ∃ A n c, e = .returned (.tuple #[.agg #[.slice A n c, .int .i64 r.1.sq, .int .i64 r.1.tg], .int .i64 r.2]) ∧ Rs w' A n c r.1.dp ∧ Below w.heap.size w w'

/-- Three boxes just made. -/
theorem three_boxes (w : World) (t : TypeId) (a b c : Array Value) : Blk (((w.alloc (.cells a t)).alloc (.cells b t)).alloc (.cells c t)) w.heap.size t a ∧ Blk (((w.alloc (.cells a t)).alloc (.cells b t)).alloc (.cells c t)) (w.heap.size + 1) t b ∧ Blk (((w.alloc (.cells a t)).alloc (.cells b t)).alloc (.cells c t)) (w.heap.size + 2) t c ∧ Below w.heap.size w (((w.alloc (.cells a t)).alloc (.cells b t)).alloc (.cells c t)) := by
  obtain ⟨h1, h2, h3⟩ := two_boxes w t a b
  have hs1 := size_alloc w (.cells a t)
  have hs2 := size_alloc (w.alloc (.cells a t)) (.cells b t)
  refine ⟨h1.alloc _, h2.alloc _, ?_, h3.alloc (by omega) _⟩
  have h := Blk.new ((w.alloc (.cells a t)).alloc (.cells b t)) t c
  rwa [hs2, hs1] at h
theorem held5 {W w' : World} {g g' : Nat} {t t' : TypeId} {a b c a' b' c' : Value} (h : Blk W g t #[a, b, c]) (h' : Blk W g' t' #[a', b', c']) (hb : Below W.heap.size W w') :
    w'.cell? ⟨g, 0, none⟩ = some a ∧ w'.cell? ⟨g, 1, none⟩ = some b ∧ w'.cell? ⟨g, 2, none⟩ = some c ∧ w'.cell? ⟨g', 0, none⟩ = some a' ∧ w'.cell? ⟨g', 1, none⟩ = some b' :=
  ⟨(h.bel hb).cell 0, (h.bel hb).cell 1, (h.bel hb).cell 2, (h'.bel hb).cell 0, (h'.bel hb).cell 1⟩
theorem held5s {W w' : World} {g g' r : Nat} {t t' : TypeId} {a b c a' b' c' : Value} (h : Blk W g t #[a, b, c]) (h' : Blk W g' t' #[a', b', c']) (hb : Below W.heap.size W w') (hn : g ≠ r) (hn' : g' ≠ r) (u v x : Value) :
    (((w'.setCell ⟨r, 0, none⟩ u).setCell ⟨r, 1, none⟩ v).setCell ⟨r, 2, none⟩ x).cell? ⟨g, 0, none⟩ = some a ∧ (((w'.setCell ⟨r, 0, none⟩ u).setCell ⟨r, 1, none⟩ v).setCell ⟨r, 2, none⟩ x).cell? ⟨g, 1, none⟩ = some b ∧ (((w'.setCell ⟨r, 0, none⟩ u).setCell ⟨r, 1, none⟩ v).setCell ⟨r, 2, none⟩ x).cell? ⟨g, 2, none⟩ = some c ∧
    (((w'.setCell ⟨r, 0, none⟩ u).setCell ⟨r, 1, none⟩ v).setCell ⟨r, 2, none⟩ x).cell? ⟨g', 0, none⟩ = some a' ∧ (((w'.setCell ⟨r, 0, none⟩ u).setCell ⟨r, 1, none⟩ v).setCell ⟨r, 2, none⟩ x).cell? ⟨g', 1, none⟩ = some b' := by
  have k := (((h.bel hb).far (p := ⟨r, 0, none⟩) hn u).far (p := ⟨r, 1, none⟩) hn v).far (p := ⟨r, 2, none⟩) hn x
  have k' := (((h'.bel hb).far (p := ⟨r, 0, none⟩) hn' u).far (p := ⟨r, 1, none⟩) hn' v).far (p := ⟨r, 2, none⟩) hn' x
  exact ⟨k.cell 0, k.cell 1, k.cell 2, k'.cell 0, k'.cell 1⟩
/-- Ids of the call's own stay when an older box is written over. -/
theorem Rs.set3 {w : World} {base r n c : Nat} {V : Option Addr} {l : List (Int × Int)} (h : w.ownsRow base 48 2 (.slice V n c) n (cells l)) (hr : r < base) (u v x : Value) :
    Rs (((w.setCell ⟨r, 0, none⟩ u).setCell ⟨r, 1, none⟩ v).setCell ⟨r, 2, none⟩ x) V n c l := by
  have hrs := Rs.own h
  refine ⟨hrs.len, hrs.le, hrs.cap, hrs.nil, fun hn => ?_⟩
  obtain ⟨g, o, e, hb, hc⟩ := hrs.spot hn
  have hg : base ≤ g := (h.lt g (by simp [Value.ownBlock, e])).1
  have hk : ∀ p : Addr, p.block = g → (((w.setCell ⟨r, 0, none⟩ u).setCell ⟨r, 1, none⟩ v).setCell ⟨r, 2, none⟩ x).cell? p = w.cell? p := fun p hp => by
    have hne : p.block ≠ r := by omega
    exact World.cell?_of_block (((Below.heap_setCell _ ⟨r, 2, none⟩ x _ hne).trans (Below.heap_setCell _ ⟨r, 1, none⟩ v _ hne)).trans (Below.heap_setCell _ ⟨r, 0, none⟩ u _ hne))
  exact ⟨g, o, e, by simpa [World.setCell] using hb, fun j y hy => ⟨(hk ⟨g, o + j * 2, none⟩ rfl).trans (hc j y hy).1, (hk ⟨g, o + j * 2 + 1, none⟩ rfl).trans (hc j y hy).2⟩⟩
/-- A box of three that is written over. -/
theorem blk3_set {w0 w : World} {B g : Nat} {t : TypeId} {a b c : Value} (h : Blk w g t #[a, b, c]) (hb : Below B w0 w) (hg : B ≤ g) (u v x : Value) :
    Blk (((w.setCell ⟨g, 0, none⟩ u).setCell ⟨g, 1, none⟩ v).setCell ⟨g, 2, none⟩ x) g t #[u, v, x] ∧ Below B w0 (((w.setCell ⟨g, 0, none⟩ u).setCell ⟨g, 1, none⟩ v).setCell ⟨g, 2, none⟩ x) :=
  ⟨((h.put 0 u).put 1 v).put 2 x, ((hb.setCell hg u).setCell hg v).setCell hg x⟩

set_option maxHeartbeats 4000000 in
theorem ajoin_any (l : List (Int × Int)) (s t : Int) (A : Option Addr) (n c : Nat) (l' : List (Int × Int)) (s' t' : Int) (A' : Option Addr) (n' c' : Nat) (w : World) (hr : Rs w A n c l) (hr' : Rs w A' n' c' l') :
    Calls Try.prog 8 #[.agg #[.slice A n c, .int .i64 s, .int .i64 t], .agg #[.slice A' n' c', .int .i64 s', .int .i64 t']] w (GivesAt w (ajoin ⟨l, s, t⟩ ⟨l', s', t'⟩)) := by
  obtain ⟨k1, k2, k3, kb⟩ := three_boxes w 24 #[.slice A n c, .int .i64 s, .int .i64 t] #[.slice A' n' c', .int .i64 s', .int .i64 t'] #[.slice none 0 0, .int .i64 0, .int .i64 0]
  have H1 := Lib.hid (fun w (h : Rs w A n c l) => acheck_any l s t A n c w h)
  have H2 := Lib.hid (fun w (h : Rs w A' n' c' l') => acheck_any l' s' t' A' n' c' w h)
  have HK1 := Lib.hid k1
  have HK2 := Lib.hid k2
  have HK3 := Lib.hid k3
  have HBW := Lib.hid kb
  have HR := Lib.hid (hr.below kb)
  have HR' := Lib.hid (hr'.below kb)
  have hl := hr.len
  have hl' := hr'.len
  clear k1 k2 k3 kb hr hr'
  have HL := Lib.hid (And.intro hl hl')
  clear hl hl'
  have HC1 : ∃ z, achk ⟨l, s, t⟩ = z := ⟨_, rfl⟩
  have HC2 : ∃ z, achk ⟨l', s', t'⟩ = z := ⟨_, rfl⟩
  obtain ⟨ca, hca⟩ := HC1
  obtain ⟨cb, hcb⟩ := HC2
  rw [hca] at H1
  rw [hcb] at H2
  have HCA := Lib.hid hca
  have HCB := Lib.hid hcb
  clear hca hcb
  go_enter Try.func8, Try.ntmps8
  go_wp2_with fail
  refine (H1.out _ HR.out).mono ?_
  rintro e w1 ⟨rfl, hb1⟩
  replace HK1 := Lib.hid (HK1.out.bel hb1)
  replace HK2 := Lib.hid (HK2.out.bel hb1)
  replace HK3 := Lib.hid (HK3.out.bel hb1)
  replace HBW := Lib.hid (bel_trans HBW.out hb1)
  replace HR := Lib.hid (HR.out.below hb1)
  replace HR' := Lib.hid (HR'.out.below hb1)
  clear hb1 H1
  obtain ⟨p0, p1, p2⟩ := blk3 HK1.out
  obtain ⟨q0, q1, q2⟩ := blk3 HK2.out
  by_cases h1 : ca = 0
  · subst h1
    go_wp2_with fail
    refine (H2.out _ HR'.out).mono ?_
    rintro e w2 ⟨rfl, hb1⟩
    replace HK1 := Lib.hid (HK1.out.bel hb1)
    replace HK2 := Lib.hid (HK2.out.bel hb1)
    replace HK3 := Lib.hid (HK3.out.bel hb1)
    replace HBW := Lib.hid (bel_trans HBW.out hb1)
    replace HR := Lib.hid (HR.out.below hb1)
    replace HR' := Lib.hid (HR'.out.below hb1)
    clear hb1 H2 p0 p1 p2 q0 q1 q2
    obtain ⟨p0, p1, p2⟩ := blk3 HK1.out
    obtain ⟨q0, q1, q2⟩ := blk3 HK2.out
    by_cases h2 : cb = 0
    · subst h2
      by_cases h3 : t = t'
      · subst h3
        have hup := achk_up HCA.out
        have hup' := achk_up HCB.out
        have hle := achk_len HCA.out
        have hle' := achk_len HCB.out
        have hll := HL.out
        simp only at hup hup' hle hle'
        have hn : n ≤ 4096 := by omega
        have hn' : n' ≤ 4096 := by omega
        clear hll hle hle'
        have H3 := Lib.hid (together_any l l' A A' n c n' c' w2 HR.out HR'.out hup hup' hn hn')
        have H4 := Lib.hid (fun w (h : Rs w A n c l) (h' : Rs w A' n' c' l') => join_makes l l' A A' n c n' c' w h h' hup hup' (by omega) (by omega))
        obtain ⟨J, hJ⟩ : ∃ J, (joinl l l').length = J := ⟨_, rfl⟩
        rw [hJ] at H3
        have HJ := Lib.hid hJ
        clear hup hup' hJ
        go_wp2_with fail
        refine (H3.out).mono ?_
        rintro e w3 ⟨rfl, hb1⟩
        replace HK1 := Lib.hid (HK1.out.bel hb1)
        replace HK2 := Lib.hid (HK2.out.bel hb1)
        replace HK3 := Lib.hid (HK3.out.bel hb1)
        replace HBW := Lib.hid (bel_trans HBW.out hb1)
        replace HR := Lib.hid (HR.out.below hb1)
        replace HR' := Lib.hid (HR'.out.below hb1)
        clear hb1 H3 p0 p1 p2 q0 q1 q2
        obtain ⟨p0, p1, p2⟩ := blk3 HK1.out
        obtain ⟨q0, q1, q2⟩ := blk3 HK2.out
        by_cases h4 : J ≤ 4096
        · have b1 : decide ((4096 : Int) < (J : Int)) = false := decide_eq_false (by omega)
          have heq : ajoin ⟨l, s, t⟩ ⟨l', s', t⟩ = (⟨joinl l l', amax s s', t⟩, 0) := ajoin_of HCA.out HCB.out rfl (by show (joinl l l').length ≤ 4096; rw [HJ.out]; exact h4)
          have HEQ := Lib.hid heq
          clear heq h4
          have hs3 := HBW.out.size
          obtain ⟨M, hM⟩ : ∃ M, amax s s' = M := ⟨_, rfl⟩
          have hmax : ∀ (W : World) (ts : Array TypeId) (ty : TypeId), (Builtin.max_ ts ty #[.int .i64 s, .int .i64 s']).run Try.prog W = .ok (.int .i64 M) W := fun W ts ty => by
            rw [Lib.run_max_ints, ← hM, Int.max_def]
            rfl
          have HM := Lib.hid hM
          have HCUR := Lib.hid (Below.drew (Below.refl w3.heap.size w3))
          clear hM
          have hsz := And.intro HK1.out.lt (And.intro HK2.out.lt HK3.out.lt)
          go_wp2_with fail
          go_region_held3 (fun w' => w'.cell? ⟨w.heap.size, 0, none⟩ = some (.slice A n c) ∧ w'.cell? ⟨w.heap.size, 1, none⟩ = some (.int .i64 s) ∧ w'.cell? ⟨w.heap.size, 2, none⟩ = some (.int .i64 t) ∧ w'.cell? ⟨w.heap.size + 1, 0, none⟩ = some (.slice A' n' c') ∧ w'.cell? ⟨w.heap.size + 1, 1, none⟩ = some (.int .i64 s')) (first | with_reducible exact held5 HK1.out HK2.out HCUR.out | exact held5s HK1.out HK2.out HCUR.out (by omega) (by omega) _ _ _)
            (first
            | (go_at_call 26
               refine (H4.out _ HR.out.drew HR'.out.drew).mono ?_
               rintro e w4 ⟨V, cv, rfl, hown, hb1⟩
               have hnow := HCUR.out.trans (hb1.mono HCUR.out.size)
               replace HCUR := Lib.hid hnow
               have hk3 := HK3.out.bel hnow
               obtain ⟨z0, z1, z2⟩ := blk3 hk3
               have f0 := hk3.soft 0
               have f1 := hk3.soft 1
               have f2 := hk3.soft 2
               have HOW := Lib.hid hown
               clear hb1 hnow hown H4 hk3))
          all_goals
            have hrs := Rs.set3 (r := w.heap.size + 1 + 1) HOW.out (by show w.heap.size + 1 + 1 < w3.heap.size; omega) (.slice V (joinl l l').length cv) (.int .i64 M) (.int .i64 t)
            obtain ⟨hk9, hb9⟩ := blk3_set (g := w.heap.size + 1 + 1) (HK3.out.bel HCUR.out) (bel_trans HBW.out HCUR.out) (by omega) (.slice V (joinl l l').length cv) (.int .i64 M) (.int .i64 t)
            generalize (((w4.setCell ⟨w.heap.size + 1 + 1, 0, none⟩ (.slice V (joinl l l').length cv)).setCell ⟨w.heap.size + 1 + 1, 1, none⟩ (.int .i64 M)).setCell ⟨w.heap.size + 1 + 1, 2, none⟩ (.int .i64 t)) = w9 at hk9 hb9 hrs ⊢
            obtain ⟨d0, d1, d2⟩ := blk3 hk9
            go_wp2_with fail
            refine bodyPost_ret (v := .tuple #[.agg #[.slice V (joinl l l').length cv, .int .i64 M, .int .i64 t], .int .i64 0]) (by simp [results, Try.results8, go_sem, d0, d1, d2]) rfl ?_
            rw [HEQ.out, HM.out]
            exact ⟨_, _, _, rfl, hrs, hb9⟩
        · have b1 : decide ((4096 : Int) < (J : Int)) = true := decide_eq_true (by omega)
          have heq : ajoin ⟨l, s, t⟩ ⟨l', s', t⟩ = (zeroAt, 12) := by
            unfold ajoin
            rw [if_pos ⟨HCA.out, HCB.out⟩, if_pos rfl, if_neg (by show ¬ (joinl l l').length ≤ 4096; rw [HJ.out]; exact h4)]
          have HEQ := Lib.hid heq
          clear heq h4
          obtain ⟨z0, z1, z2⟩ := blk3 HK3.out
          have f0 := HK3.out.soft 0
          have f1 := HK3.out.soft 1
          have f2 := HK3.out.soft 2
          go_wp2_with fail
          obtain ⟨hk9, hb9⟩ := blk3_set HK3.out HBW.out (by omega) (.slice none 0 0) (.int .i64 0) (.int .i64 0)
          generalize (((w3.setCell ⟨w.heap.size + 2, 0, none⟩ (.slice none 0 0)).setCell ⟨w.heap.size + 2, 1, none⟩ (.int .i64 0)).setCell ⟨w.heap.size + 2, 2, none⟩ (.int .i64 0)) = w9 at hk9 hb9 ⊢
          obtain ⟨d0, d1, d2⟩ := blk3 hk9
          refine bodyPost_ret (v := .tuple #[.agg #[.slice none 0 0, .int .i64 0, .int .i64 0], .int .i64 12]) (by simp [results, Try.results8, go_sem, d0, d1, d2]) rfl ?_
          rw [HEQ.out]
          exact ⟨none, 0, 0, rfl, Rs.nil_ _, hb9⟩
      · have b1 : (t != t') = true := bne_iff_ne.2 h3
        have heq : ajoin ⟨l, s, t⟩ ⟨l', s', t'⟩ = (zeroAt, 17) := by
          unfold ajoin
          rw [if_pos ⟨HCA.out, HCB.out⟩, if_neg h3]
        have HEQ := Lib.hid heq
        clear heq h3
        obtain ⟨z0, z1, z2⟩ := blk3 HK3.out
        have f0 := HK3.out.soft 0
        have f1 := HK3.out.soft 1
        have f2 := HK3.out.soft 2
        go_wp2_with fail
        obtain ⟨hk9, hb9⟩ := blk3_set HK3.out HBW.out (by omega) (.slice none 0 0) (.int .i64 0) (.int .i64 0)
        generalize (((w2.setCell ⟨w.heap.size + 2, 0, none⟩ (.slice none 0 0)).setCell ⟨w.heap.size + 2, 1, none⟩ (.int .i64 0)).setCell ⟨w.heap.size + 2, 2, none⟩ (.int .i64 0)) = w9 at hk9 hb9 ⊢
        obtain ⟨d0, d1, d2⟩ := blk3 hk9
        refine bodyPost_ret (v := .tuple #[.agg #[.slice none 0 0, .int .i64 0, .int .i64 0], .int .i64 17]) (by simp [results, Try.results8, go_sem, d0, d1, d2]) rfl ?_
        rw [HEQ.out]
        exact ⟨none, 0, 0, rfl, Rs.nil_ _, hb9⟩
    · have b1 : (cb != 0) = true := bne_iff_ne.2 h2
      have heq : ajoin ⟨l, s, t⟩ ⟨l', s', t'⟩ = (zeroAt, 4) := by
        unfold ajoin
        rw [if_neg fun h => h2 (HCB.out.symm.trans h.2)]
      have HEQ := Lib.hid heq
      clear heq h2
      obtain ⟨z0, z1, z2⟩ := blk3 HK3.out
      have f0 := HK3.out.soft 0
      have f1 := HK3.out.soft 1
      have f2 := HK3.out.soft 2
      go_wp2_with fail
      obtain ⟨hk9, hb9⟩ := blk3_set HK3.out HBW.out (by omega) (.slice none 0 0) (.int .i64 0) (.int .i64 0)
      generalize (((w2.setCell ⟨w.heap.size + 2, 0, none⟩ (.slice none 0 0)).setCell ⟨w.heap.size + 2, 1, none⟩ (.int .i64 0)).setCell ⟨w.heap.size + 2, 2, none⟩ (.int .i64 0)) = w9 at hk9 hb9 ⊢
      obtain ⟨d0, d1, d2⟩ := blk3 hk9
      refine bodyPost_ret (v := .tuple #[.agg #[.slice none 0 0, .int .i64 0, .int .i64 0], .int .i64 4]) (by simp [results, Try.results8, go_sem, d0, d1, d2]) rfl ?_
      rw [HEQ.out]
      exact ⟨none, 0, 0, rfl, Rs.nil_ _, hb9⟩
  · have b1 : (ca != 0) = true := bne_iff_ne.2 h1
    have heq : ajoin ⟨l, s, t⟩ ⟨l', s', t'⟩ = (zeroAt, 4) := by
      unfold ajoin
      rw [if_neg fun h => h1 (HCA.out.symm.trans h.1)]
    have HEQ := Lib.hid heq
    clear heq h1
    obtain ⟨z0, z1, z2⟩ := blk3 HK3.out
    have f0 := HK3.out.soft 0
    have f1 := HK3.out.soft 1
    have f2 := HK3.out.soft 2
    go_wp2_with fail
    obtain ⟨hk9, hb9⟩ := blk3_set HK3.out HBW.out (by omega) (.slice none 0 0) (.int .i64 0) (.int .i64 0)
    generalize (((w1.setCell ⟨w.heap.size + 2, 0, none⟩ (.slice none 0 0)).setCell ⟨w.heap.size + 2, 1, none⟩ (.int .i64 0)).setCell ⟨w.heap.size + 2, 2, none⟩ (.int .i64 0)) = w9 at hk9 hb9 ⊢
    obtain ⟨d0, d1, d2⟩ := blk3 hk9
    refine bodyPost_ret (v := .tuple #[.agg #[.slice none 0 0, .int .i64 0, .int .i64 0], .int .i64 4]) (by simp [results, Try.results8, go_sem, d0, d1, d2]) rfl ?_
    rw [HEQ.out]
    exact ⟨none, 0, 0, rfl, Rs.nil_ _, hb9⟩

set_option maxHeartbeats 4000000 in
theorem refajoin_any (l : List (Int × Int)) (s t : Int) (A : Option Addr) (n c : Nat) (l' : List (Int × Int)) (s' t' : Int) (A' : Option Addr) (n' c' : Nat) (w : World) (hr : Rs w A n c l) (hr' : Rs w A' n' c' l') :
    Calls Try.prog 9 #[.agg #[.slice A n c, .int .i64 s, .int .i64 t], .agg #[.slice A' n' c', .int .i64 s', .int .i64 t']] w (GivesAt w (ajoin ⟨l, s, t⟩ ⟨l', s', t'⟩)) := by
  obtain ⟨k1, k2, k3, kb⟩ := three_boxes w 24 #[.slice A n c, .int .i64 s, .int .i64 t] #[.slice A' n' c', .int .i64 s', .int .i64 t'] #[.slice none 0 0, .int .i64 0, .int .i64 0]
  have H1 := Lib.hid (fun w (h : Rs w A n c l) => refacheck_any l s t A n c w h)
  have H2 := Lib.hid (fun w (h : Rs w A' n' c' l') => refacheck_any l' s' t' A' n' c' w h)
  have HK1 := Lib.hid k1
  have HK2 := Lib.hid k2
  have HK3 := Lib.hid k3
  have HBW := Lib.hid kb
  have HR := Lib.hid (hr.below kb)
  have HR' := Lib.hid (hr'.below kb)
  have hl := hr.len
  have hl' := hr'.len
  clear k1 k2 k3 kb hr hr'
  have HL := Lib.hid (And.intro hl hl')
  clear hl hl'
  have HC1 : ∃ z, achk ⟨l, s, t⟩ = z := ⟨_, rfl⟩
  have HC2 : ∃ z, achk ⟨l', s', t'⟩ = z := ⟨_, rfl⟩
  obtain ⟨ca, hca⟩ := HC1
  obtain ⟨cb, hcb⟩ := HC2
  rw [hca] at H1
  rw [hcb] at H2
  have HCA := Lib.hid hca
  have HCB := Lib.hid hcb
  clear hca hcb
  go_enter Try.func9, Try.ntmps9
  go_wp2_with fail
  refine (H1.out _ HR.out).mono ?_
  rintro e w1 ⟨rfl, hb1⟩
  replace HK1 := Lib.hid (HK1.out.bel hb1)
  replace HK2 := Lib.hid (HK2.out.bel hb1)
  replace HK3 := Lib.hid (HK3.out.bel hb1)
  replace HBW := Lib.hid (bel_trans HBW.out hb1)
  replace HR := Lib.hid (HR.out.below hb1)
  replace HR' := Lib.hid (HR'.out.below hb1)
  clear hb1 H1
  obtain ⟨p0, p1, p2⟩ := blk3 HK1.out
  obtain ⟨q0, q1, q2⟩ := blk3 HK2.out
  by_cases h1 : ca = 0
  · subst h1
    go_wp2_with fail
    refine (H2.out _ HR'.out).mono ?_
    rintro e w2 ⟨rfl, hb1⟩
    replace HK1 := Lib.hid (HK1.out.bel hb1)
    replace HK2 := Lib.hid (HK2.out.bel hb1)
    replace HK3 := Lib.hid (HK3.out.bel hb1)
    replace HBW := Lib.hid (bel_trans HBW.out hb1)
    replace HR := Lib.hid (HR.out.below hb1)
    replace HR' := Lib.hid (HR'.out.below hb1)
    clear hb1 H2 p0 p1 p2 q0 q1 q2
    obtain ⟨p0, p1, p2⟩ := blk3 HK1.out
    obtain ⟨q0, q1, q2⟩ := blk3 HK2.out
    by_cases h2 : cb = 0
    · subst h2
      by_cases h3 : t = t'
      · subst h3
        have hup := achk_up HCA.out
        have hup' := achk_up HCB.out
        have hle := achk_len HCA.out
        have hle' := achk_len HCB.out
        have hll := HL.out
        simp only at hup hup' hle hle'
        have hn : n ≤ 4096 := by omega
        have hn' : n' ≤ 4096 := by omega
        clear hll hle hle'
        have H4 := Lib.hid (refjoin_any l l' A A' n c n' c' w2 HR.out HR'.out (by omega) (by omega))
        obtain ⟨J, hJ⟩ : ∃ J, (joinl l l').length = J := ⟨_, rfl⟩
        have HJ := Lib.hid hJ
        clear hup hup' hJ
        go_wp2_with fail
        refine H4.out.mono ?_
        rintro e w3 ⟨V, cv, rfl, hown, hb1⟩
        rw [HJ.out] at hown ⊢
        have HOW := Lib.hid hown
        have hs2 := HK3.out.lt
        replace HK1 := Lib.hid (HK1.out.bel hb1)
        replace HK2 := Lib.hid (HK2.out.bel hb1)
        replace HK3 := Lib.hid (HK3.out.bel hb1)
        replace HBW := Lib.hid (bel_trans HBW.out hb1)
        clear hb1 hown H4 p0 p1 p2 q0 q1 q2
        obtain ⟨p0, p1, p2⟩ := blk3 HK1.out
        obtain ⟨q0, q1, q2⟩ := blk3 HK2.out
        by_cases h4 : J ≤ 4096
        · have b1 : decide ((4096 : Int) < (J : Int)) = false := decide_eq_false (by omega)
          have heq : ajoin ⟨l, s, t⟩ ⟨l', s', t⟩ = (⟨joinl l l', amax s s', t⟩, 0) := ajoin_of HCA.out HCB.out rfl (by show (joinl l l').length ≤ 4096; rw [HJ.out]; exact h4)
          have HEQ := Lib.hid heq
          clear heq h4
          obtain ⟨M, hM⟩ : ∃ M, amax s s' = M := ⟨_, rfl⟩
          have hmax : ∀ (W : World) (ts : Array TypeId) (ty : TypeId), (Builtin.max_ ts ty #[.int .i64 s, .int .i64 s']).run Try.prog W = .ok (.int .i64 M) W := fun W ts ty => by
            rw [Lib.run_max_ints, ← hM, Int.max_def]
            rfl
          have HM := Lib.hid hM
          clear hM
          obtain ⟨z0, z1, z2⟩ := blk3 HK3.out
          have f0 := HK3.out.soft 0
          have f1 := HK3.out.soft 1
          have f2 := HK3.out.soft 2
          have hrs := Rs.set3 (r := w.heap.size + 2) HOW.out (by omega) (.slice V J cv) (.int .i64 M) (.int .i64 t)
          have HRS := Lib.hid hrs
          clear hrs
          go_wp2_with fail
          have hrs := HRS.out
          obtain ⟨hk9, hb9⟩ := blk3_set HK3.out HBW.out (by omega) (.slice V J cv) (.int .i64 M) (.int .i64 t)
          generalize (((w3.setCell ⟨w.heap.size + 2, 0, none⟩ (.slice V J cv)).setCell ⟨w.heap.size + 2, 1, none⟩ (.int .i64 M)).setCell ⟨w.heap.size + 2, 2, none⟩ (.int .i64 t)) = w9 at hk9 hb9 hrs ⊢
          obtain ⟨d0, d1, d2⟩ := blk3 hk9
          refine bodyPost_ret (v := .tuple #[.agg #[.slice V J cv, .int .i64 M, .int .i64 t], .int .i64 0]) (by simp [results, Try.results9, go_sem, d0, d1, d2]) rfl ?_
          rw [HEQ.out, HM.out]
          exact ⟨_, _, _, rfl, hrs, hb9⟩
        · have b1 : decide ((4096 : Int) < (J : Int)) = true := decide_eq_true (by omega)
          have heq : ajoin ⟨l, s, t⟩ ⟨l', s', t⟩ = (zeroAt, 12) := by
            unfold ajoin
            rw [if_pos ⟨HCA.out, HCB.out⟩, if_pos rfl, if_neg (by show ¬ (joinl l l').length ≤ 4096; rw [HJ.out]; exact h4)]
          have HEQ := Lib.hid heq
          clear heq h4
          obtain ⟨z0, z1, z2⟩ := blk3 HK3.out
          have f0 := HK3.out.soft 0
          have f1 := HK3.out.soft 1
          have f2 := HK3.out.soft 2
          go_wp2_with fail
          obtain ⟨hk9, hb9⟩ := blk3_set HK3.out HBW.out (by omega) (.slice none 0 0) (.int .i64 0) (.int .i64 0)
          generalize (((w3.setCell ⟨w.heap.size + 2, 0, none⟩ (.slice none 0 0)).setCell ⟨w.heap.size + 2, 1, none⟩ (.int .i64 0)).setCell ⟨w.heap.size + 2, 2, none⟩ (.int .i64 0)) = w9 at hk9 hb9 ⊢
          obtain ⟨d0, d1, d2⟩ := blk3 hk9
          refine bodyPost_ret (v := .tuple #[.agg #[.slice none 0 0, .int .i64 0, .int .i64 0], .int .i64 12]) (by simp [results, Try.results9, go_sem, d0, d1, d2]) rfl ?_
          rw [HEQ.out]
          exact ⟨none, 0, 0, rfl, Rs.nil_ _, hb9⟩
      · have b1 : (t != t') = true := bne_iff_ne.2 h3
        have heq : ajoin ⟨l, s, t⟩ ⟨l', s', t'⟩ = (zeroAt, 17) := by
          unfold ajoin
          rw [if_pos ⟨HCA.out, HCB.out⟩, if_neg h3]
        have HEQ := Lib.hid heq
        clear heq h3
        obtain ⟨z0, z1, z2⟩ := blk3 HK3.out
        have f0 := HK3.out.soft 0
        have f1 := HK3.out.soft 1
        have f2 := HK3.out.soft 2
        go_wp2_with fail
        obtain ⟨hk9, hb9⟩ := blk3_set HK3.out HBW.out (by omega) (.slice none 0 0) (.int .i64 0) (.int .i64 0)
        generalize (((w2.setCell ⟨w.heap.size + 2, 0, none⟩ (.slice none 0 0)).setCell ⟨w.heap.size + 2, 1, none⟩ (.int .i64 0)).setCell ⟨w.heap.size + 2, 2, none⟩ (.int .i64 0)) = w9 at hk9 hb9 ⊢
        obtain ⟨d0, d1, d2⟩ := blk3 hk9
        refine bodyPost_ret (v := .tuple #[.agg #[.slice none 0 0, .int .i64 0, .int .i64 0], .int .i64 17]) (by simp [results, Try.results9, go_sem, d0, d1, d2]) rfl ?_
        rw [HEQ.out]
        exact ⟨none, 0, 0, rfl, Rs.nil_ _, hb9⟩
    · have b1 : (cb != 0) = true := bne_iff_ne.2 h2
      have heq : ajoin ⟨l, s, t⟩ ⟨l', s', t'⟩ = (zeroAt, 4) := by
        unfold ajoin
        rw [if_neg fun h => h2 (HCB.out.symm.trans h.2)]
      have HEQ := Lib.hid heq
      clear heq h2
      obtain ⟨z0, z1, z2⟩ := blk3 HK3.out
      have f0 := HK3.out.soft 0
      have f1 := HK3.out.soft 1
      have f2 := HK3.out.soft 2
      go_wp2_with fail
      obtain ⟨hk9, hb9⟩ := blk3_set HK3.out HBW.out (by omega) (.slice none 0 0) (.int .i64 0) (.int .i64 0)
      generalize (((w2.setCell ⟨w.heap.size + 2, 0, none⟩ (.slice none 0 0)).setCell ⟨w.heap.size + 2, 1, none⟩ (.int .i64 0)).setCell ⟨w.heap.size + 2, 2, none⟩ (.int .i64 0)) = w9 at hk9 hb9 ⊢
      obtain ⟨d0, d1, d2⟩ := blk3 hk9
      refine bodyPost_ret (v := .tuple #[.agg #[.slice none 0 0, .int .i64 0, .int .i64 0], .int .i64 4]) (by simp [results, Try.results9, go_sem, d0, d1, d2]) rfl ?_
      rw [HEQ.out]
      exact ⟨none, 0, 0, rfl, Rs.nil_ _, hb9⟩
  · have b1 : (ca != 0) = true := bne_iff_ne.2 h1
    have heq : ajoin ⟨l, s, t⟩ ⟨l', s', t'⟩ = (zeroAt, 4) := by
      unfold ajoin
      rw [if_neg fun h => h1 (HCA.out.symm.trans h.1)]
    have HEQ := Lib.hid heq
    clear heq h1
    obtain ⟨z0, z1, z2⟩ := blk3 HK3.out
    have f0 := HK3.out.soft 0
    have f1 := HK3.out.soft 1
    have f2 := HK3.out.soft 2
    go_wp2_with fail
    obtain ⟨hk9, hb9⟩ := blk3_set HK3.out HBW.out (by omega) (.slice none 0 0) (.int .i64 0) (.int .i64 0)
    generalize (((w1.setCell ⟨w.heap.size + 2, 0, none⟩ (.slice none 0 0)).setCell ⟨w.heap.size + 2, 1, none⟩ (.int .i64 0)).setCell ⟨w.heap.size + 2, 2, none⟩ (.int .i64 0)) = w9 at hk9 hb9 ⊢
    obtain ⟨d0, d1, d2⟩ := blk3 hk9
    refine bodyPost_ret (v := .tuple #[.agg #[.slice none 0 0, .int .i64 0, .int .i64 0], .int .i64 4]) (by simp [results, Try.results9, go_sem, d0, d1, d2]) rfl ?_
    rw [HEQ.out]
    exact ⟨none, 0, 0, rfl, Rs.nil_ _, hb9⟩

end Go.Proofs.Ytccbkpdkmdnmfaa
