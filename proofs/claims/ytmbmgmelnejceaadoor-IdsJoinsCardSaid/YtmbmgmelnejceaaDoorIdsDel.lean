/-
  slices.IndexFunc and slices.DeleteFunc with ids.Without's question; ids.Without of any list.
-/
import Derived.Test.YtmbmgmelnejceaaDoorIdsSet
namespace Go.Proofs.YtmbmgmelnejceaaDoor
open Go.RowKit Mem Ids Go.Sort

set_option maxHeartbeats 1000000 in
theorem isit_any (x i : Int × Int) (b : Nat) (w : World) (hb : Blk w b 24 #[.int .i64 i.1, .int .i64 i.2]) :
    Calls Tryd.prog 43 #[.agg #[.int .i64 x.1, .int .i64 x.2], .pointer (some ⟨b, 0, none⟩)] w (Tells (decide (x = i)) w) := by
  have heq := eql_id x i
  have b0 := (hb.alloc (.cells #[.int .i64 x.1, .int .i64 x.2] 24)).cell 0
  have b1 := (hb.alloc (.cells #[.int .i64 x.1, .int .i64 x.2] 24)).cell 1
  generalize decide (x = i) = t at heq ⊢
  obtain ⟨x1, x2⟩ := x
  obtain ⟨i1, i2⟩ := i
  simp at heq b0 b1
  have HG := Lib.hid (fun o : Obj => bel_alloc (Below.refl w.heap.size w) o)
  clear hb
  go_enter Tryd.func43, Tryd.ntmps43
  go_wp2_with fail
  go_ret
  exact ⟨rfl, HG.out _⟩

/-- Where x is first. -/
def Firsts (l : List (Int × Int)) (x : Int × Int) (r : Int) : Prop := (r = -1 ∧ ∀ y ∈ l, y ≠ x) ∨ ∃ k : Nat, r = k ∧ l[k]? = some x ∧ ∀ y ∈ l.take k, y ≠ x

set_option maxHeartbeats 2000000 in
theorem index_any (l : List (Int × Int)) (x : Int × Int) (A : Option Addr) (n c b : Nat) (w : World) (ha : Rs w A n c l) (hb : Blk w b 24 #[.int .i64 x.1, .int .i64 x.2]) :
    Calls Tryd.prog 52 #[.slice A n c, .func (.func 43) #[] #[.pointer (some ⟨b, 0, none⟩)]] w fun e w' => ∃ r, e = .returned (.int .i64 r) ∧ Firsts l x r ∧ Below w.heap.size w w' := by
  have hla := ha.len
  have HA := Lib.hid ha
  have HB0 := Lib.hid hb
  have hca := And.intro ha.le ha.cap
  unfold maxLen at hca
  clear ha hb
  go_enter Tryd.func52, Tryd.ntmps52
  go_wp2_with fail
  go_loopw [8] (HasRel l x w) (fun v _ => n - (intOf v).toNat)
  case atStart => exact ⟨0, rfl, Nat.zero_le _, by simp, Below.refl _ _⟩
  case round =>
    obtain ⟨k, rfl, hk, hno, hbw⟩ := hrel
    by_cases hlt : k < n
    · obtain ⟨g, o, y, rfl, hg, hy, c1, c2⟩ := (HA.out.below hbw).at_ hlt
      have hq := isit_any y x b wr (HB0.out.bel hbw)
      have HY := Lib.hid hy
      have HBW := Lib.hid hbw
      have HI := Lib.hid hno
      clear hy hbw hno
      by_cases hxy : y = x
      · rw [decide_eq_true hxy] at hq
        have HE := Lib.hid hxy
        have HQ := Lib.hid hq
        clear hxy hq
        obtain ⟨y1, y2⟩ := y
        simp only at c1 c2
        go_wp2_with fail
        refine HQ.out.mono ?_
        rintro e w2 ⟨rfl, hb2⟩
        have HB2 := Lib.hid hb2
        clear hb2
        go_wp2_with fail
        go_ret
        exact ⟨_, rfl, .inr ⟨k, rfl, by rw [HY.out, HE.out], HI.out⟩, bel_trans HBW.out HB2.out⟩
      · rw [decide_eq_false hxy] at hq
        have HE := Lib.hid hxy
        have HQ := Lib.hid hq
        clear hxy hq
        obtain ⟨y1, y2⟩ := y
        simp only at c1 c2
        go_wp2_with fail
        refine HQ.out.mono ?_
        rintro e w2 ⟨rfl, hb2⟩
        have HB2 := Lib.hid hb2
        clear hb2
        go_wp2_with fail
        go_roundw
        case rel => exact ⟨k + 1, by simp, by omega, not_snoc HY.out HI.out HE.out, bel_trans HBW.out HB2.out⟩
        case measure =>
          simp [intOf]
          omega
    · have HBW := Lib.hid hbw
      have HI := Lib.hid hno
      clear hbw hno
      go_wp2_with fail
      go_ret
      refine ⟨_, rfl, .inl ⟨rfl, ?_⟩, HBW.out⟩
      have := HI.out
      rwa [List.take_of_length_le (by omega)] at this

/-- Leaving ids out, on the way: the first p ids of d have been looked at; the row holds dk. -/
structure Outs (d : List (Int × Int)) (x : Int × Int) (p kk : Nat) (dk : List (Int × Int)) : Prop where
  len : dk.length = d.length
  num : ((d.take p).filter fun y => !decide (y = x)).length = kk
  low : dk.take kk = (d.take p).filter fun y => !decide (y = x)
  high : ∀ i, p ≤ i → dk[i]? = d[i]?
  lt : kk < p
theorem filter_all {l : List (Int × Int)} {x : Int × Int} (h : ∀ y ∈ l, y ≠ x) : (l.filter fun y => !decide (y = x)) = l := List.filter_eq_self.2 fun y hy => by simp [h y hy]
theorem Outs.start {d : List (Int × Int)} {x : Int × Int} {k : Nat} (hx : d[k]? = some x) (h : ∀ y ∈ d.take k, y ≠ x) : Outs d x (k + 1) k d := by
  have hlt : k < d.length := (List.getElem?_eq_some_iff.1 hx).1
  have e : ((d.take (k + 1)).filter fun y => !decide (y = x)) = d.take k := by
    rw [filter_no hx (by simp), filter_all h]
  exact ⟨rfl, by rw [e, List.length_take]; omega, e.symm, fun _ _ => rfl, by omega⟩
theorem Outs.skip {d dk : List (Int × Int)} {x y : Int × Int} {p kk : Nat} (h : Outs d x p kk dk) (hy : d[p]? = some y) (he : y = x) : Outs d x (p + 1) kk dk := by
  have h0 := h.lt
  have e := filter_no (p := fun y => !decide (y = x)) hy (by simp [he])
  exact ⟨h.len, by rw [e]; exact h.num, by rw [e]; exact h.low, fun i hi => h.high i (by omega), by omega⟩
theorem Outs.more {d dk : List (Int × Int)} {x y : Int × Int} {p kk : Nat} (h : Outs d x p kk dk) (hy : d[p]? = some y) (hne : ¬ y = x) : Outs d x (p + 1) (kk + 1) (dk.set kk y) := by
  have h0 := h.lt
  have hlt : p < d.length := (List.getElem?_eq_some_iff.1 hy).1
  have hl := h.len
  have e := filter_yes (p := fun y => !decide (y = x)) hy (by simp [hne])
  refine ⟨by rw [List.length_set, h.len], by rw [e, List.length_append, h.num]; rfl, ?_, fun i hi => ?_, by omega⟩
  · rw [e, ← h.low, List.take_add_one, List.getElem?_set_self (by omega)]
    congr 1
    rw [List.take_set_of_le (Nat.le_refl _)]
  · rw [List.getElem?_set_ne (by omega)]
    exact h.high i (by omega)
theorem Outs.stop {d dk : List (Int × Int)} {x : Int × Int} {kk : Nat} (h : Outs d x d.length kk dk) : dk.take kk = (d.filter fun y => !decide (y = x)) ∧ kk = (d.filter fun y => !decide (y = x)).length := by
  have h1 := h.low
  have h2 := h.num
  rw [List.take_length] at h1 h2
  exact ⟨h1, h2.symm⟩

def DlRel (d : List (Int × Int)) (x : Int × Int) (g B : Nat) (w : World) (v5 v6 : Value) (wr : World) : Prop :=
  ∃ (kk j : Nat) (vs : Array Value) (dk : List (Int × Int)), v5 = .int .i64 kk ∧ v6 = .int .i64 j ∧ j ≤ d.length ∧ Hd wr g vs dk ∧ Outs d x j kk dk ∧ Below B w wr

set_option maxHeartbeats 4000000 in
theorem delete_any (d : List (Int × Int)) (x : Int × Int) (g B b n c : Nat) (vs : Array Value) (w : World) (hd : Hd w g vs d) (hn : d.length = n) (hc : n ≤ c) (hm : c ≤ maxLen) (hB : B ≤ g) (hk : Blk w b 24 #[.int .i64 x.1, .int .i64 x.2]) (hbB : b < B) :
    Calls Tryd.prog 42 #[.slice (some ⟨g, 0, none⟩) n c, .func (.func 43) #[] #[.pointer (some ⟨b, 0, none⟩)]] w (Cuts w B g c (d.filter fun y => !decide (y = x))) := by
  have HI := Lib.hid (index_any d x _ n c b w (hd.rs hn hc hm) hk)
  unfold maxLen at hm
  have HD := Lib.hid hd
  have HN := Lib.hid hn
  have HK := Lib.hid hk
  have hglt := hd.blk.lt
  clear hd hk
  go_enter Tryd.func42, Tryd.ntmps42
  go_wp2_with fail
  refine HI.out.mono ?_
  rintro e w1 ⟨r, rfl, hfirst, hb1⟩
  have HB1 := Lib.hid hb1
  have hs1 := hb1.size
  clear hb1
  rcases hfirst with ⟨rfl, hno⟩ | ⟨k, rfl, hkx, hno⟩
  · have hfil := filter_all hno
    have HF := Lib.hid hfil
    clear hfil hno
    go_wp2_with fail
    go_ret
    refine ⟨vs, ?_, ?_, HB1.out.mono (by omega)⟩
    · rw [HF.out, HN.out]; rfl
    · rw [HF.out]; exact HD.out.bel HB1.out
  · have hkn : k < n := by rw [← hn]; exact (List.getElem?_eq_some_iff.1 hkx).1
    have HST := Lib.hid (Outs.start hkx hno)
    have hk1 : ((k : Int) == -1) = false := by
      rw [beq_eq_false_iff_ne]
      omega
    clear hkx hno
    go_wp2_with fail
    go_loopw [5, 6] (DlRel d x g B w) (fun _ v _ => n - (intOf v).toNat)
    case atStart => exact ⟨k, k + 1, vs, d, rfl, by simp, by omega, HD.out.bel HB1.out, HST.out, HB1.out.mono (by omega)⟩
    case round =>
      obtain ⟨kk, j, us, dk, rfl, rfl, hj, hh, hI, hbw⟩ := hrel
      have hkk := hI.lt
      have hlen := hI.len
      have hsr := hbw.size
      have HH := Lib.hid hh
      have HO := Lib.hid hI
      have HBW := Lib.hid hbw
      clear hI hbw
      by_cases hlt : j < n
      · obtain ⟨y, hy⟩ : ∃ x, d[j]? = some x := ⟨_, List.getElem?_eq_getElem (by omega)⟩
        obtain ⟨e1, e2⟩ := hh.cell ((HO.out.high j (Nat.le_refl _)).trans hy)
        have hq := fun W (hb : Below B w W) => isit_any y x b W (HK.out.below hb hbB)
        have HY := Lib.hid hy
        have hkkn : kk < n := by omega
        have hgr := hh.blk.lt
        clear hy hh
        by_cases hyx : y = x
        · rw [decide_eq_true hyx] at hq
          have HE := Lib.hid hyx
          have HQ := Lib.hid hq
          clear hyx hq
          obtain ⟨y1, y2⟩ := y
          simp only at e1 e2
          go_wp2_with fail
          refine (HQ.out _ (HBW.out.alloc (by omega) _)).mono ?_
          rintro e w2 ⟨rfl, hb2⟩
          have hbw2 := (bel_alloc (Below.refl wr.heap.size wr) _).trans (hb2.mono (by rw [size_alloc]; omega))
          have HB2 := Lib.hid hbw2
          clear hb2 hbw2
          go_wp2_with fail
          go_roundw
          case rel => exact ⟨kk, j + 1, us, dk, rfl, by simp, by omega, HH.out.bel HB2.out, HO.out.skip HY.out HE.out, HBW.out.trans (HB2.out.mono (by omega))⟩
          case measure =>
            simp [intOf]
            omega
        · rw [decide_eq_false hyx] at hq
          have HE := Lib.hid hyx
          have HQ := Lib.hid hq
          clear hyx hq
          obtain ⟨y1, y2⟩ := y
          simp only at e1 e2
          have HBX := Lib.hid (Blk.new wr 24 #[.int .i64 y1, .int .i64 y2])
          go_wp2_with fail
          refine (HQ.out _ (HBW.out.alloc (by omega) _)).mono ?_
          rintro e w2 ⟨rfl, hb2⟩
          have hbx2 := HBX.out.bel hb2
          have f0 : w2.cell? ⟨wr.heap.size, 0, none⟩ = some (.int .i64 y1) := hbx2.cell 0
          have f1 : w2.cell? ⟨wr.heap.size, 1, none⟩ = some (.int .i64 y2) := hbx2.cell 1
          have hbw2 := (bel_alloc (Below.refl wr.heap.size wr) _).trans (hb2.mono (by rw [size_alloc]; omega))
          have hh2 := HH.out.bel hbw2
          obtain ⟨o1, o2⟩ := hh2.cell (List.getElem?_eq_getElem (show kk < dk.length by omega))
          generalize dk[kk].1 = old1 at o1
          generalize dk[kk].2 = old2 at o2
          have z1 := hh2.blk.soft (kk * 2)
          have z2 := hh2.blk.soft (kk * 2 + 1)
          have HH2 := Lib.hid hh2
          have HB2 := Lib.hid hbw2
          have HLT := Lib.hid (show kk < dk.length by omega)
          clear hb2 hbw2 hbx2 hh2
          go_wp2_with fail
          obtain ⟨us', hput⟩ := HH2.out.put HLT.out (y1, y2)
          have HPT := Lib.hid hput
          clear hput
          go_roundw
          case rel => exact ⟨kk + 1, j + 1, us', dk.set kk (y1, y2), by simp, by simp, by omega, HPT.out, HO.out.more HY.out HE.out, ((HBW.out.trans (HB2.out.mono (by omega))).setCell hB _).setCell hB _⟩
          case measure =>
            simp [intOf]
            omega
      · have hend : j = n := by omega
        have hkkn : kk < n := by omega
        have hclr : ∀ ty, (Builtin.clear_ #[22] ty #[.slice (some ⟨g, kk * 2, none⟩) (n - kk) (c - kk)]).run Tryd.prog wr = .ok (.tuple #[]) (wr.setCells g (kk * 2) (List.replicate ((n - kk) * 2) (.int .i64 0))) := fun ty =>
          run_clear_ids wr ty g (kk * 2) (n - kk) (c - kk) (by omega) (fun i hi => by
            obtain ⟨o1, o2⟩ := hh.cell (j := kk + i / 2) (List.getElem?_eq_getElem (by omega))
            rcases (show i % 2 = 0 ∨ i % 2 = 1 by omega) with e | e
            · rw [show kk * 2 + i = (kk + i / 2) * 2 by omega, o1]; rfl
            · rw [show kk * 2 + i = (kk + i / 2) * 2 + 1 by omega, o2]; rfl) (fun i _ => hh.blk.soft _)
        clear hh
        go_wp2_with fail
        go_ret
        have hstop := HO.out
        rw [hend, ← HN.out] at hstop
        obtain ⟨s1, s2⟩ := hstop.stop
        obtain ⟨vs', hb', hk'⟩ := blk_sets (List.replicate ((n - kk) * 2) (.int .i64 0)) (kk * 2) wr us HH.out.blk
        refine ⟨vs', ?_, ⟨hb', fun i x hx => ?_⟩, below_sets _ _ _ _ HBW.out hB⟩
        · rw [← s2]; rfl
        · have hi : i < kk := by rw [s2]; exact (List.getElem?_eq_some_iff.1 hx).1
          rw [hk' _ (by omega), hk' _ (by omega)]
          rw [← s1] at hx
          exact (HH.out.take kk).at_ i x hx

theorem delete_none (V : Option Addr) (x : Int × Int) (b c : Nat) (w : World) (hr : Rs w V 0 c []) (hk : Blk w b 24 #[.int .i64 x.1, .int .i64 x.2]) :
    Calls Tryd.prog 42 #[.slice V 0 c, .func (.func 43) #[] #[.pointer (some ⟨b, 0, none⟩)]] w fun e w' => e = .returned (.slice V 0 c) ∧ Below w.heap.size w w' := by
  have HI := Lib.hid (index_any [] x V 0 c b w hr hk)
  clear hr hk
  go_enter Tryd.func42, Tryd.ntmps42
  go_wp2_with fail
  refine HI.out.mono ?_
  rintro e w1 ⟨r, rfl, hfirst, hb1⟩
  have HB1 := Lib.hid hb1
  clear hb1
  rcases hfirst with ⟨rfl, _⟩ | ⟨k, rfl, hkx, _⟩
  · go_wp2_with fail
    go_ret
    exact ⟨rfl, HB1.out⟩
  · simp at hkx

set_option maxHeartbeats 1000000 in
theorem without_any (l : List (Int × Int)) (x : Int × Int) (A : Option Addr) (n c : Nat) (w : World) (ha : Rs w A n c l) (hn : n ≤ 1073741824) :
    Calls Tryd.prog 23 #[.slice A n c, .agg #[.int .i64 x.1, .int .i64 x.2]] w (Gets w (l.filter fun y => !decide (y = x))) := by
  have hla := ha.len
  have HC := Lib.hid (clone_ids l A n c _ (ha.alloc (.cells #[.int .i64 x.1, .int .i64 x.2] 24)) hn)
  have HBX := Lib.hid (Blk.new w 24 #[.int .i64 x.1, .int .i64 x.2])
  have HB0 := Lib.hid (bel_alloc (Below.refl w.heap.size w) (.cells #[.int .i64 x.1, .int .i64 x.2] 24))
  have hs0 := size_alloc w (.cells #[.int .i64 x.1, .int .i64 x.2] 24)
  clear ha
  go_enter Tryd.func23, Tryd.ntmps23
  go_wp2_with fail
  generalize w.alloc (.cells #[.int .i64 x.1, .int .i64 x.2] 24) = W at HC HBX HB0 hs0 ⊢
  refine HC.out.mono ?_
  rintro e w1 ⟨V, cv, rfl, hown, hb1⟩
  have hs1 := hb1.size
  have hk1 := HBX.out.bel hb1
  have HB1 := Lib.hid (bel_trans HB0.out hb1)
  rcases Nat.eq_zero_or_pos n with h0 | h0
  · have hl0 : l = [] := List.eq_nil_of_length_eq_zero (by omega)
    subst hl0
    have HR := Lib.hid (Rs.own hown)
    have HD := Lib.hid (delete_none V x w.heap.size cv w1 (Rs.own hown) hk1)
    clear hown hk1 hb1
    simp only [List.length_nil]
    go_wp2_with fail
    refine HD.out.mono ?_
    rintro e w2 ⟨rfl, hb2⟩
    have HB2 := Lib.hid hb2
    clear hb2
    go_wp2_with fail
    go_ret
    exact ⟨V, cv, rfl, HR.out.below HB2.out, bel_trans HB1.out HB2.out⟩
  · obtain ⟨g, vs, rfl, hg, hd, hnc, hm⟩ := Hd.of_own hown (by omega)
    have HD := Lib.hid (delete_any l x g W.heap.size w.heap.size n cv vs w1 hd hla (by omega) hm hg hk1 (by omega))
    clear hown hk1 hb1 hd
    go_wp2_with fail
    refine HD.out.mono ?_
    rintro e w2 ⟨vs2, rfl, hd2, hb2⟩
    have HD2 := Lib.hid hd2
    have HB2 := Lib.hid (hb2.mono (show w.heap.size ≤ W.heap.size by omega))
    have hle : (l.filter fun y => !decide (y = x)).length ≤ l.length := List.length_filter_le _ _
    clear hd2 hb2
    go_wp2_with fail
    go_ret
    exact ⟨_, cv, rfl, HD2.out.rs rfl (by omega) hm, HB1.out.trans HB2.out⟩
end Go.Proofs.YtmbmgmelnejceaaDoor
