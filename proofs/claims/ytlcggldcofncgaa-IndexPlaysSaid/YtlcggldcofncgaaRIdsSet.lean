/-
  Texts of earlier layers, as one.
-/
import Derived.Test.YtlcggldcofncgaaRIds
import Derived.Lib.SliceRun
import Derived.Test.YtlcggldcofncgaaShelf
/- A row of ids that is the call's own and is written over: 'Hd' (block g holds these ids from its beginning on, whatever lies behind), stores, 'clear'; neighbours that are the same put together, step by step. -/
namespace Go.Proofs.Ytlcggldcofncgaa
open Go.RowKit Mem Ids Go.Sort

/-- Block g's cells begin with the ids d. -/
structure Hd (w : World) (g : Nat) (vs : Array Value) (d : List (Int × Int)) : Prop where
  blk : Blk w g 26 vs
  at_ : ∀ j x, d[j]? = some x → vs[j * 2]? = some (.int .i64 x.1) ∧ vs[j * 2 + 1]? = some (.int .i64 x.2)
section
variable {w : World} {g : Nat} {vs : Array Value} {d : List (Int × Int)}
theorem Hd.drewN (h : Hd w g vs d) (n : Nat) : Hd (w.drewN n) g vs d := ⟨h.blk, h.at_⟩
theorem Hd.bel {w' : World} (h : Hd w g vs d) (hb : Below w.heap.size w w') : Hd w' g vs d := ⟨h.blk.bel hb, h.at_⟩
theorem Hd.alloc (h : Hd w g vs d) (o : Obj) : Hd (w.alloc o) g vs d := ⟨h.blk.alloc o, h.at_⟩
theorem Hd.cell (h : Hd w g vs d) {j : Nat} {x : Int × Int} (hx : d[j]? = some x) : w.cell? ⟨g, j * 2, none⟩ = some (.int .i64 x.1) ∧ w.cell? ⟨g, j * 2 + 1, none⟩ = some (.int .i64 x.2) := by
  rw [h.blk.cell, h.blk.cell]
  exact h.at_ j x hx
theorem Hd.rs (h : Hd w g vs d) {n c : Nat} (hn : d.length = n) (hc : n ≤ c) (hm : c ≤ maxLen) : Rs w (some ⟨g, 0, none⟩) n c d :=
  ⟨hn, hc, hm, (fun e => by cases e), fun _ => ⟨g, 0, rfl, h.blk.lt, fun j x hx => by rw [Nat.zero_add]; exact h.cell hx⟩⟩
/-- s[k] = x -/
theorem Hd.put (h : Hd w g vs d) {k : Nat} (hk : k < d.length) (x : Int × Int) : ∃ vs', Hd ((w.setCell ⟨g, k * 2, none⟩ (.int .i64 x.1)).setCell ⟨g, k * 2 + 1, none⟩ (.int .i64 x.2)) g vs' (d.set k x) := by
  refine ⟨_, (h.blk.put (k * 2) (.int .i64 x.1)).put (k * 2 + 1) (.int .i64 x.2), fun j y hy => ?_⟩
  rw [List.getElem?_set] at hy
  have hold := h.at_ k d[k] (List.getElem?_eq_getElem hk)
  have l1 := (Array.getElem?_eq_some_iff.1 hold.1).1
  have l2 := (Array.getElem?_eq_some_iff.1 hold.2).1
  simp only [Array.getElem?_setIfInBounds, Array.size_setIfInBounds]
  by_cases e : k = j
  · subst e
    rw [if_pos rfl, if_pos hk] at hy
    injection hy with hy
    subst hy
    rw [if_neg (by omega), if_pos rfl, if_pos l1, if_pos rfl, if_pos l2]
    exact ⟨rfl, rfl⟩
  · rw [if_neg e] at hy
    rw [if_neg (by omega), if_neg (by omega), if_neg (by omega), if_neg (by omega)]
    exact h.at_ j y hy
/-- s[:k] -/
theorem Hd.take (h : Hd w g vs d) (k : Nat) : Hd w g vs (d.take k) := ⟨h.blk, fun j x hx => h.at_ j x (by
    rw [List.getElem?_take] at hx
    split at hx
    · exact hx
    · cases hx)⟩
end
theorem blk_sets {g : Nat} {t : TypeId} : ∀ (us : List Value) (o : Nat) (w : World) (vs : Array Value), Blk w g t vs → ∃ vs', Blk (w.setCells g o us) g t vs' ∧ ∀ i, i < o → vs'[i]? = vs[i]?
  | [], _, _, vs, h => ⟨vs, h, fun _ _ => rfl⟩
  | u :: us, o, _, vs, h => by
    obtain ⟨vs', h1, h2⟩ := blk_sets us (o + 1) _ _ (h.put o u)
    refine ⟨vs', h1, fun i hi => ?_⟩
    rw [h2 i (by omega), Array.getElem?_setIfInBounds, if_neg (by omega)]
theorem below_sets {B g : Nat} : ∀ (us : List Value) (o : Nat) (w0 w : World), Below B w0 w → B ≤ g → Below B w0 (w.setCells g o us)
  | [], _, _, _, h, _ => h
  | u :: us, o, w0, _, h, hB => below_sets us (o + 1) w0 _ (h.setCell hB u) hB
/-- 'clear(s)' of m ids. -/
theorem run_clear_ids (w : World) (ty : TypeId) (g o m c : Nat) (hm : 0 < m) (hc : ∀ j, j < m * 2 → (w.cell? ⟨g, o + j, none⟩).isSome = true) (hf : ∀ j, j < m * 2 → w.frozen? ⟨g, o + j, none⟩ = false) :
    (Builtin.clear_ #[42] ty #[.slice (some ⟨g, o, none⟩) m c]).run Try.prog w = .ok (.tuple #[]) (w.setCells g o (List.replicate (m * 2) (.int .i64 0))) := by
  have hv : ∀ w, (zeroValue 26).run Try.prog w = .ok (.agg #[.int .i64 0, .int .i64 0]) w := Try.zeroValue26
  have hzc : (Builtin.zeroCells (Value.agg #[.int .i64 0, .int .i64 0]).cells m).toList = List.replicate (m * 2) (.int .i64 0) := by
    apply List.ext_getElem
    · simp [Builtin.zeroCells, Value.cells]
    · intro i h1 h2
      simp [Builtin.zeroCells, Value.cells]
      have : i % 2 = 0 ∨ i % 2 = 1 := by omega
      rcases this with e | e <;> simp [e]
  have hst := run_storeCells_cells (P := Try.prog) g o (List.replicate (m * 2) (.int .i64 0)) 0 w (by simpa using hc) (by simpa using hf) (by intro v hv'; rw [List.eq_of_mem_replicate hv']; rfl)
  simp only [Nat.add_zero] at hst
  obtain ⟨k, rfl⟩ : ∃ k, m = k + 1 := ⟨m - 1, by omega⟩
  simp [Builtin.clear_, run_underlying Try.underlying42, hv, hzc, hst]

/-- Putting neighbours together, on the way: the first p ids of d have been looked at; the row holds dk. -/
structure Comp (d : List (Int × Int)) (p kk : Nat) (dk : List (Int × Int)) : Prop where
  len : dk.length = d.length
  num : (dd (d.take p)).length = kk
  low : dk.take kk = dd (d.take p)
  high : ∀ i, p ≤ i + 1 → dk[i]? = d[i]?
  lt : kk < p
theorem dd_take {d : List (Int × Int)} {p : Nat} {x y : Int × Int} (hp : 0 < p) (hx : d[p]? = some x) (hy : d[p - 1]? = some y) : dd (d.take (p + 1)) = dd (d.take p) ++ if y = x then [] else [x] := by
  obtain ⟨q, rfl⟩ : ∃ q, p = q + 1 := ⟨p - 1, by omega⟩
  rw [Nat.add_sub_cancel] at hy
  rw [List.take_add_one (i := q + 1), hx, List.take_add_one (i := q), hy]
  have := dd_snoc (d.take q) y x
  simpa using this
theorem Comp.start {d : List (Int × Int)} {k : Nat} {x : Int × Int} (hk : 0 < k) (hx : d[k]? = some x) (hy : d[k - 1]? = some x) (h : dd (d.take k) = d.take k) : Comp d (k + 1) k d := by
  have e := dd_take hk hx hy
  rw [if_pos rfl, List.append_nil, h] at e
  have hlt : k < d.length := (List.getElem?_eq_some_iff.1 hx).1
  exact ⟨rfl, by rw [e, List.length_take]; omega, e.symm, fun _ _ => rfl, by omega⟩
theorem Comp.skip {d dk : List (Int × Int)} {p kk : Nat} {x : Int × Int} (h : Comp d p kk dk) (hx : d[p]? = some x) (hy : d[p - 1]? = some x) : Comp d (p + 1) kk dk := by
  have h0 := h.lt
  have e := dd_take (by omega) hx hy
  rw [if_pos rfl, List.append_nil] at e
  exact ⟨h.len, by rw [e]; exact h.num, by rw [e]; exact h.low, fun i hi => h.high i (by omega), by omega⟩
theorem Comp.more {d dk : List (Int × Int)} {p kk : Nat} {x y : Int × Int} (h : Comp d p kk dk) (hx : d[p]? = some x) (hy : d[p - 1]? = some y) (hne : ¬ x = y) : Comp d (p + 1) (kk + 1) (dk.set kk x) := by
  have h0 := h.lt
  have hlt : p < d.length := (List.getElem?_eq_some_iff.1 hx).1
  have hl := h.len
  have e := dd_take (by omega) hx hy
  rw [if_neg (fun e => hne e.symm)] at e
  refine ⟨by rw [List.length_set, h.len], by rw [e, List.length_append, h.num]; rfl, ?_, fun i hi => ?_, by omega⟩
  · rw [e, ← h.low, List.take_add_one, List.getElem?_set_self (by omega)]
    congr 1
    rw [List.take_set_of_le (Nat.le_refl _)]
  · rw [List.getElem?_set_ne (by omega)]
    exact h.high i (by omega)
theorem Comp.stop {d dk : List (Int × Int)} {kk : Nat} (h : Comp d d.length kk dk) : dk.take kk = dd d ∧ kk = (dd d).length := by
  have h1 := h.low
  have h2 := h.num
  rw [List.take_length] at h1 h2
  exact ⟨h1, h2.symm⟩
theorem dd_keep {d : List (Int × Int)} {k : Nat} {x y : Int × Int} (hk : 0 < k) (hx : d[k]? = some x) (hy : d[k - 1]? = some y) (hne : ¬ x = y) (h : dd (d.take k) = d.take k) : dd (d.take (k + 1)) = d.take (k + 1) := by
  rw [dd_take hk hx hy, if_neg (fun e => hne e.symm), h, List.take_add_one, hx]
  rfl
end Go.Proofs.Ytlcggldcofncgaa
/- slices.Compact of a row of ids of the caller's own: neighbours that are the same are one. -/
namespace Go.Proofs.Ytlcggldcofncgaa
open Go.RowKit Mem Ids Go.Sort

def CoRel (d : List (Int × Int)) (w : World) (v : Value) (wr : World) : Prop :=
  ∃ k q : Nat, v = .int .i64 k ∧ 1 ≤ k ∧ k ≤ d.length ∧ dd (d.take k) = d.take k ∧ wr = w.drewN q
def CiRel (d : List (Int × Int)) (k g B : Nat) (w : World) (v3 v5 : Value) (wr : World) : Prop :=
  ∃ (kk k2 : Nat) (vs : Array Value) (dk : List (Int × Int)), v3 = .int .i64 kk ∧ v5 = .int .i64 k2 ∧ 1 ≤ k2 ∧ k + k2 ≤ d.length ∧ Hd wr g vs dk ∧ Comp d (k + k2) kk dk ∧ Below B w wr

/-- The ending: the slice, cut to r; the row holds it; what lies below B stays. -/
def Cuts (w : World) (B g c : Nat) (r : List (Int × Int)) (e : Ending) (w' : World) : Prop :=
  ∃ vs, e = .returned (.slice (some ⟨g, 0, none⟩) r.length c) ∧ Hd w' g vs r ∧ Below B w w'

set_option maxHeartbeats 4000000 in
theorem compact_any (d : List (Int × Int)) (g B n c : Nat) (vs : Array Value) (w : World) (hd : Hd w g vs d) (hn : d.length = n) (hc : n ≤ c) (hm : c ≤ maxLen) (hB : B ≤ g) :
    Calls Try.prog 45 #[.slice (some ⟨g, 0, none⟩) n c] w (Cuts w B g c (dd d)) := by
  unfold maxLen at hm
  have HD := Lib.hid hd
  have HN := Lib.hid hn
  clear hd
  go_enter Try.func45, Try.ntmps45
  by_cases h2 : n < 2
  · have hdd : dd d = d := by
      match d, (show d.length < 2 by omega) with
      | [], _ => rfl
      | [x], _ => rfl
    go_wp2_with fail
    go_ret
    refine ⟨vs, ?_, ?_, Below.refl _ _⟩
    · rw [hdd, HN.out]; rfl
    · rw [hdd]; exact HD.out
  · go_wp2_with fail
    go_loopw [3] (CoRel d w) (fun v _ => n - (intOf v).toNat)
    case atStart => 
      refine ⟨1, 0, rfl, Nat.le_refl _, by omega, ?_, rfl⟩
      match d, (show 2 ≤ d.length by omega) with
      | x :: y :: l, _ => rfl
    case round =>
      obtain ⟨k, q, rfl, hk1, hk, hpre, rfl⟩ := hrel
      by_cases hlt : k < n
      · obtain ⟨j, hj⟩ : ∃ j, k = j + 1 := ⟨k - 1, by omega⟩
        have hjn : j < n := by omega
        have hwj : IntKind.i64.wrap ((k : Int) - 1) = j := by rw [wrap64 (by omega) (by omega)]; omega
        obtain ⟨x, hx⟩ : ∃ x, d[k]? = some x := ⟨_, List.getElem?_eq_getElem (by omega)⟩
        obtain ⟨y, hy⟩ : ∃ y, d[j]? = some y := ⟨_, List.getElem?_eq_getElem (by omega)⟩
        obtain ⟨c1, c2⟩ := HD.out.cell hx
        obtain ⟨d1, d2⟩ := HD.out.cell hy
        have HJ := Lib.hid (show k - 1 = j by omega)
        have HX := Lib.hid hx
        have HY := Lib.hid (show d[k - 1]? = some y by rw [HJ.out]; exact hy)
        have HP := Lib.hid hpre
        have heq := eql_id x y
        clear hx hy hj hpre
        by_cases hxy : x = y
        · rw [decide_eq_true hxy] at heq
          subst hxy
          obtain ⟨x1, x2⟩ := x
          simp only at heq c1 c2 d1 d2
          go_wp2_with fail
          go_quiet (fail)
          go_wp2_with fail
          clear c1 c2 d1 d2 heq
          go_loopw [3, 5] (CiRel d k g B w) (fun _ v _ => n - k - (intOf v).toNat)
          case atStart => exact ⟨k, 1, vs, d, rfl, rfl, Nat.le_refl _, by omega, HD.out.drewN _, Comp.start (by omega) HX.out HY.out HP.out, below_drewN (Below.refl _ _) _⟩
          case round =>
            obtain ⟨kk, k2, us, dk, rfl, rfl, h1, hle, hh, hI, hbw⟩ := hrel
            have hkk := hI.lt
            have hlen := hI.len
            have HH := Lib.hid hh
            have HI := Lib.hid hI
            have HBW := Lib.hid hbw
            clear hI hbw
            by_cases hlt2 : k + k2 < n
            · obtain ⟨j2, hj2⟩ : ∃ j, k2 = j + 1 := ⟨k2 - 1, by omega⟩
              have hjn2 : j2 < n - k := by omega
              have hkn2 : k2 < n - k := by omega
              have hwj2 : IntKind.i64.wrap ((k2 : Int) - 1) = j2 := by rw [wrap64 (by omega) (by omega)]; omega
              obtain ⟨u, hu⟩ : ∃ x, d[k + k2]? = some x := ⟨_, List.getElem?_eq_getElem (by omega)⟩
              obtain ⟨v, hv⟩ : ∃ y, d[k + j2]? = some y := ⟨_, List.getElem?_eq_getElem (by omega)⟩
              have hu' := HI.out.high (k + k2) (by omega)
              have hv' := HI.out.high (k + j2) (by omega)
              obtain ⟨e1, e2⟩ := hh.cell (hu'.trans hu)
              obtain ⟨f1, f2⟩ := hh.cell (hv'.trans hv)
              have hkkn : kk < n := by omega
              obtain ⟨o1, o2⟩ := hh.cell (List.getElem?_eq_getElem (show kk < dk.length by omega))
              have z1 := hh.blk.soft (kk * 2)
              have z2 := hh.blk.soft (kk * 2 + 1)
              rw [show (k + k2) * 2 = k * 2 + k2 * 2 by omega] at e1 e2
              rw [show (k + j2) * 2 = k * 2 + j2 * 2 by omega] at f1 f2
              have HU := Lib.hid hu
              have HV := Lib.hid (show d[k + k2 - 1]? = some v by rw [show k + k2 - 1 = k + j2 by omega]; exact hv)
              have HLT := Lib.hid (show kk < dk.length by omega)
              have hneq := neq_id u v
              clear hu hv hu' hv' hh hj2
              generalize dk[kk].1 = old1 at o1
              generalize dk[kk].2 = old2 at o2
              by_cases huv : u = v
              · rw [decide_eq_true huv] at hneq
                subst huv
                obtain ⟨u1, u2⟩ := u
                simp only [Bool.not_true] at hneq e1 e2 f1 f2
                go_wp2_with fail
                go_quiet (fail)
                go_wp2_with fail
                go_roundw
                case rel => exact ⟨kk, k2 + 1, us, dk, rfl, by simp, by omega, by omega, HH.out.drewN _, HI.out.skip HU.out HV.out, below_drewN HBW.out _⟩
                case measure =>
                  simp [intOf]
                  omega
              · rw [decide_eq_false huv] at hneq
                have HE := Lib.hid huv
                clear huv
                obtain ⟨u1, u2⟩ := u
                obtain ⟨v1, v2⟩ := v
                simp only [Bool.not_false] at hneq e1 e2 f1 f2
                go_wp2_with fail
                go_quiet (fail)
                go_wp2_with fail
                obtain ⟨us', hput⟩ := (HH.out.drewN nq).put HLT.out (u1, u2)
                have HPT := Lib.hid hput
                clear hput
                go_roundw
                case rel => exact ⟨kk + 1, k2 + 1, us', dk.set kk (u1, u2), by simp, by simp, by omega, by omega, HPT.out, HI.out.more HU.out HV.out HE.out, ((below_drewN HBW.out _).setCell hB _).setCell hB _⟩
                case measure =>
                  simp [intOf]
                  omega
            · have hend : k + k2 = n := by omega
              have hkkn : kk < n := by omega
              have hclr : ∀ ty, (Builtin.clear_ #[42] ty #[.slice (some ⟨g, kk * 2, none⟩) (n - kk) (c - kk)]).run Try.prog wr = .ok (.tuple #[]) (wr.setCells g (kk * 2) (List.replicate ((n - kk) * 2) (.int .i64 0))) := fun ty =>
                run_clear_ids wr ty g (kk * 2) (n - kk) (c - kk) (by omega) (fun i hi => by
                  obtain ⟨o1, o2⟩ := hh.cell (j := kk + i / 2) (List.getElem?_eq_getElem (by omega))
                  rcases (show i % 2 = 0 ∨ i % 2 = 1 by omega) with e | e
                  · rw [show kk * 2 + i = (kk + i / 2) * 2 by omega, o1]; rfl
                  · rw [show kk * 2 + i = (kk + i / 2) * 2 + 1 by omega, o2]; rfl) (fun i _ => hh.blk.soft _)
              clear hh
              go_wp2_with fail
              go_ret
              have hstop := HI.out
              rw [hend, ← HN.out] at hstop
              obtain ⟨s1, s2⟩ := hstop.stop
              obtain ⟨vs', hb', hk'⟩ := blk_sets (List.replicate ((n - kk) * 2) (.int .i64 0)) (kk * 2) wr us HH.out.blk
              refine ⟨vs', ?_, ⟨hb', fun i x hx => ?_⟩, below_sets _ _ _ _ HBW.out hB⟩
              · rw [← s2]; rfl
              · have hi : i < kk := by rw [s2]; exact (List.getElem?_eq_some_iff.1 hx).1
                rw [hk' _ (by omega), hk' _ (by omega)]
                rw [← s1] at hx
                exact (HH.out.take kk).at_ i x hx
        · rw [decide_eq_false hxy] at heq
          have HE := Lib.hid hxy
          clear hxy
          obtain ⟨x1, x2⟩ := x
          obtain ⟨y1, y2⟩ := y
          simp only at heq c1 c2 d1 d2
          go_wp2_with fail
          go_quiet (fail)
          go_wp2_with fail
          go_roundw
          case rel => exact ⟨k + 1, q + nq, by simp, by omega, by omega, dd_keep (by omega) HX.out HY.out HE.out HP.out, by simp⟩
          case measure =>
            simp [intOf]
            omega
      · have hdd : dd d = d := by rw [List.take_of_length_le (by omega)] at hpre; exact hpre
        clear hpre
        have HDD := Lib.hid hdd
        clear hdd
        go_wp2_with fail
        go_ret
        refine ⟨vs, ?_, ?_, below_drewN (Below.refl _ _) q⟩
        · rw [HDD.out, HN.out]; rfl
        · rw [HDD.out]; exact HD.out.drewN q
end Go.Proofs.Ytlcggldcofncgaa
/- What ids.Set sorts by. -/
namespace Go.Proofs.Ytlcggldcofncgaa
open Go.RowKit Mem Ids Go.Sort

/-- What ids.Set sorts by. -/
def cmpf (a b : Int × Int) : Int := if a = b then 0 else if lt a b = true then -1 else 1
set_option maxHeartbeats 1000000 in
theorem cmp_grew (a b : Int × Int) (w : World) :
    Calls Try.prog 44 #[.agg #[.int .i64 a.1, .int .i64 a.2], .agg #[.int .i64 b.1, .int .i64 b.2]] w fun e w' => e = .returned (.int .i64 (cmpf a b)) ∧ Grew w w' := by
  have heq := eql_id a b
  have hl := less_grew a b
  obtain ⟨r, hr⟩ : ∃ r, cmpf a b = r := ⟨_, rfl⟩
  rw [hr]
  have HT := Lib.hid hr
  unfold cmpf at hr
  by_cases h1 : a = b
  · rw [decide_eq_true h1] at heq
    rw [if_pos h1] at hr
    subst hr
    clear HT hl h1
    obtain ⟨a1, a2⟩ := a
    obtain ⟨b1, b2⟩ := b
    simp only at heq
    go_enter Try.func44, Try.ntmps44
    go_wp2
    go_ret
    exact ⟨rfl, 0, #[_, _], by rw [alloc_eq_grow, alloc_eq_grow, grow_grow]; rfl⟩
  · rw [decide_eq_false h1] at heq
    rw [if_neg h1] at hr
    clear HT h1
    have HL := Lib.hid hl
    clear hl
    obtain ⟨a1, a2⟩ := a
    obtain ⟨b1, b2⟩ := b
    simp only at heq
    have hgw : ∀ (o1 o2 : Obj) w', Grew ((w.alloc o1).alloc o2) w' → Grew w w' := fun o1 o2 w' ⟨q, os, e⟩ => ⟨q, #[o1, o2] ++ os, by rw [e, alloc_eq_grow, alloc_eq_grow, grow_grow]; show grow (grow (w.drewN q) _) os = _; rw [grow_grow]; rfl⟩
    have HGW := Lib.hid hgw
    clear hgw
    go_enter Try.func44, Try.ntmps44
    go_wp2_with fail
    refine (HL.out _).mono ?_
    rintro e w' ⟨rfl, hg⟩
    have HG := Lib.hid (HGW.out _ _ _ hg)
    clear hg
    cases hlt : lt (a1, a2) (b1, b2) with
    | true =>
      rw [if_pos hlt] at hr
      subst hr
      clear hlt
      go_wp2_with fail
      go_ret
      exact ⟨rfl, HG.out⟩
    | false =>
      rw [if_neg (by simp [hlt])] at hr
      subst hr
      clear hlt
      go_wp2_with fail
      go_ret
      exact ⟨rfl, HG.out⟩
end Go.Proofs.Ytlcggldcofncgaa
/- slices.Clone and slices.SortFunc of ids; ids.Set of any list: its set, in memory of the call's own. -/
namespace Go.Proofs.Ytlcggldcofncgaa
open Go.RowKit Mem Ids Go.Sort Go.Shelf

set_option maxHeartbeats 1000000 in
theorem clone_ids (l : List (Int × Int)) (A : Option Addr) (n c : Nat) (w : World) (ha : Rs w A n c l) (hn : n ≤ 1073741824) :
    Calls Try.prog 42 #[.slice A n c] w (Makes w l) := by
  obtain ⟨i0, hi, hz0, hz1, hz2⟩ := info_parts infoId
  have hnil : ∀ (W : World) (a : Option Addr) (n c : Nat), (binOp .eql 42 (.slice a n c) (.slice none 0 0)).run Try.prog W = .ok (.bool a.isNone) W := fun W a n c => Lib.run_eql_slice_nil W _ _ a n c 0 0 Try.underlying42
  have hla := ha.len
  have HA := Lib.hid ha
  have h0 := ha.none0
  clear ha
  rcases A with _ | ad
  · obtain ⟨rfl, rfl⟩ := h0 rfl
    go_enter Try.func42, Try.ntmps42
    go_wp2_with fail
    go_ret
    have : l = [] := List.eq_nil_of_length_eq_zero hla
    subst this
    exact ⟨none, 0, rfl, ⟨rfl, .inl ⟨rfl, rfl⟩⟩, Below.refl _ _⟩
  · clear h0
    have HE := Lib.hid (World.ownsRow_made (base := w.heap.size) (e := 26) (size := 2) w #[] 0 (Nat.le_refl _) (Nat.zero_le _) (by simp))
    go_enter Try.func42, Try.ntmps42
    go_wp2_with (at_builtin; refine wpList_append_rs rfl _ _ 42 rfl w.heap.size 26 i0 _ Try.underlying42 hi hz0 hz1 hz2 rfl _ 0 0 [] rfl HE.out (some ad) n c l rfl (HA.out.alloc _) (by omega) (by simp) ?_; intro V3 c3 w3 hown3 _ hb3; rw [Nat.zero_add] at hown3)
    have HO3 := Lib.hid hown3
    have HB3 := Lib.hid hb3
    clear hown3 hb3
    go_ret
    refine ⟨V3, c3, ?_, ?_, (bel_alloc (Below.refl _ _) _).trans HB3.out⟩
    · rw [hla]; rfl
    · rw [hla]; exact HO3.out

theorem lt_cmpf (x y : Int × Int) : ltOf cmpf x y = lt x y := by
  unfold ltOf cmpf
  by_cases h : x = y
  · subst h
    rw [if_pos rfl, lt_irrefl]
    rfl
  · rw [if_neg h]
    cases e : lt x y with
    | true => rfl
    | false => rfl
theorem swo_cmpf : SWO (ltOf cmpf) where
  irrefl x := by rw [lt_cmpf]; exact lt_irrefl x
  trans x y z h1 h2 := by rw [lt_cmpf] at *; exact lt_trans h1 h2
  ntrans x y z h1 h2 := by rw [lt_cmpf] at *; rw [lt_false] at *; omega
theorem cmp_lays (blk off size : Nat) (w : World) : CmpLays Try.prog 44 #[] enc 2 cmpf blk off size w := fun _ _ _ _ x y => cmp_grew x y _

theorem flat_at (d : Array (Int × Int)) {j : Nat} {x : Int × Int} (hx : d.toList[j]? = some x) : (flatK enc 2 d)[j * 2]! = .int .i64 x.1 ∧ (flatK enc 2 d)[j * 2 + 1]! = .int .i64 x.2 := by
  have hj : j < d.size := by have := (List.getElem?_eq_some_iff.1 hx).1; simpa using this
  have hd : d[j]! = x := by
    rw [getElem!_pos d j hj]
    have := hx
    rw [List.getElem?_eq_getElem (by simpa using hj)] at this
    injection this
  rw [get_flatK _ _ _ _ (by omega), get_flatK _ _ _ _ (by omega), show j * 2 / 2 = j by omega, show (j * 2 + 1) / 2 = j by omega, show j * 2 % 2 = 0 by omega, show (j * 2 + 1) % 2 = 1 by omega, hd]
  exact ⟨rfl, rfl⟩
theorem Hd.holds {w : World} {g : Nat} {vs : Array Value} {d : List (Int × Int)} (h : Hd w g vs d) : HoldsK enc 2 w g 0 d.toArray := by
  intro t ht
  rw [size_flatK, List.size_toArray] at ht
  refine ⟨?_, h.blk.soft _⟩
  obtain ⟨x, hx⟩ : ∃ x, d[t / 2]? = some x := ⟨_, List.getElem?_eq_getElem (by omega)⟩
  obtain ⟨h1, h2⟩ := h.cell hx
  obtain ⟨f1, f2⟩ := flat_at d.toArray (j := t / 2) (x := x) hx
  rw [Nat.zero_add]
  rcases (show t % 2 = 0 ∨ t % 2 = 1 by omega) with e | e
  · rw [show t / 2 * 2 = t by omega] at h1 f1
    rw [h1, f1]
    rfl
  · rw [show t / 2 * 2 + 1 = t by omega] at h2 f2
    rw [h2, f2]
    rfl
theorem Hd.sorted {w : World} {g : Nat} {vs : Array Value} {d r : List (Int × Int)} (h : Hd w g vs d) (hr : r.length = d.length) (n : Nat) (os : Array Obj) : ∃ vs', Hd (sortWorldK enc 2 w g 0 n r.toArray os) g vs' r := by
  have hk : HoldsK enc 2 (sortWorldK enc 2 w g 0 n r.toArray os) g 0 r.toArray := by
    refine holdsK_grow _ _ _ _ _ _ _ (by show g < (putRow _ _ _ _ _).heap.size; rw [size_putRow]; exact h.blk.lt) ?_
    exact holdsK_putRowK _ _ (Sort.ahead w n) g 0 d.toArray r.toArray (holdsK_ahead _ _ w n g 0 _ h.holds) (by simp [hr])
  have hb : ∃ vs', Blk (sortWorldK enc 2 w g 0 n r.toArray os) g 26 vs' := by
    refine ⟨putCells id 0 (flatK enc 2 r.toArray) vs, ?_⟩
    show ((w.heap.modify g (onCells (putCells id 0 (flatK enc 2 r.toArray)))) ++ os)[g]? = _
    have hb := h.blk
    have hlt := hb.lt
    unfold Blk at hb
    rw [Array.getElem?_append_left (by simpa using hlt), Array.getElem?_modify, if_pos rfl, hb]
    rfl
  obtain ⟨vs', hb⟩ := hb
  refine ⟨vs', hb, fun j x hx => ?_⟩
  have hj : j < r.length := (List.getElem?_eq_some_iff.1 hx).1
  obtain ⟨f1, f2⟩ := flat_at r.toArray (j := j) (x := x) hx
  have k1 := (hk (j * 2) (by rw [size_flatK, List.size_toArray]; omega)).1
  have k2 := (hk (j * 2 + 1) (by rw [size_flatK, List.size_toArray]; omega)).1
  rw [Nat.zero_add, hb.cell, f1] at k1
  rw [Nat.zero_add, hb.cell, f2] at k2
  exact ⟨k1, k2⟩
theorem sorted_bel {B g n : Nat} {w : World} {r : List (Int × Int)} {os : Array Obj} (hB : B ≤ g) (hg : g < w.heap.size) : Below B w (sortWorldK enc 2 w g 0 n r.toArray os) := by
  refine ⟨rfl, rfl, rfl, ?_, fun k hk => ?_⟩
  · show w.heap.size ≤ (w.heap.modify g _ ++ os).size
    simp
  · show (w.heap.modify g _ ++ os)[k]? = w.heap[k]?
    have h : k < w.heap.size := by omega
    rw [Array.getElem?_append_left (by simpa using h), Array.getElem?_modify, if_neg (by omega)]

/-- A row of the call's own, as a block that is known. -/
theorem Hd.of_own {w : World} {base n c : Nat} {V : Option Addr} {l : List (Int × Int)} (h : w.ownsRow base 26 2 (.slice V n c) n (cells l)) (hn : 0 < n) : ∃ g vs, V = some ⟨g, 0, none⟩ ∧ base ≤ g ∧ Hd w g vs l ∧ n ≤ c ∧ c ≤ maxLen := by
  rcases h.2 with ⟨_, h0⟩ | ⟨g, cap, cur, hv, hb, hh, hnc, hm, _, _⟩
  · omega
  · injection hv with e1 _ e2
    subst e1; subst e2
    refine ⟨g, cur, rfl, hb, ⟨hh, fun j x hx => ?_⟩, hnc, hm⟩
    obtain ⟨h1, h2⟩ := cells_at l j x hx
    have k1 := h.cells (g := g) rfl _ _ h1
    have k2 := h.cells (g := g) rfl _ _ h2
    rw [Addr.add_lit, Nat.zero_add, cell_of_row _ _ _ _ _ _ hh] at k1 k2
    exact ⟨k1, k2⟩

theorem sort_ids (l : List (Int × Int)) (g n c : Nat) (vs : Array Value) (w : World) (hd : Hd w g vs l) (hl : l.length = n) (hn : n ≤ 1073741824) :
    Calls Try.prog 43 #[.slice (some ⟨g, 0, none⟩) n c, .func (.func 44) #[] #[]] w fun e w' =>
      e = .returned (.tuple #[]) ∧ ∃ n os, w' = sortWorldK enc 2 w g 0 n (l.mergeSort fun x y => !lt y x).toArray os := by
  subst hl
  have hsf := AnyQ.slices_SortFunc_total Try.sortIds 2 Try.isAgg26 Try.sizeOf26 enc (fun _ => rfl) (fun x v hv => by simp [enc] at hv; rcases hv with rfl | rfl <;> rfl) cmpf swo_cmpf 44 #[] g 0 c l.toArray w (enters_of Try.func44 (by kernel_rfl) rfl) (cmp_lays g 0 _ w) hd.holds hd.blk.lt (by simp; omega) (fun x y h1 h2 => by rw [lt_cmpf] at h1 h2; exact lt_tri h1 h2)
  have e : (fun x y : Int × Int => !ltOf cmpf y x) = fun x y => !lt y x := by funext x y; rw [lt_cmpf]
  rw [e] at hsf
  exact hsf

theorem compact_none (V : Option Addr) (c : Nat) (w : World) : Calls Try.prog 45 #[.slice V 0 c] w fun e w' => e = .returned (.slice V 0 c) ∧ w' = w := by
  go_enter Try.func45, Try.ntmps45
  go_wp2_with fail
  go_ret
  exact ⟨rfl, rfl⟩

set_option maxHeartbeats 1000000 in
theorem set_any (l : List (Int × Int)) (A : Option Addr) (n c : Nat) (w : World) (ha : Rs w A n c l) (hn : n ≤ 1073741824) :
    Calls Try.prog 30 #[.slice A n c] w (Gets w (setl l)) := by
  have hla := ha.len
  have HC := Lib.hid (clone_ids l A n c w ha hn)
  clear ha
  go_enter Try.func30, Try.ntmps30
  go_wp2_with fail
  refine HC.out.mono ?_
  rintro e w1 ⟨V, cv, rfl, hown, hb1⟩
  have hs1 := hb1.size
  have HB1 := Lib.hid hb1
  clear hb1
  rcases Nat.eq_zero_or_pos n with h0 | h0
  · have hl0 : l = [] := List.eq_nil_of_length_eq_zero (by omega)
    subst hl0
    have HR := Lib.hid (Rs.own hown)
    have hsf := fun fv W => AnyF.slices_SortFunc_none Try.sortIds V cv fv W
    change ∀ fv W, Calls Try.prog 43 _ _ _ at hsf
    have HS := Lib.hid hsf
    clear hown hsf
    simp only [List.length_nil]
    go_wp2_with fail
    refine (HS.out _ _).mono ?_
    rintro e w2 ⟨rfl, rfl⟩
    have HK := Lib.hid (compact_none V cv w2)
    go_wp2_with fail
    refine HK.out.mono ?_
    rintro e w3 ⟨rfl, rfl⟩
    go_wp2_with fail
    go_ret
    have hs0 : setl [] = [] := List.eq_nil_of_length_eq_zero (Nat.le_zero.1 (length_setl []))
    rw [hs0]
    exact ⟨V, cv, rfl, HR.out, HB1.out⟩
  · obtain ⟨g, vs, rfl, hg, hd, hnc, hm⟩ := Hd.of_own hown (by omega)
    have HS := Lib.hid (sort_ids l g n cv vs w1 hd hla hn)
    have HD := Lib.hid hd
    clear hown
    go_wp2_with fail
    refine HS.out.mono ?_
    rintro e w2 ⟨rfl, n2, os2, rfl⟩
    obtain ⟨r, hr⟩ : ∃ r, l.mergeSort (fun x y => !lt y x) = r := ⟨_, rfl⟩
    have hrl : r.length = l.length := by rw [← hr]; exact (List.mergeSort_perm l _).length_eq
    rw [hr]
    obtain ⟨vs2, hd2⟩ := HD.out.sorted hrl n2 os2
    have hb2 : Below w.heap.size w1 (sortWorldK enc 2 w1 g 0 n2 r.toArray os2) := sorted_bel hg HD.out.blk.lt
    have hset : dd r = setl l := by rw [← hr]; rfl
    generalize sortWorldK enc 2 w1 g 0 n2 r.toArray os2 = w2 at hd2 hb2 ⊢
    have HK := Lib.hid (compact_any r g w.heap.size n cv vs2 w2 hd2 (hrl.trans hla) (by omega) hm hg)
    rw [hset] at HK
    have HB2 := Lib.hid hb2
    clear hd2 hb2 hr hset
    go_wp2_with fail
    refine HK.out.mono ?_
    rintro e w3 ⟨vs3, rfl, hd3, hb3⟩
    have HD3 := Lib.hid hd3
    have HB3 := Lib.hid hb3
    have hle := length_setl l
    clear hd3 hb3
    go_wp2_with fail
    go_ret
    exact ⟨_, cv, rfl, HD3.out.rs rfl (by omega) hm, (HB1.out.trans HB2.out).trans HB3.out⟩
end Go.Proofs.Ytlcggldcofncgaa
