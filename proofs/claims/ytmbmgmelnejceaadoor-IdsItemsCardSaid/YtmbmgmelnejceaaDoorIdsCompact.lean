/-
  slices.Compact of a row of ids of the caller's own: neighbours that are the same are one.
-/
import Derived.Test.YtmbmgmelnejceaaDoorIdsRow
namespace Go.Proofs.YtmbmgmelnejceaaDoor
open Go.RowKit Mem Ids Go.Sort

def CoRel (d : List (Int × Int)) (w : World) (v : Value) (wr : World) : Prop :=
  ∃ k q : Nat, v = .int .i64 k ∧ 1 ≤ k ∧ k ≤ d.length ∧ dd (d.take k) = d.take k ∧ wr = w.drewN q
def CiRel (d : List (Int × Int)) (k g B : Nat) (w : World) (v3 v5 : Value) (wr : World) : Prop :=
  ∃ (kk k2 : Nat) (vs : Array Value) (dk : List (Int × Int)), v3 = .int .i64 kk ∧ v5 = .int .i64 k2 ∧ 1 ≤ k2 ∧ k + k2 ≤ d.length ∧ Hd wr g vs dk ∧ Comp d (k + k2) kk dk ∧ Below B w wr

/-- The ending: the slice, cut to r; the row holds it; what lies below B stays. -/
def Cuts (w : World) (B g c : Nat) (r : List (Int × Int)) (e : Ending) (w' : World) : Prop :=
  ∃ vs, e = .returned (.slice (some ⟨g, 0, none⟩) r.length c) ∧ Hd w' g vs r ∧ Below B w w'

set_option maxHeartbeats 4000000 in
theorem compact_any (d : List (Int × Int)) (g B n c : Nat) (vs : Array Value) (w : World) (hd : Hd w g vs d) (hn : d.length = n) (hc : n ≤ c) (hm : c ≤ maxLen) (hB : B ≤ g) :
    Calls Tryd.prog 35 #[.slice (some ⟨g, 0, none⟩) n c] w (Cuts w B g c (dd d)) := by
  unfold maxLen at hm
  have HD := Lib.hid hd
  have HN := Lib.hid hn
  clear hd
  go_enter Tryd.func35, Tryd.ntmps35
  by_cases h2 : n < 2
  · have hdd : dd d = d := by
      match d, (show d.length < 2 by omega) with
      | [], _ => rfl
      | [x], _ => rfl
    go_wp2_with fail
    go_ret
    refine ⟨vs, ?_, ?_, Below.refl _ _⟩
    · rw [hdd, HN.out]; rfl
    · rw [hdd]; exact HD.out
  · go_wp2_with fail
    go_loopw [3] (CoRel d w) (fun v _ => n - (intOf v).toNat)
    case atStart => 
      refine ⟨1, 0, rfl, Nat.le_refl _, by omega, ?_, rfl⟩
      match d, (show 2 ≤ d.length by omega) with
      | x :: y :: l, _ => rfl
    case round =>
      obtain ⟨k, q, rfl, hk1, hk, hpre, rfl⟩ := hrel
      by_cases hlt : k < n
      · obtain ⟨j, hj⟩ : ∃ j, k = j + 1 := ⟨k - 1, by omega⟩
        have hjn : j < n := by omega
        have hwj : IntKind.i64.wrap ((k : Int) - 1) = j := by rw [wrap64 (by omega) (by omega)]; omega
        obtain ⟨x, hx⟩ : ∃ x, d[k]? = some x := ⟨_, List.getElem?_eq_getElem (by omega)⟩
        obtain ⟨y, hy⟩ : ∃ y, d[j]? = some y := ⟨_, List.getElem?_eq_getElem (by omega)⟩
        obtain ⟨c1, c2⟩ := HD.out.cell hx
        obtain ⟨d1, d2⟩ := HD.out.cell hy
        have HJ := Lib.hid (show k - 1 = j by omega)
        have HX := Lib.hid hx
        have HY := Lib.hid (show d[k - 1]? = some y by rw [HJ.out]; exact hy)
        have HP := Lib.hid hpre
        have heq := eql_id x y
        clear hx hy hj hpre
        by_cases hxy : x = y
        · rw [decide_eq_true hxy] at heq
          subst hxy
          obtain ⟨x1, x2⟩ := x
          simp only at heq c1 c2 d1 d2
          go_wp2_with fail
          go_quiet (fail)
          go_wp2_with fail
          clear c1 c2 d1 d2 heq
          go_loopw [3, 5] (CiRel d k g B w) (fun _ v _ => n - k - (intOf v).toNat)
          case atStart => exact ⟨k, 1, vs, d, rfl, rfl, Nat.le_refl _, by omega, HD.out.drewN _, Comp.start (by omega) HX.out HY.out HP.out, below_drewN (Below.refl _ _) _⟩
          case round =>
            obtain ⟨kk, k2, us, dk, rfl, rfl, h1, hle, hh, hI, hbw⟩ := hrel
            have hkk := hI.lt
            have hlen := hI.len
            have HH := Lib.hid hh
            have HI := Lib.hid hI
            have HBW := Lib.hid hbw
            clear hI hbw
            by_cases hlt2 : k + k2 < n
            · obtain ⟨j2, hj2⟩ : ∃ j, k2 = j + 1 := ⟨k2 - 1, by omega⟩
              have hjn2 : j2 < n - k := by omega
              have hkn2 : k2 < n - k := by omega
              have hwj2 : IntKind.i64.wrap ((k2 : Int) - 1) = j2 := by rw [wrap64 (by omega) (by omega)]; omega
              obtain ⟨u, hu⟩ : ∃ x, d[k + k2]? = some x := ⟨_, List.getElem?_eq_getElem (by omega)⟩
              obtain ⟨v, hv⟩ : ∃ y, d[k + j2]? = some y := ⟨_, List.getElem?_eq_getElem (by omega)⟩
              have hu' := HI.out.high (k + k2) (by omega)
              have hv' := HI.out.high (k + j2) (by omega)
              obtain ⟨e1, e2⟩ := hh.cell (hu'.trans hu)
              obtain ⟨f1, f2⟩ := hh.cell (hv'.trans hv)
              have hkkn : kk < n := by omega
              obtain ⟨o1, o2⟩ := hh.cell (List.getElem?_eq_getElem (show kk < dk.length by omega))
              have z1 := hh.blk.soft (kk * 2)
              have z2 := hh.blk.soft (kk * 2 + 1)
              rw [show (k + k2) * 2 = k * 2 + k2 * 2 by omega] at e1 e2
              rw [show (k + j2) * 2 = k * 2 + j2 * 2 by omega] at f1 f2
              have HU := Lib.hid hu
              have HV := Lib.hid (show d[k + k2 - 1]? = some v by rw [show k + k2 - 1 = k + j2 by omega]; exact hv)
              have HLT := Lib.hid (show kk < dk.length by omega)
              have hneq := neq_id u v
              clear hu hv hu' hv' hh hj2
              generalize dk[kk].1 = old1 at o1
              generalize dk[kk].2 = old2 at o2
              by_cases huv : u = v
              · rw [decide_eq_true huv] at hneq
                subst huv
                obtain ⟨u1, u2⟩ := u
                simp only [Bool.not_true] at hneq e1 e2 f1 f2
                go_wp2_with fail
                go_quiet (fail)
                go_wp2_with fail
                go_roundw
                case rel => exact ⟨kk, k2 + 1, us, dk, rfl, by simp, by omega, by omega, HH.out.drewN _, HI.out.skip HU.out HV.out, below_drewN HBW.out _⟩
                case measure =>
                  simp [intOf]
                  omega
              · rw [decide_eq_false huv] at hneq
                have HE := Lib.hid huv
                clear huv
                obtain ⟨u1, u2⟩ := u
                obtain ⟨v1, v2⟩ := v
                simp only [Bool.not_false] at hneq e1 e2 f1 f2
                go_wp2_with fail
                go_quiet (fail)
                go_wp2_with fail
                obtain ⟨us', hput⟩ := (HH.out.drewN nq).put HLT.out (u1, u2)
                have HPT := Lib.hid hput
                clear hput
                go_roundw
                case rel => exact ⟨kk + 1, k2 + 1, us', dk.set kk (u1, u2), by simp, by simp, by omega, by omega, HPT.out, HI.out.more HU.out HV.out HE.out, ((below_drewN HBW.out _).setCell hB _).setCell hB _⟩
                case measure =>
                  simp [intOf]
                  omega
            · have hend : k + k2 = n := by omega
              have hkkn : kk < n := by omega
              have hclr : ∀ ty, (Builtin.clear_ #[22] ty #[.slice (some ⟨g, kk * 2, none⟩) (n - kk) (c - kk)]).run Tryd.prog wr = .ok (.tuple #[]) (wr.setCells g (kk * 2) (List.replicate ((n - kk) * 2) (.int .i64 0))) := fun ty =>
                run_clear_ids wr ty g (kk * 2) (n - kk) (c - kk) (by omega) (fun i hi => by
                  obtain ⟨o1, o2⟩ := hh.cell (j := kk + i / 2) (List.getElem?_eq_getElem (by omega))
                  rcases (show i % 2 = 0 ∨ i % 2 = 1 by omega) with e | e
                  · rw [show kk * 2 + i = (kk + i / 2) * 2 by omega, o1]; rfl
                  · rw [show kk * 2 + i = (kk + i / 2) * 2 + 1 by omega, o2]; rfl) (fun i _ => hh.blk.soft _)
              clear hh
              go_wp2_with fail
              go_ret
              have hstop := HI.out
              rw [hend, ← HN.out] at hstop
              obtain ⟨s1, s2⟩ := hstop.stop
              obtain ⟨vs', hb', hk'⟩ := blk_sets (List.replicate ((n - kk) * 2) (.int .i64 0)) (kk * 2) wr us HH.out.blk
              refine ⟨vs', ?_, ⟨hb', fun i x hx => ?_⟩, below_sets _ _ _ _ HBW.out hB⟩
              · rw [← s2]; rfl
              · have hi : i < kk := by rw [s2]; exact (List.getElem?_eq_some_iff.1 hx).1
                rw [hk' _ (by omega), hk' _ (by omega)]
                rw [← s1] at hx
                exact (HH.out.take kk).at_ i x hx
        · rw [decide_eq_false hxy] at heq
          have HE := Lib.hid hxy
          clear hxy
          obtain ⟨x1, x2⟩ := x
          obtain ⟨y1, y2⟩ := y
          simp only at heq c1 c2 d1 d2
          go_wp2_with fail
          go_quiet (fail)
          go_wp2_with fail
          go_roundw
          case rel => exact ⟨k + 1, q + nq, by simp, by omega, by omega, dd_keep (by omega) HX.out HY.out HE.out HP.out, by simp⟩
          case measure =>
            simp [intOf]
            omega
      · have hdd : dd d = d := by rw [List.take_of_length_le (by omega)] at hpre; exact hpre
        clear hpre
        have HDD := Lib.hid hdd
        clear hdd
        go_wp2_with fail
        go_ret
        refine ⟨vs, ?_, ?_, below_drewN (Below.refl _ _) q⟩
        · rw [HDD.out, HN.out]; rfl
        · rw [HDD.out]; exact HD.out.drewN q
end Go.Proofs.YtmbmgmelnejceaaDoor
