/-
  Texts of earlier layers, as one.
-/
import Derived.Test.YtpalmnjapiijaaaCompFindsWalk
/- The law of what is in which component: each node in one, no edge to one that comes later. -/
namespace Go.Proofs.Ytpalmnjapiijaaa.Gr
open Go.RowKit Mem Dsk

/-- No node is in two components; what comes later isn't led to. -/
theorem comps_later {e : Graph} {i j : Nat} {c d : List Nat} (hi : (comps e)[i]? = some c) (hj : (comps e)[j]? = some d) (h : i < j) {v w : Nat} (hv : v ∈ c) (hw : w ∈ d) : lead e v w = false := by
  obtain ⟨h1, e1⟩ := List.getElem?_eq_some_iff.1 hi
  obtain ⟨h2, e2⟩ := List.getElem?_eq_some_iff.1 hj
  have := List.pairwise_iff_getElem.1 (comps_row e).order i j h1 h2 h
  rw [e1, e2] at this
  exact this v hv w hw
theorem comps_each {e : Graph} {i : Nat} {c : List Nat} (hi : (comps e)[i]? = some c) : c.Pairwise (· < ·) ∧ ∀ v ∈ c, v < e.length := by
  obtain ⟨u, hu, _, rfl⟩ := (comps_row e).each c (List.mem_of_getElem? hi)
  exact ⟨cmp_up e u, fun v hv => (lead_lt (mutu_iff.1 (mem_cmp.1 hv)).1).2⟩
theorem up_at {c : List Nat} (h : c.Pairwise (· < ·)) {i j x y : Nat} (hi : c[i]? = some x) (hj : c[j]? = some y) (hl : i < j) : x < y := by
  obtain ⟨h1, e1⟩ := List.getElem?_eq_some_iff.1 hi
  obtain ⟨h2, e2⟩ := List.getElem?_eq_some_iff.1 hj
  have := List.pairwise_iff_getElem.1 h i j h1 h2 hl
  rw [e1, e2] at this
  exact this
theorem mem_take_at {c : List Nat} {k x : Nat} (h : x ∈ c.take k) : ∃ i, i < k ∧ c[i]? = some x := by
  obtain ⟨i, hi⟩ := List.getElem?_of_mem h
  have hl : i < (c.take k).length := (List.getElem?_eq_some_iff.1 hi).1
  rw [List.length_take] at hl
  rw [List.getElem?_take, if_pos (by omega)] at hi
  exact ⟨i, by omega, hi⟩
/-- What is noted of the first components, and of the first nodes of the next one. -/
structure Spec (L : List (List Nat)) (i k : Nat) (f : Nat → Nat) : Prop where
  yes : ∀ j c v, L[j]? = some c → (j < i ∧ v ∈ c ∨ j = i ∧ v ∈ c.take k) → f v = j + 1
  no : ∀ v, f v ≠ 0 → ∃ j c, L[j]? = some c ∧ (j < i ∧ v ∈ c ∨ j = i ∧ v ∈ c.take k)
theorem Spec.start (L : List (List Nat)) : Spec L 0 0 (fun _ => 0) := ⟨fun j c v _ h => by simp at h, fun v h => absurd rfl h⟩
theorem Spec.zero {e : Graph} {i k x : Nat} {f : Nat → Nat} {c : List Nat} (h : Spec (comps e) i k f) (hc : (comps e)[i]? = some c) (hx : c[k]? = some x) : f x = 0 := by
  refine Classical.byContradiction fun hn => ?_
  have hxc := List.mem_of_getElem? hx
  obtain ⟨j, d, hd, ⟨h1, h2⟩ | ⟨h1, h2⟩⟩ := h.no x hn
  · have := comps_later hd hc h1 h2 hxc
    rw [lead_refl ((comps_each hc).2 x hxc)] at this
    cases this
  · subst h1
    rw [hc] at hd
    cases hd
    obtain ⟨q, hq, he⟩ := mem_take_at h2
    have := up_at (comps_each hc).1 he hx hq
    omega
theorem Spec.step {e : Graph} {i k x : Nat} {f : Nat → Nat} {c : List Nat} (h : Spec (comps e) i k f) (hc : (comps e)[i]? = some c) (hx : c[k]? = some x) : Spec (comps e) i (k + 1) (fun v => if v = x then i + 1 else f v) := by
  have hxc := List.mem_of_getElem? hx
  have ht : c.take (k + 1) = c.take k ++ [x] := by rw [List.take_add_one, hx]; rfl
  refine ⟨fun j d v hd hv => ?_, fun v hv => ?_⟩
  · by_cases e1 : v = x
    · subst e1
      show (if v = v then i + 1 else f v) = j + 1
      rw [if_pos rfl]
      rcases hv with ⟨h1, h2⟩ | ⟨h1, _⟩
      · have := comps_later hd hc h1 h2 hxc
        rw [lead_refl ((comps_each hc).2 v hxc)] at this
        cases this
      · rw [h1]
    · show (if v = x then i + 1 else f v) = j + 1
      rw [if_neg e1]
      refine h.yes j d v hd ?_
      rcases hv with hv | ⟨h1, h2⟩
      · exact .inl hv
      · subst h1
        rw [hc] at hd
        cases hd
        rw [ht, List.mem_append, List.mem_singleton] at h2
        exact .inr ⟨rfl, h2.resolve_right e1⟩
  · by_cases e1 : v = x
    · subst e1
      exact ⟨i, c, hc, .inr ⟨rfl, by rw [ht]; simp⟩⟩
    · have hv' : f v ≠ 0 := by
        have hv : (if v = x then i + 1 else f v) ≠ 0 := hv
        rw [if_neg e1] at hv
        exact hv
      obtain ⟨j, d, hd, hj⟩ := h.no v hv'
      refine ⟨j, d, hd, hj.imp id fun ⟨h1, h2⟩ => ⟨h1, ?_⟩⟩
      subst h1
      rw [hc] at hd
      cases hd
      rw [ht]
      exact List.mem_append_left _ h2
theorem Spec.next {L : List (List Nat)} {i k : Nat} {f : Nat → Nat} {c : List Nat} (h : Spec L i k f) (hc : L[i]? = some c) (hk : c.length ≤ k) : Spec L (i + 1) 0 f := by
  have key : ∀ j d v, L[j]? = some d → ((j < i + 1 ∧ v ∈ d ∨ j = i + 1 ∧ v ∈ d.take 0) ↔ (j < i ∧ v ∈ d ∨ j = i ∧ v ∈ d.take k)) := fun j d v hd => by
    by_cases e : j = i
    · subst e
      rw [hc] at hd
      cases hd
      rw [List.take_of_length_le hk]
      simp
    · constructor
      · rintro (⟨h1, h2⟩ | ⟨h1, h2⟩)
        · exact .inl ⟨by omega, h2⟩
        · simp at h2
      · rintro (⟨h1, h2⟩ | ⟨h1, h2⟩)
        · exact .inl ⟨by omega, h2⟩
        · exact absurd h1 e
  exact ⟨fun j d v hd hv => h.yes j d v hd ((key j d v hd).1 hv), fun v hv => by
    obtain ⟨j, d, hd, hj⟩ := h.no v hv
    exact ⟨j, d, hd, (key j d v hd).2 hj⟩⟩
theorem Spec.end_ {e : Graph} {f : Nat → Nat} (h : Spec (comps e) (comps e).length 0 f) {v : Nat} (hv : v < e.length) : ∃ j c, (comps e)[j]? = some c ∧ v ∈ c ∧ f v = j + 1 := by
  obtain ⟨j, hj⟩ := List.getElem?_of_mem ((comps_row e).all v hv rfl)
  have hm : v ∈ cmp e v := mem_cmp.2 (mutu_refl hv)
  exact ⟨j, _, hj, hm, h.yes j _ v hj (.inl ⟨(List.getElem?_eq_some_iff.1 hj).1, hm⟩)⟩
def OnRel (L : List (List Nat)) (n b4 : Nat) (uc : World) (v5 : Value) (wr : World) : Prop := ∃ (i : Nat) (f : Nat → Nat), v5 = .int .i64 (i : Int) ∧ i ≤ L.length ∧ wr.rowIs b4 3 n (fun v => .int .i64 (f v : Int)) ∧ Spec L i 0 f ∧ Below uc.heap.size uc wr
def OkRel (L : List (List Nat)) (i rn n b4 : Nat) (uc : World) (v6 : Value) (wr : World) : Prop := ∃ (k : Nat) (f : Nat → Nat), v6 = .int .i64 (k : Int) ∧ k ≤ rn ∧ wr.rowIs b4 3 n (fun v => .int .i64 (f v : Int)) ∧ Spec L i k f ∧ Below uc.heap.size uc wr
def OvRel (n : Nat) (u : World) (v8 : Value) (wr : World) : Prop := ∃ v : Nat, v8 = .int .i64 (v : Int) ∧ v ≤ n ∧ Below u.heap.size u wr
set_option maxRecDepth 20000 in
set_option maxHeartbeats 16000000 in
theorem componce_true (hC : HasComps) (A : Option Addr) (n c : Nat) (e : Graph) (w : World) (h : Mat w A n c e) (hz : ∀ l ∈ e, l.length ≤ 17592186044416) :
    Calls Try.prog 4 #[.slice A n c] w (Tells true w) := by
  have hln := h.len
  have HAW := Lib.hid (fun u => comp_awake hC u)
  have hg := great_any w h hz
  obtain ⟨q, hq⟩ : ∃ q, great e = q := ⟨_, rfl⟩
  rw [hq] at hg
  have HG := Lib.hid hg
  have HQ := Lib.hid hq
  have HM := Lib.hid (And.intro h hz)
  clear h hz hg hq
  cases q with
  | true =>
    go_enter Try.func4, Try.ntmps4
    go_wp2_with (first | (go_at_call 8; (with_reducible refine HG.out.mono ?_); rintro r u1 ⟨rfl, hb1⟩; have HU1 := Lib.hid hb1; clear hb1 HG) | (go_at_call 9; (with_reducible refine (HAW.out _).mono ?_); rintro r w10 ⟨rfl, hb10⟩; have HB10 := Lib.hid hb10; clear hb10))
    go_ret
    exact ⟨rfl, bel_trans HU1.out HB10.out⟩
  | false =>
    have hn40 : n ≤ 40 := by have := (great_no HQ.out).1; omega
    obtain ⟨m, hm⟩ : ∃ x, (comps e).length = x := ⟨_, rfl⟩
    have hmn : m ≤ 40 := by
      have := comps_length e
      omega
    have HCC : Hid (∀ u, Below w.heap.size w u → Calls Try.prog 10 #[.slice A n c] u (fun r u' => ∃ A c, r = .returned (.slice A m c) ∧ Mat u' A m c (compsZ e) ∧ Below u.heap.size u u')) := Lib.hid fun u hu => by
      have := hC A n c e u (HM.out.1.below hu) (by omega) HM.out.2
      have e1 : (compsZ e).length = m := by unfold compsZ; rw [List.length_map, hm]
      rw [← e1]
      exact this
    have HLM := Lib.hid hm
    have hmk := run_make_row' (P := Try.prog) 27 3 (.int .i64 0) 8 Try.underlying27 info_int rfl .i64 .i64 n (by omega) (by omega)
    clear hm
    go_enter Try.func4, Try.ntmps4
    go_upto_region 4 with (first | (go_at_call 8; (with_reducible refine HG.out.mono ?_); rintro r u1 ⟨rfl, hb1⟩; have HU1 := Lib.hid hb1; clear hb1 HG) | (go_at_call 10; (with_reducible refine (HCC.out _ HU1.out).mono ?_); rintro r uc ⟨A5, c5, rfl, hma, hbu⟩; have HMA := Lib.hid hma; have HU2 := Lib.hid (bel_trans HU1.out hbu); clear hma hbu HCC))
    obtain ⟨W1, hW1⟩ : ∃ v, uc.alloc (.cells (madeCells #[.int .i64 0] n) 3) = v := ⟨_, rfl⟩
    obtain ⟨b4, hb4⟩ : ∃ v, uc.heap.size = v := ⟨_, rfl⟩
    have hbw1 : Below uc.heap.size uc W1 := by rw [← hW1]; exact bel_alloc (Below.refl _ _) _
    have hr1 : W1.rowIs b4 3 n (fun _ => .int .i64 ((0 : Nat) : Int)) := by rw [← hW1, ← hb4]; exact World.rowIs_made uc (.int .i64 0) n 3
    have HST := Lib.hid (show OnRel (comps e) n b4 uc (.int .i64 ((0 : Nat) : Int)) W1 from ⟨0, fun _ => 0, rfl, Nat.zero_le _, hr1, Spec.start _, hbw1⟩)
    have HW1 := Lib.hid (And.intro hW1 hb4)
    clear hW1 hbw1 hr1
    go_upto_region 5 with fail
    rw [HW1.out.1]
    clear hb4 hmk
    go_wp2_with fail
    go_loopw [5] (OnRel (comps e) n b4 uc) (fun v _ => m - (intOf v).toNat)
    case atStart => simpa using HST.out
    case round =>
      rename World => wo
      obtain ⟨i, f, rfl, hi, hrow, hsp, hbo⟩ := hrel
      clear HST
      have him : i ≤ m := by rw [← HLM.out]; exact hi
      clear hi
      by_cases hlt : i < m
      · obtain ⟨g, o, R, rn, rc, l, rfl, hg, hl, o1, hr⟩ := HMA.out.at_ hlt
        have hl' : ∃ c0, (comps e)[i]? = some c0 ∧ l = toZ c0 := by
          unfold compsZ at hl
          rw [List.getElem?_map] at hl
          obtain ⟨c0, h1, h2⟩ := Option.map_eq_some_iff.1 hl
          exact ⟨c0, h1, h2.symm⟩
        obtain ⟨c0, hc0, rfl⟩ := hl'
        have hrl : c0.length = rn := by rw [← toZ_length]; exact hr.len
        have hrn : rn ≤ 9223372036854775807 := by have := hr.le; have := hr.cap; unfold maxLen at this; omega
        have HST2 := Lib.hid (show OkRel (comps e) i rn n b4 uc (.int .i64 ((0 : Nat) : Int)) wo from ⟨0, f, rfl, Nat.zero_le _, hrow, hsp, hbo⟩)
        have HX := Lib.hid (And.intro hr (And.intro hc0 (And.intro hrl (And.intro hg o1))))
        clear hr hl hc0 hrl hg o1 hrow hsp hbo
        go_wp2_with fail
        go_loopw [6] (OkRel (comps e) i rn n b4 uc) (fun v _ => rn - (intOf v).toNat)
        case atStart => simpa using HST2.out
        case round =>
          rename World => wk
          obtain ⟨k, fk, rfl, hk, hrk, hsk, hbk⟩ := hrel
          clear HST2
          have o1 := (hbk.cell HX.out.2.2.2.1).trans HX.out.2.2.2.2
          by_cases hkn : k < rn
          · obtain ⟨g2, o2, z, rfl, hg2, hz, c1⟩ := int_at (HX.out.1.below hbk) hkn
            have hz' : ∃ x : Nat, c0[k]? = some x ∧ z = (x : Int) := by
              unfold toZ at hz
              rw [List.getElem?_map] at hz
              obtain ⟨x, h1, h2⟩ := Option.map_eq_some_iff.1 hz
              exact ⟨x, h1, h2.symm⟩
            obtain ⟨x, hx, rfl⟩ := hz'
            have hxn : x < n := by rw [← hln]; exact (comps_each HX.out.2.1).2 x (List.mem_of_getElem? hx)
            have r0 := hrk.cell hxn
            rw [hsk.zero HX.out.2.1 hx] at r0
            have r1 := hrk.frozen x
            have HFI := Lib.hid (show OkRel (comps e) i rn n b4 uc (.int .i64 ((k + 1 : Nat) : Int)) (wk.setCell ⟨b4, x, none⟩ (.int .i64 ((i : Int) + 1))) from ⟨k + 1, fun v => if v = x then i + 1 else fk v, rfl, by omega, (hrk.set x (.int .i64 ((i : Int) + 1))).congr fun v _ => by
              show _ = Value.int .i64 (((if v = x then i + 1 else fk v : Nat)) : Int)
              by_cases e1 : v = x
              · rw [if_pos e1, if_pos e1]
                rfl
              · rw [if_neg e1, if_neg e1], hsk.step HX.out.2.1 hx, hbk.setCell (p := ⟨b4, x, none⟩) (Nat.le_of_eq HW1.out.2) _⟩)
            have HPV := Lib.hid (show ∀ k', k = k' + 1 → ∃ y : Nat, y < x ∧ wk.cell? ⟨g2, o2 + k', none⟩ = some (.int .i64 (y : Int)) from fun k' e1 => by
              obtain ⟨g3, o3, z3, e3, _, hz3, c3⟩ := int_at (HX.out.1.below hbk) (show k' < rn by omega)
              cases e3
              unfold toZ at hz3
              rw [List.getElem?_map] at hz3
              obtain ⟨y, h1, h2⟩ := Option.map_eq_some_iff.1 hz3
              refine ⟨y, up_at (comps_each HX.out.2.1).1 h1 hx (by omega), ?_⟩
              rw [c3, ← h2]
              rfl)
            clear hrk hsk hbk hg2 hz hx
            cases k with
            | zero =>
              simp only [Nat.add_zero] at c1
              go_wp2_with fail
              go_roundw
              case rel => simpa using HFI.out
              case measure =>
                simp [intOf]
                omega
            | succ k' =>
              obtain ⟨y, hy, c2⟩ := HPV.out k' rfl
              have hyx : ¬ ((x : Int) ≤ (y : Int)) := by omega
              go_wp2_with fail
              go_roundw
              case rel => simpa using HFI.out
              case measure =>
                simp [intOf]
                omega
          · have hke : ¬ ((k : Int) < (rn : Int)) := by omega
            have HFI := Lib.hid (show OnRel (comps e) n b4 uc (.int .i64 ((i + 1 : Nat) : Int)) wk from ⟨i + 1, fk, rfl, by have := HLM.out; omega, hrk, hsk.next HX.out.2.1 (by have := HX.out.2.2.1; omega), hbk⟩)
            clear hrk hsk hbk
            go_wp2_with fail
            go_roundw
            case rel => simpa using HFI.out
            case measure =>
              simp [intOf]
              omega
      · have hie : ¬ ((i : Int) < (m : Int)) := by omega
        have hie' : i = (comps e).length := by have := HLM.out; omega
        have hsp' : Spec (comps e) (comps e).length 0 f := by rw [← hie']; exact hsp
        have HY := Lib.hid (And.intro hrow (And.intro hsp' hbo))
        clear hrow hsp hbo hie' hsp'
        go_wp2_with fail
        go_loopw [8] (OvRel n wo) (fun v _ => n - (intOf v).toNat)
        case atStart => exact ⟨0, rfl, Nat.zero_le _, Below.refl _ _⟩
        case round =>
          rename World => wv
          obtain ⟨v, rfl, hv, hbv⟩ := hrel
          have HBV := Lib.hid hbv
          by_cases hvn : v < n
          · obtain ⟨jv, cv, hjv, hmv, hfv⟩ := HY.out.2.1.end_ (show v < e.length by omega)
            have r0 := (HY.out.1.of_block (hbv.block b4 HY.out.1.lt)).cell hvn
            rw [hfv] at r0
            obtain ⟨g, o, R, rn, rc, l, rfl, hg, hl, o1, hr⟩ := ((HM.out.1.below HU2.out).below (HY.out.2.2.trans (hbv.mono HY.out.2.2.size))).at_ hvn
            have hrn : rn ≤ 9223372036854775807 := by have := hr.le; have := hr.cap; unfold maxLen at this; omega
            have HZ := Lib.hid (And.intro hjv (And.intro hmv (And.intro r0 (And.intro hg (And.intro hl (And.intro o1 hr))))))
            have r0' : wv.cell? ⟨b4, v, none⟩ = some (.int .i64 ((jv : Int) + 1)) := by rw [r0]; rfl
            have hne : (((jv : Int) + 1) == 0) = false := by simp; omega
            clear hjv hmv hfv r0 hg hl o1 hr hbv
            go_wp2_with fail
            go_loopw [9] (OvRel rn wv) (fun v _ => rn - (intOf v).toNat)
            case atStart => exact ⟨0, rfl, Nat.zero_le _, Below.refl _ _⟩
            case round =>
              rename World => wq
              obtain ⟨q, rfl, hq, hbq⟩ := hrel
              clear r0'
              obtain ⟨hjv, hmv, r0, hg, hl, o1, hr⟩ := HZ.out
              have o1' := (hbq.cell hg).trans o1
              by_cases hqn : q < rn
              · obtain ⟨g2, o2, z, rfl, hg2, hz, c1⟩ := int_at (hr.below hbq) hqn
                have HBQ := Lib.hid hbq
                by_cases hz0 : z < 0
                · have hz1 : ¬ (0 ≤ z) := by omega
                  have hz2 : decide (0 ≤ z) = false := decide_eq_false hz1
                  have hz3 : decide (z < 0) = true := decide_eq_true hz0
                  clear hjv hmv r0 hg hl o1 hr hbq hz hg2
                  go_wp2_with fail
                  go_quiet (fail)
                  go_wp2_with fail
                  go_roundw
                  case rel => exact ⟨q + 1, by simp, by omega, below_drewN HBQ.out _⟩
                  case measure =>
                    simp [intOf]
                    omega
                · obtain ⟨x, rfl⟩ := Int.eq_ofNat_of_zero_le (show 0 ≤ z by omega)
                  by_cases hxn : x < n
                  · obtain ⟨jx, cx, hjx, hmx, hfx⟩ := HY.out.2.1.end_ (show x < e.length by omega)
                    have hle : jx ≤ jv := Classical.byContradiction fun h => by
                      have h1 := comps_later hjv hjx (by omega) hmv hmx
                      rw [lead_edge (by omega) (by omega) (by rw [getD_at hl]; exact List.mem_of_getElem? hz)] at h1
                      cases h1
                    have hrq := (HY.out.1.of_block (HBV.out.block b4 HY.out.1.lt)).of_block (hbq.block b4 (Nat.lt_of_lt_of_le HY.out.1.lt HBV.out.size))
                    have d1 := hrq.cell hxn
                    have d2 := hrq.cell hvn
                    have d3 := (hbq.cell (p := ⟨b4, v, none⟩) (Nat.lt_of_lt_of_le HY.out.1.lt HBV.out.size)).trans r0
                    have d4 : wq.cell? ⟨b4, v, none⟩ = some (.int .i64 ((jv : Int) + 1)) := by rw [d3]; rfl
                    have d5 : wq.cell? ⟨b4, x, none⟩ = some (.int .i64 ((jx : Int) + 1)) := by rw [d1, hfx]; rfl
                    have hgt : ¬ ((jv : Int) + 1 < (jx : Int) + 1) := by omega
                    have hgt2 : ¬ ((jv : Int) < (jx : Int)) := by omega
                    clear hjv hmv r0 hg hl o1 hr hbq hz hg2 hz0 hjx hmx hfx hrq d1 d2 d3 hle
                    go_wp2_with fail
                    go_quiet (fail)
                    go_wp2_with fail
                    go_roundw
                    case rel => exact ⟨q + 1, by simp, by omega, below_drewN HBQ.out _⟩
                    case measure =>
                      simp [intOf]
                      omega
                  · clear hjv hmv r0 hg hl o1 hr hbq hz hg2 hz0
                    have hxn' : ¬ ((x : Int) < (n : Int)) := by omega
                    go_wp2_with fail
                    go_quiet (fail)
                    go_wp2_with fail
                    go_roundw
                    case rel => exact ⟨q + 1, by simp, by omega, below_drewN HBQ.out _⟩
                    case measure =>
                      simp [intOf]
                      omega
              · have hqe : ¬ ((q : Int) < (rn : Int)) := by omega
                have HFI := Lib.hid (show OvRel n wo (.int .i64 ((v + 1 : Nat) : Int)) wq from ⟨v + 1, rfl, by omega, HBV.out.trans (hbq.mono HBV.out.size)⟩)
                clear hjv hmv r0 hg hl o1 hr hbq
                go_wp2_with fail
                go_roundw
                case rel => simpa using HFI.out
                case measure =>
                  simp [intOf]
                  omega
          · have hve : ¬ ((v : Int) < (n : Int)) := by omega
            clear hbv
            go_wp2_with (go_at_call 9; (with_reducible refine (HAW.out _).mono ?_); rintro r w10 ⟨rfl, hb10⟩; have HB10 := Lib.hid hb10; clear hb10)
            go_ret
            exact ⟨rfl, bel_trans (bel_trans (bel_trans HU2.out HY.out.2.2) HBV.out) HB10.out⟩
end Go.Proofs.Ytpalmnjapiijaaa.Gr
