/-
  Texts of earlier layers, as one.
-/
import Derived.Test.YtpalmnjapiijaaaCompOnceWalk
/- The law of what a node leads to: whatever it leads to leads nowhere else; two are in one component just if each leads to the other one. -/
namespace Go.Proofs.Ytpalmnjapiijaaa.Gr
open Go.RowKit Mem Dsk

theorem wf_nat {x : Nat} (h : x ≤ 1000000) : (Lit.int .i64 (x : Int)).wf = true := by
  simp [Lit.wf, IntKind.min, IntKind.max, IntKind.signed, IntKind.bits]
  omega
theorem filter_le {p q : Nat → Bool} (h : ∀ x, p x = true → q x = true) : ∀ l : List Nat, (l.filter p).length ≤ (l.filter q).length
  | [] => Nat.le_refl _
  | x :: l => by
    have := filter_le h l
    have hx := h x
    cases hp : p x <;> cases hq : q x <;> simp [hp, hq] <;> simp [hp, hq] at hx <;> omega
/-- Is x among the first of these? -/
def inTake (x : Nat) (l : List Nat) (i : Nat) : Bool := (l.take i).contains x
theorem inTake_next {x y i : Nat} {l : List Nat} (h : l[i]? = some y) : inTake x l (i + 1) = (inTake x l i || ((y : Int) == (x : Int))) := by
  unfold inTake
  rw [List.take_add_one, h, Bool.eq_iff_iff, Bool.or_eq_true, List.contains_iff_mem, List.contains_iff_mem, List.mem_append]
  simp
  exact or_congr Iff.rfl ⟨fun h => by omega, fun h => by omega⟩
theorem inTake_all {x : Nat} {l : List Nat} {i : Nat} (h : l.length ≤ i) : inTake x l i = l.contains x := by
  unfold inTake
  rw [List.take_of_length_le h]
theorem inTake_zero {x : Nat} {l : List Nat} : inTake x l 0 = false := by simp [inTake]
/-- Have the first components one that has both? -/
def oneOf (L : List (List Nat)) (a b i : Nat) : Bool := (L.take i).any fun c => c.contains a && c.contains b
theorem oneOf_next {L : List (List Nat)} {a b i : Nat} {c : List Nat} (h : L[i]? = some c) : oneOf L a b (i + 1) = (oneOf L a b i || (c.contains a && c.contains b)) := by
  unfold oneOf
  rw [List.take_add_one, h, List.any_append]
  simp
theorem oneOf_end {e : Graph} {a b i : Nat} (ha : a < e.length) (h : (comps e).length ≤ i) : oneOf (comps e) a b i = (lead e a b && lead e b a) := by
  unfold oneOf
  rw [List.take_of_length_le h, Bool.eq_iff_iff, List.any_eq_true, Bool.and_eq_true]
  constructor
  · rintro ⟨c, hc, h2⟩
    rw [Bool.and_eq_true, List.contains_iff_mem, List.contains_iff_mem] at h2
    obtain ⟨u, _, _, rfl⟩ := (comps_row e).each c hc
    exact mutu_iff.1 (mutu_trans (mutu_symm (mem_cmp.1 h2.1)) (mem_cmp.1 h2.2))
  · intro h2
    refine ⟨cmp e a, (comps_row e).all a ha rfl, ?_⟩
    rw [Bool.and_eq_true, List.contains_iff_mem, List.contains_iff_mem]
    exact ⟨mem_cmp.2 (mutu_refl ha), mem_cmp.2 (mutu_iff.2 h2)⟩
theorem at_toZ {l : List Nat} {i : Nat} {z : Int} (h : (toZ l)[i]? = some z) : ∃ x : Nat, l[i]? = some x ∧ z = (x : Int) := by
  unfold toZ at h
  rw [List.getElem?_map] at h
  obtain ⟨x, h1, h2⟩ := Option.map_eq_some_iff.1 h
  exact ⟨x, h1, h2.symm⟩
def LlRel (l : List Nat) (x : Nat) (u : World) (v9 v11 : Value) (wr : World) : Prop := ∃ i : Nat, v9 = .bool (inTake x l i) ∧ v11 = .int .i64 (i : Int) ∧ i ≤ l.length ∧ Below u.heap.size u wr
def LoRel (L : List (List Nat)) (a b : Nat) (u : World) (v14 v16 : Value) (wr : World) : Prop := ∃ i : Nat, v14 = .bool (oneOf L a b i) ∧ v16 = .int .i64 (i : Int) ∧ i ≤ L.length ∧ Below u.heap.size u wr
def LxRel (l : List Nat) (a b : Nat) (u : World) (v17 v18 v19 : Value) (wr : World) : Prop := ∃ i : Nat, v17 = .bool (inTake a l i) ∧ v18 = .bool (inTake b l i) ∧ v19 = .int .i64 (i : Int) ∧ i ≤ l.length ∧ Below u.heap.size u wr
set_option maxRecDepth 20000 in
set_option maxHeartbeats 16000000 in
theorem compleads_true (hC : HasComps) (hL : HasLeads) (A : Option Addr) (n c : Nat) (e : Graph) (a b : Int) (w : World) (h : Mat w A n c e) (hz : ∀ l ∈ e, l.length ≤ 17592186044416) :
    Calls Try.prog 6 #[.slice A n c, .int .i64 a, .int .i64 b] w (Tells true w) := by
  have hln := h.len
  have HAW := Lib.hid (fun u => comp_awake hC u)
  have hg := great_any w h hz
  obtain ⟨q, hq⟩ : ∃ q, great e = q := ⟨_, rfl⟩
  rw [hq] at hg
  have HG := Lib.hid hg
  have HQ := Lib.hid hq
  have HM := Lib.hid (And.intro h hz)
  clear h hz hg hq
  cases q with
  | true =>
    go_enter Try.func6, Try.ntmps6
    go_wp2_with (first | (go_at_call 8; (with_reducible refine HG.out.mono ?_); rintro r ua ⟨rfl, hb1⟩; have HU1 := Lib.hid hb1; clear hb1 HG) | (go_at_call 9; (with_reducible refine (HAW.out _).mono ?_); rintro r w10 ⟨rfl, hb10⟩; have HB10 := Lib.hid hb10; clear hb10))
    go_ret
    exact ⟨rfl, bel_trans HU1.out HB10.out⟩
  | false =>
    have hn40 : n ≤ 40 := by have := (great_no HQ.out).1; omega
    by_cases hab : a < 0 ∨ b < 0 ∨ (n : Int) ≤ a ∨ (n : Int) ≤ b
    · by_cases h1 : a < 0
      · clear hab
        go_enter Try.func6, Try.ntmps6
        go_wp2_with (first | (go_at_call 8; (with_reducible refine HG.out.mono ?_); rintro r ua ⟨rfl, hb1⟩; have HU1 := Lib.hid hb1; clear hb1 HG) | (go_at_call 9; (with_reducible refine (HAW.out _).mono ?_); rintro r w10 ⟨rfl, hb10⟩; have HB10 := Lib.hid hb10; clear hb10))
        go_ret
        exact ⟨rfl, bel_trans HU1.out HB10.out⟩
      · by_cases h2 : b < 0
        · clear hab
          go_enter Try.func6, Try.ntmps6
          go_wp2_with (first | (go_at_call 8; (with_reducible refine HG.out.mono ?_); rintro r ua ⟨rfl, hb1⟩; have HU1 := Lib.hid hb1; clear hb1 HG) | (go_at_call 9; (with_reducible refine (HAW.out _).mono ?_); rintro r w10 ⟨rfl, hb10⟩; have HB10 := Lib.hid hb10; clear hb10))
          go_ret
          exact ⟨rfl, bel_trans HU1.out HB10.out⟩
        · by_cases h3 : (n : Int) ≤ a
          · clear hab
            go_enter Try.func6, Try.ntmps6
            go_wp2_with (first | (go_at_call 8; (with_reducible refine HG.out.mono ?_); rintro r ua ⟨rfl, hb1⟩; have HU1 := Lib.hid hb1; clear hb1 HG) | (go_at_call 9; (with_reducible refine (HAW.out _).mono ?_); rintro r w10 ⟨rfl, hb10⟩; have HB10 := Lib.hid hb10; clear hb10))
            go_ret
            exact ⟨rfl, bel_trans HU1.out HB10.out⟩
          · have h4 : (n : Int) ≤ b := by omega
            clear hab
            go_enter Try.func6, Try.ntmps6
            go_wp2_with (first | (go_at_call 8; (with_reducible refine HG.out.mono ?_); rintro r ua ⟨rfl, hb1⟩; have HU1 := Lib.hid hb1; clear hb1 HG) | (go_at_call 9; (with_reducible refine (HAW.out _).mono ?_); rintro r w10 ⟨rfl, hb10⟩; have HB10 := Lib.hid hb10; clear hb10))
            go_ret
            exact ⟨rfl, bel_trans HU1.out HB10.out⟩
    · obtain ⟨x, rfl⟩ := Int.eq_ofNat_of_zero_le (show 0 ≤ a by omega)
      obtain ⟨y, rfl⟩ := Int.eq_ofNat_of_zero_le (show 0 ≤ b by omega)
      have hxn : x < n := by omega
      have hyn : y < n := by omega
      clear hab
      have hx0 : ¬ ((x : Int) < 0) := by omega
      have hy0 : ¬ ((y : Int) < 0) := by omega
      have hx1 : ¬ ((n : Int) ≤ (x : Int)) := by omega
      have hy1 : ¬ ((n : Int) ≤ (y : Int)) := by omega
      obtain ⟨m7, hm7⟩ : ∃ m, (leads e x).length = m := ⟨_, rfl⟩
      obtain ⟨m8, hm8⟩ : ∃ m, (leads e y).length = m := ⟨_, rfl⟩
      obtain ⟨m, hm⟩ : ∃ x, (comps e).length = x := ⟨_, rfl⟩
      have hle : ∀ v, (leads e v).length ≤ n := fun v => by
        have := List.length_filter_le (lead e v) (List.range e.length)
        rw [List.length_range] at this
        unfold leads
        omega
      have hm7n : m7 ≤ n := by rw [← hm7]; exact hle x
      have hm8n : m8 ≤ n := by rw [← hm8]; exact hle y
      have hmn : m ≤ n := by have := comps_length e; omega
      have hld : ∀ v, v < n → ∀ u, Below w.heap.size w u → Calls Try.prog 13 #[.slice A n c, .int .i64 (v : Int)] u (fun r u' => ∃ V c', r = .returned (.slice V (leads e v).length c') ∧ Rw LN u' V (leads e v).length c' (toZ (leads e v)) ∧ Below u.heap.size u u') := fun v hv u hu => by
        refine (hL A n c e (v : Int) u (HM.out.1.below hu) (by omega) HM.out.2 (wf_nat (by omega))).mono ?_
        rintro r u' ⟨V, c', hr, ho, hb⟩
        have e1 : leadsZ e (v : Int) = toZ (leads e v) := by unfold leadsZ; rw [if_pos (by omega)]; rfl
        rw [e1] at hr ho
        rw [toZ_length] at hr ho
        exact ⟨V, c', hr, Rw.own (L := LN) ho, hb⟩
      have HLA := Lib.hid (hld x hxn)
      have HLB := Lib.hid (hld y hyn)
      have HLD := Lib.hid hld
      rw [hm7] at HLA
      rw [hm8] at HLB
      have HCC : Hid (∀ u, Below w.heap.size w u → Calls Try.prog 10 #[.slice A n c] u (fun r u' => ∃ A c, r = .returned (.slice A m c) ∧ Mat u' A m c (compsZ e) ∧ Below u.heap.size u u')) := Lib.hid fun u hu => by
        have := hC A n c e u (HM.out.1.below hu) (by omega) HM.out.2
        have e1 : (compsZ e).length = m := by unfold compsZ; rw [List.length_map, hm]
        rw [← e1]
        exact this
      have HLM := Lib.hid (And.intro hm (And.intro hm7 hm8))
      clear hm hm7 hm8 hld hle
      go_enter Try.func6, Try.ntmps6
      go_upto_region 4 with (first | (go_at_call 8; (with_reducible refine HG.out.mono ?_); rintro r ua ⟨rfl, hb1⟩; have HU1 := Lib.hid hb1; clear hb1 HG) | (go_at_call 13; (with_reducible refine (HLA.out _ HU1.out).mono ?_); rintro r ub ⟨V7, c7, rfl, hr7, hbu⟩; have HR7 := Lib.hid hr7; have HU2 := Lib.hid (bel_trans HU1.out hbu); clear hr7 hbu HLA) | (go_at_call 13; (with_reducible refine (HLB.out _ HU2.out).mono ?_); rintro r uc ⟨V8, c8, rfl, hr8, hbu⟩; have HR8 := Lib.hid hr8; have HR7c := Lib.hid (HR7.out.below hbu); have HU3 := Lib.hid (bel_trans HU2.out hbu); clear hr8 hbu HLB HR7))
      go_wp2_with fail
      go_loopw [9, 11] (LlRel (leads e x) y uc) (fun _ v _ => m7 - (intOf v).toNat)
      case atStart => exact ⟨0, by rw [inTake_zero], rfl, Nat.zero_le _, Below.refl _ _⟩
      case round =>
        rename World => wi
        obtain ⟨i, rfl, rfl, hi, hb⟩ := hrel
        have hi7 : i ≤ m7 := by have := HLM.out.2.1; omega
        obtain ⟨t, ht⟩ : ∃ t, inTake y (leads e x) i = t := ⟨_, rfl⟩
        rw [ht]
        by_cases hlt : i < m7
        · obtain ⟨g, o, z, rfl, hg, hz, c1⟩ := int_at (HR7c.out.below hb) hlt
          obtain ⟨v, hv, rfl⟩ := at_toZ hz
          have hxv := mem_leads.1 (List.mem_of_getElem? hv)
          have hvn : v < n := by rw [← hln]; exact (lead_lt hxv).2
          have hnx := inTake_next (x := y) hv
          rw [ht] at hnx
          have hlv : (leads e v).length ≤ m7 := by
            rw [← HLM.out.2.1]
            exact filter_le (fun k hk => lead_trans hxv hk) _
          obtain ⟨mv, hmv⟩ : ∃ k, (leads e v).length = k := ⟨_, rfl⟩
          have hcl := HLD.out v hvn wi (bel_trans HU3.out hb)
          rw [hmv] at hcl hlv
          have HCL := Lib.hid hcl
          have HX := Lib.hid (And.intro hnx (And.intro hb hi))
          have hmv' : ¬ ((m7 : Int) < (mv : Int)) := by omega
          clear hi hb ht hg hz hv hxv hnx hmv hcl
          cases t with
          | true =>
            go_wp2_with fail
            (with_reducible refine HCL.out.mono ?_)
            rintro r wj ⟨V, c', rfl, _, hbj⟩
            have HFI := Lib.hid (show LlRel (leads e x) y uc (.bool true) (.int .i64 ((i + 1 : Nat) : Int)) wj from ⟨i + 1, by rw [HX.out.1]; rfl, rfl, by have := HLM.out.2.1; omega, bel_trans HX.out.2.1 hbj⟩)
            clear hbj c1
            go_wp2_with fail
            go_roundw
            case rel => simpa using HFI.out
            case measure =>
              simp [intOf]
              omega
          | false =>
            go_wp2_with fail
            (with_reducible refine HCL.out.mono ?_)
            rintro r wj ⟨V, c', rfl, _, hbj⟩
            have HFI := Lib.hid (show LlRel (leads e x) y uc (.bool ((v : Int) == (y : Int))) (.int .i64 ((i + 1 : Nat) : Int)) wj from ⟨i + 1, by rw [HX.out.1]; rfl, rfl, by have := HLM.out.2.1; omega, bel_trans HX.out.2.1 hbj⟩)
            clear hbj c1
            go_wp2_with fail
            go_roundw
            case rel => simpa using HFI.out
            case measure =>
              simp [intOf]
              omega
        · have hie : ¬ ((i : Int) < (m7 : Int)) := by omega
          have hth : t = lead e x y := by
            rw [← ht, inTake_all (by have := HLM.out.2.1; omega), Bool.eq_iff_iff, List.contains_iff_mem]
            exact mem_leads
          have HTH := Lib.hid hth
          have HBI := Lib.hid hb
          clear hi hb ht hth
          go_wp2_with fail
          go_loopw [10, 13] (LlRel (leads e y) x wi) (fun _ v _ => m8 - (intOf v).toNat)
          case atStart => exact ⟨0, by rw [inTake_zero], rfl, Nat.zero_le _, Below.refl _ _⟩
          case round =>
            rename World => wj
            obtain ⟨j, rfl, rfl, hj, hb⟩ := hrel
            have hj8 : j ≤ m8 := by have := HLM.out.2.2; omega
            obtain ⟨s, hs⟩ : ∃ s, inTake x (leads e y) j = s := ⟨_, rfl⟩
            rw [hs]
            by_cases hlt2 : j < m8
            · obtain ⟨g, o, z, rfl, hg, hz, c1⟩ := int_at ((HR8.out.below HBI.out).below hb) hlt2
              obtain ⟨v, hv, rfl⟩ := at_toZ hz
              have hnx := inTake_next (x := x) hv
              rw [hs] at hnx
              have HX := Lib.hid (And.intro hnx (And.intro hb hj))
              clear hj hb hs hg hz hv hnx
              cases s with
              | true =>
                have HFI := Lib.hid (show LlRel (leads e y) x wi (.bool true) (.int .i64 ((j + 1 : Nat) : Int)) wj from ⟨j + 1, by rw [HX.out.1]; rfl, rfl, by have := HLM.out.2.2; omega, HX.out.2.1⟩)
                clear c1
                go_wp2_with fail
                go_roundw
                case rel => simpa using HFI.out
                case measure =>
                  simp [intOf]
                  omega
              | false =>
                have HFI := Lib.hid (show LlRel (leads e y) x wi (.bool ((v : Int) == (x : Int))) (.int .i64 ((j + 1 : Nat) : Int)) wj from ⟨j + 1, by rw [HX.out.1]; rfl, rfl, by have := HLM.out.2.2; omega, HX.out.2.1⟩)
                go_wp2_with fail
                go_roundw
                case rel => simpa using HFI.out
                case measure =>
                  simp [intOf]
                  omega
            · have hje : ¬ ((j : Int) < (m8 : Int)) := by omega
              have hsh : s = lead e y x := by
                rw [← hs, inTake_all (by have := HLM.out.2.2; omega), Bool.eq_iff_iff, List.contains_iff_mem]
                exact mem_leads
              have HSH := Lib.hid hsh
              have HBJ := Lib.hid (bel_trans HU3.out (HBI.out.trans (hb.mono HBI.out.size)))
              clear hj hb hs hsh
              go_wp2_with fail
              (with_reducible refine (HCC.out _ HBJ.out).mono ?_)
              rintro r ud ⟨A15, c15, rfl, hmd, hbd⟩
              have HMD := Lib.hid hmd
              have HU4 := Lib.hid (bel_trans HBJ.out hbd)
              clear hmd hbd
              go_wp2_with fail
              go_loopw [14, 16] (LoRel (comps e) x y ud) (fun _ v _ => m - (intOf v).toNat)
              case atStart => exact ⟨0, by simp [oneOf], rfl, Nat.zero_le _, Below.refl _ _⟩
              case round =>
                rename World => wk
                obtain ⟨k, rfl, rfl, hk, hb⟩ := hrel
                have hkm : k ≤ m := by have := HLM.out.1; omega
                obtain ⟨p, hp⟩ : ∃ p, oneOf (comps e) x y k = p := ⟨_, rfl⟩
                rw [hp]
                by_cases hlt3 : k < m
                · obtain ⟨g, o, R, rn, rc, l, rfl, hg, hl, o1, hr⟩ := HMD.out.at_ hlt3
                  have hl' : ∃ c0, (comps e)[k]? = some c0 ∧ l = toZ c0 := by
                    unfold compsZ at hl
                    rw [List.getElem?_map] at hl
                    obtain ⟨c0, h1, h2⟩ := Option.map_eq_some_iff.1 hl
                    exact ⟨c0, h1, h2.symm⟩
                  obtain ⟨c0, hc0, rfl⟩ := hl'
                  have hrl : c0.length = rn := by rw [← toZ_length]; exact hr.len
                  have hrn : rn ≤ 9223372036854775807 := by have := hr.le; have := hr.cap; unfold maxLen at this; omega
                  have hnx := oneOf_next (a := x) (b := y) hc0
                  rw [hp] at hnx
                  have HX := Lib.hid (And.intro hnx (And.intro hb (And.intro hr (And.intro hrl (And.intro hg o1)))))
                  clear hk hb hp hl hc0 hnx hr hrl hg o1
                  go_wp2_with fail
                  go_loopw [17, 18, 19] (LxRel c0 x y wk) (fun _ _ v _ => rn - (intOf v).toNat)
                  case atStart => exact ⟨0, by rw [inTake_zero], by rw [inTake_zero], rfl, Nat.zero_le _, Below.refl _ _⟩
                  case round =>
                    rename World => wl
                    obtain ⟨q, rfl, rfl, rfl, hq, hb⟩ := hrel
                    have hqr : q ≤ rn := by have := HX.out.2.2.2.1; omega
                    have hbu := HX.out.2.1.trans (hb.mono HX.out.2.1.size)
                    have o1 := (hbu.cell HX.out.2.2.2.2.1).trans HX.out.2.2.2.2.2
                    obtain ⟨t1, ht1⟩ : ∃ p, inTake x c0 q = p := ⟨_, rfl⟩
                    obtain ⟨t2, ht2⟩ : ∃ p, inTake y c0 q = p := ⟨_, rfl⟩
                    rw [ht1, ht2]
                    by_cases hlt4 : q < rn
                    · obtain ⟨g2, o2, z, rfl, hg2, hz, c1⟩ := int_at (HX.out.2.2.1.below hbu) hlt4
                      obtain ⟨v, hv, rfl⟩ := at_toZ hz
                      have hn1 := inTake_next (x := x) hv
                      have hn2 := inTake_next (x := y) hv
                      rw [ht1] at hn1
                      rw [ht2] at hn2
                      have HFI := Lib.hid (show LxRel c0 x y wk (.bool (t1 || ((v : Int) == (x : Int)))) (.bool (t2 || ((v : Int) == (y : Int)))) (.int .i64 ((q + 1 : Nat) : Int)) wl from ⟨q + 1, by rw [hn1], by rw [hn2], rfl, by have := HX.out.2.2.2.1; omega, hb⟩)
                      clear hq hb hbu ht1 ht2 hg2 hz hv hn1 hn2
                      cases t1 with
                      | true =>
                        cases t2 with
                        | true =>
                          clear c1
                          go_wp2_with fail
                          go_roundw
                          case rel => simpa using HFI.out
                          case measure =>
                            simp [intOf]
                            omega
                        | false =>
                          go_wp2_with fail
                          go_roundw
                          case rel => simpa using HFI.out
                          case measure =>
                            simp [intOf]
                            omega
                      | false =>
                        cases t2 with
                        | true =>
                          go_wp2_with fail
                          go_roundw
                          case rel => simpa using HFI.out
                          case measure =>
                            simp [intOf]
                            omega
                        | false =>
                          go_wp2_with fail
                          go_roundw
                          case rel => simpa using HFI.out
                          case measure =>
                            simp [intOf]
                            omega
                    · have hqe : ¬ ((q : Int) < (rn : Int)) := by omega
                      have e1 : c0.contains x = t1 := by rw [← ht1, inTake_all (by have := HX.out.2.2.2.1; omega)]
                      have e2 : c0.contains y = t2 := by rw [← ht2, inTake_all (by have := HX.out.2.2.2.1; omega)]
                      have HFI := Lib.hid (show LoRel (comps e) x y ud (.bool (p || (t1 && t2))) (.int .i64 ((k + 1 : Nat) : Int)) wl from ⟨k + 1, by rw [HX.out.1, e1, e2], rfl, by have := HLM.out.1; omega, hbu⟩)
                      clear hq hb hbu ht1 ht2 e1 e2
                      cases p with
                      | true =>
                        go_wp2_with fail
                        go_roundw
                        case rel => simpa using HFI.out
                        case measure =>
                          simp [intOf]
                          omega
                      | false =>
                        cases t1 with
                        | true =>
                          go_wp2_with fail
                          go_roundw
                          case rel => simpa using HFI.out
                          case measure =>
                            simp [intOf]
                            omega
                        | false =>
                          go_wp2_with fail
                          go_roundw
                          case rel => simpa using HFI.out
                          case measure =>
                            simp [intOf]
                            omega
                · have hke : ¬ ((k : Int) < (m : Int)) := by omega
                  have hpe : p = (t && s) := by
                    rw [← hp, oneOf_end (by omega) (by have := HLM.out.1; omega), HTH.out, HSH.out]
                  have HBK := Lib.hid (bel_trans HU4.out hb)
                  clear hk hb hp
                  subst hpe
                  cases t with
                  | true =>
                    cases s with
                    | true =>
                      go_wp2_with (go_at_call 9; (with_reducible refine (HAW.out _).mono ?_); rintro r w10 ⟨rfl, hb10⟩; have HB10 := Lib.hid hb10; clear hb10)
                      go_ret
                      exact ⟨rfl, bel_trans HBK.out HB10.out⟩
                    | false =>
                      go_wp2_with (go_at_call 9; (with_reducible refine (HAW.out _).mono ?_); rintro r w10 ⟨rfl, hb10⟩; have HB10 := Lib.hid hb10; clear hb10)
                      go_ret
                      exact ⟨rfl, bel_trans HBK.out HB10.out⟩
                  | false =>
                    go_wp2_with (go_at_call 9; (with_reducible refine (HAW.out _).mono ?_); rintro r w10 ⟨rfl, hb10⟩; have HB10 := Lib.hid hb10; clear hb10)
                    go_ret
                    exact ⟨rfl, bel_trans HBK.out HB10.out⟩
end Go.Proofs.Ytpalmnjapiijaaa.Gr
