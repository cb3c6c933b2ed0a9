/-
  Texts of earlier layers, as one.
-/
import Derived.Test.YtpalmnjapiijaaaCompLeadsWalk
import Derived.Test.YtpalmnjapiijaaaCompBoth
/- The law of two graphs side by side. -/
namespace Go.Proofs.Ytpalmnjapiijaaa.Gr
open Go.RowKit Mem Dsk

theorem flat_hd (hs : List Hd) : LS.flat hs = hs.map hdV := by
  unfold Lay.flat
  induction hs with
  | nil => rfl
  | cons h hs ih => rw [List.flatMap_cons, ih]; rfl
/-- One header is written over. -/
theorem own_set {w : World} {B : Nat} {t : TypeId} {g m c i : Nat} {hs : List Hd} (h : w.ownsRow B t LS.s (.slice (some ⟨g, 0, none⟩) m c) m (LS.flat hs)) (x : Hd) : (w.setCell ⟨g, i, none⟩ (hdV x)).ownsRow B t LS.s (.slice (some ⟨g, 0, none⟩) m c) m (LS.flat (hs.set i x)) := by
  obtain ⟨h1, ⟨h2, _⟩ | ⟨g', cap, cur, h2, h3, h4, h5, h6, h7, h8⟩⟩ := h
  · cases h2
  · cases h2
    refine ⟨by rw [← h1, length_flat, length_flat, List.length_set], .inr ⟨g, c, cur.setIfInBounds i (hdV x), rfl, h3, ?_, h5, h6, by simpa using h7, ?_⟩⟩
    · simp [World.setCell, Array.getElem?_modify, h4]
    · rw [flat_hd] at h8 ⊢
      rw [List.map_set, ← h8]
      simp [Array.toList_setIfInBounds, List.take_set]
theorem MI.store {w : World} {B g m c i : Nat} {hs : List Hd} {ls : Graph} (h : MI w B (some ⟨g, 0, none⟩) m c hs ls) {R : Option Addr} {rn rc : Nat} {l : List Int} (hr : Rw LN w R rn rc l) (hlow : 0 < rn → ∀ ad : Addr, R = some ad → B ≤ ad.block ∧ g ≠ ad.block) :
    MI (w.setCell ⟨g, i, none⟩ (.slice R rn rc)) B (some ⟨g, 0, none⟩) m c (hs.set i (R, rn, rc)) (ls.set i l) := by
  have hk : ∀ {X : Option Addr} {xn xc : Nat} {y : List Int}, Rw LN w X xn xc y → (0 < xn → ∀ ad : Addr, X = some ad → g ≠ ad.block) → Rw LN (w.setCell ⟨g, i, none⟩ (.slice R rn rc)) X xn xc y := fun hx hl => rw_block hx (by simp [World.setCell]) fun hn ad e _ => Below.heap_setCell w ⟨g, i, none⟩ _ ad.block fun e2 => hl hn ad e e2.symm
  refine ⟨own_set h.own (R, rn, rc), by rw [List.length_set, List.length_set, h.len], fun j x y hj hy => ?_, fun x hx hn ad e => ?_⟩
  · by_cases e : j = i
    · subst e
      have h1 := (List.getElem?_eq_some_iff.1 hj).1
      have h2 := (List.getElem?_eq_some_iff.1 hy).1
      rw [List.length_set] at h1 h2
      rw [List.getElem?_set_self h1] at hj
      rw [List.getElem?_set_self h2] at hy
      cases hj
      cases hy
      exact hk hr fun hn ad e => (hlow hn ad e).2
    · rw [List.getElem?_set_ne (fun q => e q.symm)] at hj hy
      exact hk (h.row j x y hj hy) fun hn ad e q => (h.low x (List.mem_of_getElem? hj) hn ad e).2 (by rw [← q]; rfl)
  · rcases List.mem_or_eq_of_mem_set hx with hx | rfl
    · exact h.low x hx hn ad e
    · exact ⟨(hlow hn ad e).1, fun q => (hlow hn ad e).2 (by injection q)⟩
/-- The graph as far as its rows are written anew. -/
def upTo (e : Graph) (i : Nat) : Graph := (e.take i).map (fun l => l.filter fun z => decide (z < (e.length : Int))) ++ e.drop i
theorem upTo_zero (e : Graph) : upTo e 0 = e := by simp [upTo]
theorem upTo_next {e : Graph} {i : Nat} {l : List Int} (h : e[i]? = some l) : (upTo e i).set i (l.filter fun z => decide (z < (e.length : Int))) = upTo e (i + 1) := by
  have hlt := (List.getElem?_eq_some_iff.1 h).1
  have hl : ((e.take i).map (fun l => l.filter fun z => decide (z < (e.length : Int)))).length = i := by rw [List.length_map, List.length_take]; omega
  have hd : e.drop i = l :: e.drop (i + 1) := by
    rw [List.drop_eq_getElem_cons hlt]
    congr 1
    exact (List.getElem?_eq_some_iff.1 h).2
  unfold upTo
  rw [List.set_append_right _ _ (by omega), hl, Nat.sub_self, hd, List.set_cons_zero, List.take_add_one, h, List.map_append, List.append_assoc]
  rfl
theorem upTo_both (e : Graph) (N : Nat) : upTo e e.length ++ List.replicate N [] = both e N := by
  unfold upTo both
  rw [List.take_length, List.drop_length, List.append_nil]
theorem own_soft {w : World} {B : Nat} {t : TypeId} {g m c s : Nat} {xs : List Value} (h : w.ownsRow B t s (.slice (some ⟨g, 0, none⟩) m c) m xs) (i : Nat) : w.frozen? ⟨g, i, none⟩ = false := by
  obtain ⟨_, ⟨h2, _⟩ | ⟨g', cap, cur, h2, h3, h4, _⟩⟩ := h
  · cases h2
  · cases h2
    simp [World.frozen?, h4]
theorem own_some {w : World} {B : Nat} {t : TypeId} {A : Option Addr} {m c s : Nat} {xs : List Value} (h : w.ownsRow B t s (.slice A m c) m xs) (hm : 0 < m) : ∃ g, A = some ⟨g, 0, none⟩ := by
  obtain ⟨_, ⟨_, h2⟩ | ⟨g', cap, cur, h2, h3, h4, _⟩⟩ := h
  · omega
  · cases h2
    exact ⟨g', rfl⟩
def ApRel (e : Graph) (n : Nat) (A6 : Option Addr) (c6 : Nat) (u : World) (v7 : Value) (wr : World) : Prop := ∃ (i : Nat) (hs : List Hd), v7 = .int .i64 (i : Int) ∧ i ≤ n ∧ MI wr 0 A6 n c6 hs (upTo e i) ∧ (∀ q, (Value.slice A6 n c6).ownBlock = some q → u.heap.size ≤ q) ∧ Below u.heap.size u wr
def AqRel (l : List Int) (n rn : Nat) (wo : World) (v8 v9 : Value) (wr : World) : Prop := ∃ (k m : Nat) (V : Option Addr) (c' : Nat), v8 = .slice V m c' ∧ v9 = .int .i64 (k : Int) ∧ k ≤ rn ∧ ((l.take k).filter fun z => decide (z < (n : Int))).length = m ∧ m ≤ k ∧
  wr.ownsRow wo.heap.size 3 LN.s (.slice V m c') m (LN.flat ((l.take k).filter fun z => decide (z < (n : Int)))) ∧ Below wo.heap.size wo wr
def A2Rel (e : Graph) (n N : Nat) (u : World) (v6 v10 : Value) (wr : World) : Prop := ∃ (j mm : Nat) (A6 : Option Addr) (c6 : Nat) (hs : List Hd), v6 = .slice A6 mm c6 ∧ v10 = .int .i64 (j : Int) ∧ j ≤ N ∧ n + j = mm ∧ MI wr 0 A6 mm c6 hs (upTo e n ++ List.replicate j []) ∧ (∀ q, (Value.slice A6 mm c6).ownBlock = some q → u.heap.size ≤ q) ∧ Below u.heap.size u wr
def AsRel (L : List (List Nat)) (m : Nat) (u : World) (v13 v14 : Value) (wr : World) : Prop := ∃ i : Nat, v13 = .int .i64 ((((L.take i).filter (sole m)).length : Nat) : Int) ∧ v14 = .int .i64 (i : Int) ∧ i ≤ L.length ∧ Below u.heap.size u wr
set_option maxRecDepth 20000 in
set_option maxHeartbeats 16000000 in
theorem compapart_true (hC : HasComps) (A : Option Addr) (n c : Nat) (e : Graph) (y : Nat) (w : World) (h : Mat w A n c e) (hz : ∀ l ∈ e, l.length ≤ 17592186044416) (hy : y < 256) :
    Calls Try.prog 7 #[.slice A n c, .int .u8 (y : Int)] w (Tells true w) := by
  have hln := h.len
  have HAW := Lib.hid (fun u => comp_awake hC u)
  have hg := great_any w h hz
  obtain ⟨q, hq⟩ : ∃ q, great e = q := ⟨_, rfl⟩
  rw [hq] at hg
  have HG := Lib.hid hg
  have HQ := Lib.hid hq
  have HM := Lib.hid (And.intro h hz)
  clear h hz hg hq
  cases q with
  | true =>
    go_enter Try.func7, Try.ntmps7
    go_wp2_with (first | (go_at_call 8; (with_reducible refine HG.out.mono ?_); rintro r ua ⟨rfl, hb1⟩; have HU1 := Lib.hid hb1; clear hb1 HG) | (go_at_call 9; (with_reducible refine (HAW.out _).mono ?_); rintro r w10 ⟨rfl, hb10⟩; have HB10 := Lib.hid hb10; clear hb10))
    go_ret
    exact ⟨rfl, bel_trans HU1.out HB10.out⟩
  | false =>
    have hn40 : n ≤ 40 := by have := (great_no HQ.out).1; omega
    have he400 := (great_no HQ.out).2
    go_enter Try.func7, Try.ntmps7
    go_upto_region 3 with (go_at_call 8; (with_reducible refine HG.out.mono ?_); rintro r ua ⟨rfl, hb1⟩; have HU1 := Lib.hid hb1; clear hb1 HG)
    go_upto_region 4 with fail
    obtain ⟨N, hN⟩ : ∃ N : Nat, ((y : Int) % 20) = (N : Int) := ⟨y % 20, by omega⟩
    have hN20 : N < 20 := by omega
    rw [hN]
    clear hN
    have hma := HM.out.1.below HU1.out
    obtain ⟨hs0, h01, h02, h03⟩ := hma
    have hbl : Below ua.heap.size ua (ua.alloc (.cells #[] 27)) := bel_alloc (Below.refl _ _) _
    have hown0 : (ua.alloc (.cells #[] 27)).ownsRow ua.heap.size 27 LS.s (.slice (some ⟨ua.heap.size, 0, none⟩) 0 0) 0 (LS.flat []) := ⟨rfl, .inr ⟨ua.heap.size, 0, #[], rfl, Nat.le_refl _, heap_alloc_new _ _, Nat.le_refl _, Nat.zero_le _, rfl, rfl⟩⟩
    obtain ⟨i0, hi, hz0, hz1, hz2⟩ := info_parts info_irow
    obtain ⟨A6, c6, uw, hrun, hown, hgrw, hloc⟩ := run_append_rw (L := LS) (ty := 22) (bytes := 24) Try.underlying22 hi hz0 hz1 hz2 rfl hown0 (h01.below hbl) (by unfold maxLen; omega) (by omega) (hbl.size)
    simp only [Nat.zero_add, List.nil_append] at hrun hown hloc
    have hbw : Below ua.heap.size ua uw := hbl.grown hgrw hbl.size fun q e => (hown0.lt q e).1
    have hlo : ∀ q, (Value.slice A6 n c6).ownBlock = some q → ua.heap.size ≤ q := fun q e => (hown.lt q e).1
    have hmi : MI uw 0 A6 n c6 hs0 (upTo e 0) := by
      rw [upTo_zero]
      refine ⟨own_base hown (Nat.zero_le _), h02, fun j x l hj hl => (h03 j x l hj hl).below hbw, fun x hx hn ad e1 => ⟨Nat.zero_le _, fun e2 => ?_⟩⟩
      obtain ⟨j, hj⟩ := List.getElem?_of_mem hx
      have hjl : j < e.length := by rw [← h02]; exact (List.getElem?_eq_some_iff.1 hj).1
      obtain ⟨g, o, e3, hlt, _⟩ := (h03 j x _ hj (List.getElem?_eq_getElem hjl)).spot hn
      rw [e1] at e3
      cases e3
      have := hlo _ e2
      have h9 : g < ua.heap.size := hlt
      have h10 : ua.heap.size ≤ g := this
      omega
    have HMI := Lib.hid (And.intro hmi (And.intro hlo hbw))
    have HRUN := Lib.hid hrun
    clear h01 h02 h03 hbl hown0 hi hz0 hz1 hz2 hrun hown hgrw hloc hbw hlo hmi
    go_wp2_with (at_builtin; refine wpList_append_row rfl (.tmp 21) (.tmp 22) rfl HRUN.out ?_)
    go_loopw [7] (ApRel e n A6 c6 ua) (fun v _ => n - (intOf v).toNat)
    case atStart => exact ⟨0, _, rfl, Nat.zero_le _, HMI.out.1, HMI.out.2.1, HMI.out.2.2⟩
    case round =>
      rename World => wo
      obtain ⟨i, hs, rfl, hi, hmi, hlo, hbo⟩ := hrel
      clear HMI HRUN
      by_cases hlt : i < n
      · obtain ⟨g, o, R, rn, rc, l, rfl, hg, hl, o1, hr⟩ := HM.out.1.at_ hlt
        have hrl := hr.len
        have hr400 : rn ≤ 400 := by have := edges_one (List.mem_of_getElem? hl); omega
        have hbwo := bel_trans HU1.out hbo
        have HX := Lib.hid (And.intro hmi (And.intro hlo (And.intro hbo (And.intro hl (And.intro hr (And.intro hrl (And.intro hg (And.intro o1 hbwo))))))))
        clear hmi hlo hbo hl hr hrl hg o1 hbwo
        go_wp2_with fail
        go_loopw [8, 9] (AqRel l n rn wo) (fun _ v _ => rn - (intOf v).toNat)
        case atStart => exact ⟨0, 0, none, 0, rfl, rfl, Nat.zero_le _, by simp, Nat.le_refl _, ⟨by simp [Lay.flat], .inl ⟨rfl, rfl⟩⟩, Below.refl _ _⟩
        case round =>
          rename World => wk
          obtain ⟨k, m, V, c', rfl, rfl, hk, hm, hmk, hown, hbk⟩ := hrel
          have hbu := HX.out.2.2.2.2.2.2.2.2.trans (hbk.mono HX.out.2.2.2.2.2.2.2.2.size)
          have o1 := (hbu.cell HX.out.2.2.2.2.2.2.1).trans HX.out.2.2.2.2.2.2.2.1
          by_cases hkn : k < rn
          · obtain ⟨g2, o2, z, rfl, hg2, hz, c1⟩ := int_at (HX.out.2.2.2.2.1.below hbu) hkn
            have hsn : (l.take (k + 1)).filter (fun z => decide (z < (n : Int))) = (l.take k).filter (fun z => decide (z < (n : Int))) ++ if z < (n : Int) then [z] else [] := by
              rw [List.take_add_one, hz, List.filter_append]
              by_cases e : z < (n : Int) <;> simp [e]
            by_cases hzn : z < (n : Int)
            · rw [if_pos hzn] at hsn
              have hbl : Below wk.heap.size wk (wk.alloc (.cells #[.int .i64 z] 3)) := bel_alloc (Below.refl _ _) _
              have hlit : Rw LN (wk.alloc (.cells #[.int .i64 z] 3)) (some ⟨wk.heap.size, 0, none⟩) 1 1 [z] := Rw.lit (L := LN) wk z 3
              obtain ⟨i0, hi', hz0, hz1, hz2⟩ := info_parts info_int
              have hsz := hbl.size
              have hs1 := hbk.size
              obtain ⟨V1, c1x, u3, hrun, hown3, hgrw, hloc⟩ := run_append_rw (L := LN) (ty := 27) (bytes := 8) Try.underlying27 hi' hz0 hz1 hz2 rfl (ownsRow_below hown hbl) hlit (by unfold maxLen; omega) (by omega) (by omega)
              have HFI := Lib.hid (show AqRel l n rn wo (.slice V1 (m + 1) c1x) (.int .i64 ((k + 1 : Nat) : Int)) u3 from ⟨k + 1, m + 1, V1, c1x, rfl, rfl, by omega, by rw [hsn, List.length_append, hm]; rfl, by omega, by rw [hsn]; exact hown3, (bel_trans hbk hbl).grown hgrw (by omega) fun j e => (hown.lt j e).1⟩)
              have HRUN := Lib.hid hrun
              clear hbl hlit hi' hz0 hz1 hz2 hsz hs1 hrun hown3 hgrw hloc hsn hm hown hbk hbu hg2 hz
              go_wp2_with (at_builtin; refine wpList_append_row rfl (.tmp 49) (.tmp 57) rfl HRUN.out ?_)
              go_roundw
              case rel => simpa using HFI.out
              case measure =>
                simp [intOf]
                omega
            · rw [if_neg hzn, List.append_nil] at hsn
              have HFI := Lib.hid (show AqRel l n rn wo (.slice V m c') (.int .i64 ((k + 1 : Nat) : Int)) wk from ⟨k + 1, m, V, c', rfl, rfl, by omega, by rw [hsn]; exact hm, by omega, by rw [hsn]; exact hown, hbk⟩)
              clear hsn hm hown hbk hbu hg2 hz
              go_wp2_with fail
              go_roundw
              case rel => simpa using HFI.out
              case measure =>
                simp [intOf]
                omega
          · have hke : ¬ ((k : Int) < (rn : Int)) := by omega
            obtain ⟨hmi, hlo, hbo, hl, hr, hrl, hg, o1', hbwo⟩ := HX.out
            obtain ⟨g6, rfl⟩ := own_some hmi.own (by omega)
            have hmk' : MI wk 0 (some ⟨g6, 0, none⟩) n c6 hs (upTo e i) := hmi.keep hbk.size fun q _ hq => hbk.block q hq
            obtain ⟨g', o', R', rn', rc', l', e', _, _, d1, _⟩ := hmk'.mat.at_ hlt
            cases e'
            have d2 := own_soft hmk'.own i
            have hg6 := (hmi.own.lt g6 rfl).2
            have hfl : (l.take k).filter (fun z => decide (z < (n : Int))) = l.filter (fun z => decide (z < (e.length : Int))) := by rw [List.take_of_length_le (by omega), hln]
            rw [hfl] at hown
            have hst := hmk'.store (i := i) (Rw.own (L := LN) hown) (fun _ ad e1 => ⟨Nat.zero_le _, fun e2 => by
              have h5 := (hown.lt ad.block (by rw [e1]; rfl)).1
              omega⟩)
            rw [upTo_next hl] at hst
            simp only [Nat.zero_add] at d1
            have HFI := Lib.hid (show ApRel e n (some ⟨g6, 0, none⟩) c6 ua (.int .i64 ((i + 1 : Nat) : Int)) (wk.setCell ⟨g6, i, none⟩ (.slice V m c')) from ⟨i + 1, _, rfl, by omega, hst, hlo, (hbo.trans (hbk.mono hbo.size)).setCell (p := ⟨g6, i, none⟩) (hlo g6 rfl) _⟩)
            clear hmi hlo hbo hl hr hrl hg o1' hbwo hmk' hg6 hfl hown hst hm hbk hbu
            go_wp2_with fail
            go_roundw
            case rel => simpa using HFI.out
            case measure =>
              simp [intOf]
              omega
      · have hin : i = n := by omega
        have hie : ¬ ((i : Int) < (n : Int)) := by omega
        rw [hin] at hmi
        have HS2 := Lib.hid (show A2Rel e n N ua (.slice A6 n c6) (.int .i64 ((0 : Nat) : Int)) wo from ⟨0, n, A6, c6, hs, rfl, rfl, Nat.zero_le _, rfl, by rw [List.replicate_zero, List.append_nil]; exact hmi, hlo, hbo⟩)
        clear hmi hlo hbo hin
        go_wp2_with fail
        go_loopw [6, 10] (A2Rel e n N ua) (fun _ v _ => N - (intOf v).toNat)
        case atStart => simpa using HS2.out
        case round =>
          rename World => wj
          obtain ⟨j, mm, A7, c7, hs7, rfl, rfl, hj, hmm, hmi, hlo, hbo⟩ := hrel
          clear HS2
          by_cases hjn : j < N
          · have hbl : Below wj.heap.size wj (wj.alloc (.cells #[.slice none 0 0] 27)) := bel_alloc (Below.refl _ _) _
            have hlit : Rw LS (wj.alloc (.cells #[.slice none 0 0] 27)) (some ⟨wj.heap.size, 0, none⟩) 1 1 [((none : Option Addr), 0, 0)] := Rw.lit (L := LS) wj (none, 0, 0) 27
            obtain ⟨i0, hi', hz0, hz1, hz2⟩ := info_parts info_irow
            have hsz := hbl.size
            have hs1 := hbo.size
            have hmil : MI (wj.alloc (.cells #[.slice none 0 0] 27)) 0 A7 mm c7 hs7 (upTo e n ++ List.replicate j []) := hmi.keep hsz fun q _ h2 => hbl.block q h2
            obtain ⟨V1, c1x, u3, hrun, hown3, hgrw, hloc⟩ := run_append_rw (L := LS) (ty := 22) (bytes := 24) Try.underlying22 hi' hz0 hz1 hz2 rfl hmil.own hlit (by unfold maxLen; omega) (by omega) (Nat.zero_le _)
            have hm3 := hmil.snoc (l := []) (Rw.nil_ _) (fun h0 => absurd h0 (by omega)) hown3 hgrw hloc
            rw [List.append_assoc, show List.replicate j ([] : List Int) ++ [[]] = List.replicate (j + 1) [] from (List.replicate_succ').symm] at hm3
            have HFI := Lib.hid (show A2Rel e n N ua (.slice V1 (mm + 1) c1x) (.int .i64 ((j + 1 : Nat) : Int)) u3 from ⟨j + 1, mm + 1, V1, c1x, _, rfl, rfl, by omega, by omega, hm3, fun q e1 => by
              rcases hloc with h3 | h3
              · exact hlo q (h3.symm.trans e1)
              · rw [h3] at e1
                injection e1 with e1
                omega, (bel_trans hbo hbl).grown hgrw (by omega) fun q e1 => hlo q e1⟩)
            have HRUN := Lib.hid hrun
            clear hbl hlit hi' hz0 hz1 hz2 hsz hs1 hmil hrun hown3 hgrw hloc hm3 hmi hlo hbo
            go_wp2_with (at_builtin; refine wpList_append_row rfl (.tmp 68) (.tmp 69) rfl HRUN.out ?_)
            go_roundw
            case rel => simpa using HFI.out
            case measure =>
              simp [intOf]
              omega
          · have hjN : j = N := by omega
            have hje : ¬ ((j : Int) < (N : Int)) := by omega
            rw [hjN, show upTo e n = upTo e e.length from by rw [hln], upTo_both] at hmi
            have hmm60 : mm ≤ 60 := by omega
            have hbw := bel_trans HU1.out hbo
            obtain ⟨ma, hma⟩ : ∃ x, (comps e).length = x := ⟨_, rfl⟩
            obtain ⟨mb, hmb⟩ : ∃ x, (comps (both e N)).length = x := ⟨_, rfl⟩
            have hab := both_comps e N
            rw [hma, hmb] at hab
            have hma40 : ma ≤ 40 := by have := comps_length e; omega
            have HCA : Hid (∀ u, Below wj.heap.size wj u → Calls Try.prog 10 #[.slice A n c] u (fun r u' => ∃ A c, r = .returned (.slice A ma c) ∧ Below u.heap.size u u')) := Lib.hid fun u hu => by
              refine (hC A n c e u (HM.out.1.below (hbw.trans (hu.mono hbw.size))) (by omega) HM.out.2).mono ?_
              rintro r u' ⟨A', c', hr, _, hb⟩
              have e1 : (compsZ e).length = ma := by unfold compsZ; rw [List.length_map, hma]
              rw [e1] at hr
              exact ⟨A', c', hr, hb⟩
            have HCB : Hid (∀ u, Below wj.heap.size wj u → Calls Try.prog 10 #[.slice A7 mm c7] u (fun r u' => ∃ A c, r = .returned (.slice A mb c) ∧ Mat u' A mb c (compsZ (both e N)) ∧ Below u.heap.size u u')) := Lib.hid fun u hu => by
              have := hC A7 mm c7 (both e N) u (hmi.mat.below hu) (by omega) (fun l hl => by
                unfold both at hl
                rcases List.mem_append.1 hl with hl | hl
                · obtain ⟨l0, h0, rfl⟩ := List.mem_map.1 hl
                  exact Nat.le_trans (List.length_filter_le _ _) (HM.out.2 l0 h0)
                · rw [(List.mem_replicate.1 hl).2]
                  exact Nat.zero_le _)
              have e1 : (compsZ (both e N)).length = mb := by unfold compsZ; rw [List.length_map, hmb]
              refine this.mono ?_
              rintro r u' ⟨A', c', hr, hm, hb⟩
              rw [e1] at hr hm
              exact ⟨A', c', hr, hm, hb⟩
            have HLM := Lib.hid (And.intro hma hmb)
            have HBW := Lib.hid hbw
            have hne : ((mb : Int) != (ma : Int) + (N : Int)) = false := by simp; omega
            clear hmi hlo hbo hbw hma hmb hjN hmm
            go_wp2_with fail
            (with_reducible refine (HCA.out _ (Below.refl _ _)).mono ?_)
            rintro r uc ⟨A11, c11, rfl, hbc⟩
            have HBC := Lib.hid hbc
            clear hbc
            go_wp2_with fail
            (with_reducible refine (HCB.out _ HBC.out).mono ?_)
            rintro r ud ⟨A12, c12, rfl, hmd, hbd⟩
            have HMD := Lib.hid hmd
            have HBD := Lib.hid (HBW.out.trans ((bel_trans HBC.out hbd).mono HBW.out.size))
            clear hmd hbd HCA HCB
            go_wp2_with fail
            go_loopw [13, 14] (AsRel (comps (both e N)) n ud) (fun _ v _ => mb - (intOf v).toNat)
            case atStart => exact ⟨0, by simp, rfl, Nat.zero_le _, Below.refl _ _⟩
            case round =>
              rename World => wq
              obtain ⟨p, rfl, rfl, hp, hb⟩ := hrel
              have hpm : p ≤ mb := by have := HLM.out.2; omega
              obtain ⟨s, hs⟩ : ∃ s, (((comps (both e N)).take p).filter (sole n)).length = s := ⟨_, rfl⟩
              rw [hs]
              have hsp : s ≤ 100 := by
                rw [← hs]
                refine Nat.le_trans (List.length_filter_le _ _) ?_
                rw [List.length_take]
                omega
              by_cases hpb : p < mb
              · obtain ⟨g, o, R, rn, rc, l, rfl, hg, hl, o1, hr⟩ := (HMD.out.below hb).at_ hpb
                have hl' : ∃ c0, (comps (both e N))[p]? = some c0 ∧ l = toZ c0 := by
                  unfold compsZ at hl
                  rw [List.getElem?_map] at hl
                  obtain ⟨c0, h1, h2⟩ := Option.map_eq_some_iff.1 hl
                  exact ⟨c0, h1, h2.symm⟩
                obtain ⟨c0, hc0, rfl⟩ := hl'
                have hrl : c0.length = rn := by rw [← toZ_length]; exact hr.len
                have hsn : (((comps (both e N)).take (p + 1)).filter (sole n)).length = s + if sole n c0 = true then 1 else 0 := by
                  rw [List.take_add_one, hc0, List.filter_append, List.length_append, hs]
                  cases h : sole n c0 <;> simp [h]
                by_cases hr1 : rn = 1
                · obtain ⟨g2, o2, z, rfl, hg2, hz, c1⟩ := int_at hr (show 0 < rn by omega)
                  obtain ⟨x, hx, rfl⟩ := at_toZ hz
                  have hcx : c0 = [x] := by
                    match c0, hrl, hx with
                    | [a], _, hx => simpa using hx
                    | [], h, _ => simp at h; omega
                    | a :: b :: t, h, _ => simp at h; omega
                  have hso : sole n c0 = decide (n ≤ x) := by rw [hcx]; simp [sole]
                  rw [hso] at hsn
                  simp only [Nat.add_zero] at c1
                  by_cases hnx : n ≤ x
                  · have hnx' : (n : Int) ≤ (x : Int) := by omega
                    have HFI := Lib.hid (show AsRel (comps (both e N)) n ud (.int .i64 ((s + 1 : Nat) : Int)) (.int .i64 ((p + 1 : Nat) : Int)) wq from ⟨p + 1, by rw [hsn, decide_eq_true hnx, if_pos rfl], rfl, by have := HLM.out.2; omega, hb⟩)
                    clear hp hb hs hg hl hc0 hr hrl hsn hg2 hz hx hcx hso
                    subst hr1
                    go_wp2_with fail
                    go_roundw
                    case rel => simpa using HFI.out
                    case measure =>
                      simp [intOf]
                      omega
                  · have hnx' : ¬ ((n : Int) ≤ (x : Int)) := by omega
                    have HFI := Lib.hid (show AsRel (comps (both e N)) n ud (.int .i64 (s : Int)) (.int .i64 ((p + 1 : Nat) : Int)) wq from ⟨p + 1, by rw [hsn, decide_eq_false hnx, if_neg (by simp)]; rfl, rfl, by have := HLM.out.2; omega, hb⟩)
                    clear hp hb hs hg hl hc0 hr hrl hsn hg2 hz hx hcx hso
                    subst hr1
                    go_wp2_with fail
                    go_roundw
                    case rel => simpa using HFI.out
                    case measure =>
                      simp [intOf]
                      omega
                · have hso : sole n c0 = false := by unfold sole; rw [decide_eq_false (by omega)]; rfl
                  have hr1' : ((rn : Int) == 1) = false := by simp; omega
                  have HFI := Lib.hid (show AsRel (comps (both e N)) n ud (.int .i64 (s : Int)) (.int .i64 ((p + 1 : Nat) : Int)) wq from ⟨p + 1, by rw [hsn, hso, if_neg (by simp)]; rfl, rfl, by have := HLM.out.2; omega, hb⟩)
                  clear hp hb hs hg hl hc0 hr hrl hsn hso
                  go_wp2_with fail
                  go_roundw
                  case rel => simpa using HFI.out
                  case measure =>
                    simp [intOf]
                    omega
              · have hpe : ¬ ((p : Int) < (mb : Int)) := by omega
                have hsN : s = N := by
                  rw [← hs, List.take_of_length_le (by have := HLM.out.2; omega), ← hln]
                  exact both_sole e N
                have HBQ := Lib.hid (bel_trans HBD.out hb)
                clear hp hb hs
                subst hsN
                go_wp2_with (go_at_call 9; (with_reducible refine (HAW.out _).mono ?_); rintro r w10 ⟨rfl, hb10⟩; have HB10 := Lib.hid hb10; clear hb10)
                go_ret
                exact ⟨rfl, bel_trans HBQ.out HB10.out⟩
theorem compapart_any (hC : HasComps) (A : Option Addr) (n c : Nat) (e : Graph) (y : Int) (w : World) (h : Mat w A n c e) (hz : ∀ l ∈ e, l.length ≤ 17592186044416) (hy : 0 ≤ y ∧ y < 256) : Calls Try.prog 7 #[.slice A n c, .int .u8 y] w (Tells true w) := by
  obtain ⟨x, rfl⟩ := Int.eq_ofNat_of_zero_le hy.1
  exact compapart_true hC A n c e x w h hz (by omega)
end Go.Proofs.Ytpalmnjapiijaaa.Gr
