/-
  Texts of earlier layers, as one.
-/
import Derived.Test.YtpalmnjapiijaaaCompSmall
/- The document's table of who leads to whom. -/
namespace Go.Proofs.Ytpalmnjapiijaaa.Gr
open Go.RowKit Mem Dsk

theorem info_bool : (Try.prog.info? 4).map (fun i => (i.zero, i.size, i.bytes)) = some (some (.bool false), 1, 1) := by kernel_rfl
theorem info_row : (Try.prog.info? 41).map (fun i => (i.zero, i.size, i.bytes)) = some (some (.slice none 0 0), 1, 24) := by kernel_rfl
/-- A row of the first table, as far as it is known. -/
def rowB (k : Nat) (l : List Int) (q j : Nat) : Bool := decide (j = k) || (l.take q).contains (j : Int)
theorem rowB_end {e : Graph} {k j : Nat} {l : List Int} (h : e[k]? = some l) (hk : k < e.length) (hj : j < e.length) : rowB k l l.length j = base e k j := by
  rw [Bool.eq_iff_iff, base_iff, getD_at h]
  unfold rowB
  rw [Bool.or_eq_true, decide_eq_true_iff, List.take_of_length_le (Nat.le_refl _), List.contains_iff_mem]
  exact ⟨fun h => ⟨hk, hj, h.imp (fun e => e.symm) id⟩, fun h => h.2.2.imp (fun e => e.symm) id⟩
theorem rowB_next {k q j : Nat} {l : List Int} {z : Int} (h : l[q]? = some z) : rowB k l (q + 1) j = (rowB k l q j || decide (z = (j : Int))) := by
  unfold rowB
  rw [List.take_add_one, h, Bool.or_assoc]
  congr 1
  rw [Bool.eq_iff_iff, Bool.or_eq_true, decide_eq_true_iff, List.contains_iff_mem, List.contains_iff_mem, List.mem_append]
  simp [eq_comm]
def mixI (f : Nat → Nat → Bool) (k i : Nat) : Nat → Nat → Bool := fun i' j' => if i' < i then wstep f k i' j' else f i' j'
def mixJ (f : Nat → Nat → Bool) (k i j : Nat) : Nat → Nat → Bool := fun i' j' => if i' < i ∨ (i' = i ∧ j' < j) then wstep f k i' j' else f i' j'
theorem wstep_row {f : Nat → Nat → Bool} {k j : Nat} : wstep f k k j = f k j := by unfold wstep; cases f k j <;> simp
theorem wstep_col {f : Nat → Nat → Bool} {k i : Nat} : wstep f k i k = f i k := by unfold wstep; cases f i k <;> simp
theorem mixJ_at {f : Nat → Nat → Bool} {k i j : Nat} : mixJ f k i j i k = f i k ∧ mixJ f k i j i j = f i j ∧ mixJ f k i j k j = f k j := by
  unfold mixJ
  refine ⟨?_, ?_, ?_⟩
  · split
    · exact wstep_col
    · rfl
  · rw [if_neg (by omega)]
  · split
    · exact wstep_row
    · rfl
theorem MB.two {w : World} {B : Nat} {A : Option Addr} {m c n : Nat} {bs : List Nat} {f : Nat → Nat → Bool} (h : MB w B A m c n bs f) {i k : Nat} (hi : i < m) (hk : k < m) : ∃ (G o bi bk : Nat), A = some ⟨G, o, none⟩ ∧ bs[i]? = some bi ∧ bs[k]? = some bk ∧
    w.cell? ⟨G, o + i, none⟩ = some (.slice (some ⟨bi, 0, none⟩) n n) ∧ w.cell? ⟨G, o + k, none⟩ = some (.slice (some ⟨bk, 0, none⟩) n n) ∧ w.rowIs bi 4 n (fun j => .bool (f i j)) ∧ w.rowIs bk 4 n (fun j => .bool (f k j)) := by
  obtain ⟨G, o, bi, rfl, h1, h2, h3⟩ := h.at_ hi
  obtain ⟨G', o', bk, e, h4, h5, h6⟩ := h.at_ hk
  cases e
  exact ⟨G, o, bi, bk, rfl, h1, h4, h2, h5, h3, h6⟩
theorem mix_skip {f : Nat → Nat → Bool} {k i j a b : Nat} (h : f i k = false) : mixJ f k i j a b = mixI f k (i + 1) a b := by
  unfold mixJ mixI
  by_cases e : a < i
  · rw [if_pos (.inl e), if_pos (by omega)]
  · by_cases e2 : a = i
    · subst e2
      rw [if_pos (show a < a + 1 by omega)]
      have : wstep f k a b = f a b := by unfold wstep; rw [h]; simp
      rw [this]
      split <;> rfl
    · rw [if_neg (by omega), if_neg (by omega)]
theorem mix_end {f : Nat → Nat → Bool} {k i j a b : Nat} (h : b < j) : mixJ f k i j a b = mixI f k (i + 1) a b := by
  unfold mixJ mixI
  by_cases e : a < i + 1
  · rw [if_pos e, if_pos (by omega)]
  · rw [if_neg e, if_neg (by omega)]
theorem mix_step {f : Nat → Nat → Bool} {k i j a b : Nat} (h : f i k = true) : (if a = i ∧ b = j then f i j || f k j else mixJ f k i j a b) = mixJ f k i (j + 1) a b := by
  by_cases e : a = i ∧ b = j
  · rw [if_pos e]
    obtain ⟨rfl, rfl⟩ := e
    unfold mixJ wstep
    rw [if_pos (by omega), h, Bool.true_and]
  · rw [if_neg e]
    unfold mixJ
    by_cases e2 : a < i ∨ (a = i ∧ b < j)
    · rw [if_pos e2, if_pos (by omega)]
    · rw [if_neg e2, if_neg (by omega)]
def ReRel (e : Graph) (n : Nat) (w : World) (v4 v5 : Value) (wr : World) : Prop := ∃ (k : Nat) (A4 : Option Addr) (c4 : Nat) (bs : List Nat), v4 = .slice A4 k c4 ∧ v5 = .int .i64 (k : Int) ∧ k ≤ n ∧ MB wr w.heap.size A4 k c4 n bs (base e) ∧ Below w.heap.size w wr
def RkRel (k n b : Nat) (l : List Int) (w : World) (v7 : Value) (wr : World) : Prop := ∃ q : Nat, v7 = .int .i64 (q : Int) ∧ q ≤ l.length ∧ wr.rowIs b 4 n (fun j => .bool (rowB k l q j)) ∧ Below w.heap.size w wr
def WaRel (e : Graph) (n : Nat) (w : World) (A4 : Option Addr) (c4 : Nat) (bs : List Nat) (v8 : Value) (wr : World) : Prop := ∃ k : Nat, v8 = .int .i64 (k : Int) ∧ k ≤ n ∧ MB wr w.heap.size A4 n c4 n bs (wars (base e) k) ∧ Below w.heap.size w wr
def WbRel (f : Nat → Nat → Bool) (k n : Nat) (w : World) (A4 : Option Addr) (c4 : Nat) (bs : List Nat) (v9 : Value) (wr : World) : Prop := ∃ i : Nat, v9 = .int .i64 (i : Int) ∧ i ≤ n ∧ MB wr w.heap.size A4 n c4 n bs (mixI f k i) ∧ Below w.heap.size w wr
def WcRel (f : Nat → Nat → Bool) (k i n : Nat) (w : World) (A4 : Option Addr) (c4 : Nat) (bs : List Nat) (v10 : Value) (wr : World) : Prop := ∃ j : Nat, v10 = .int .i64 (j : Int) ∧ j ≤ n ∧ MB wr w.heap.size A4 n c4 n bs (mixJ f k i j) ∧ Below w.heap.size w wr
/-- The document's table. -/
def Table (w : World) (e : Graph) (n : Nat) (x : Ending) (w' : World) : Prop := ∃ (A : Option Addr) (c : Nat) (bs : List Nat), x = .returned (.slice A n c) ∧ MB w' w.heap.size A n c n bs (lead e) ∧ Below w.heap.size w w'
set_option maxRecDepth 20000 in
set_option maxHeartbeats 16000000 in
theorem reach_any {A : Option Addr} {n c : Nat} {e : Graph} (w : World) (h : Mat w A n c e) (hn : n ≤ 1000000) : Calls Try.prog 17 #[.slice A n c] w (Table w e n) := by
  have hln := h.len
  have HM := Lib.hid h
  have hmk := run_make_row' (P := Try.prog) 41 4 (.bool false) 1 Try.underlying41 info_bool rfl .i64 .i64 n (by omega) (by omega)
  clear h
  go_enter Try.func17, Try.ntmps17
  go_wp2_with fail
  go_loopw [4, 5] (ReRel e n w) (fun _ v _ => n - (intOf v).toNat)
  case atStart => exact ⟨0, none, 0, [], rfl, rfl, Nat.zero_le _, MB.nil _ _ _ _, Below.refl _ _⟩
  case round =>
    rename World => wo
    obtain ⟨k, A4, c4, bs, rfl, rfl, hk, hmb, hbw⟩ := hrel
    by_cases hlt : k < n
    · obtain ⟨g, o, R, rn, rc, l, rfl, hg, hl, hc, hr⟩ := (HM.out.below hbw).at_ hlt
      have hrl := hr.len
      have hrc := And.intro hr.le hr.cap
      unfold maxLen at hrc
      obtain ⟨W1, hW1⟩ : ∃ v, wo.alloc (.cells (madeCells #[.bool false] n) 4) = v := ⟨_, rfl⟩
      obtain ⟨b6, hb6⟩ : ∃ v, wo.heap.size = v := ⟨_, rfl⟩
      have hb1 : Below wo.heap.size wo W1 := by rw [← hW1]; exact bel_alloc (Below.refl _ _) _
      have hr1 : W1.rowIs b6 4 n (fun _ => .bool false) := by rw [← hW1, ← hb6]; exact World.rowIs_made wo (.bool false) n 4
      have hr2 : (W1.setCell ⟨b6, k, none⟩ (.bool true)).rowIs b6 4 n (fun j => .bool (rowB k l 0 j)) := (hr1.set k (.bool true)).congr fun i _ => by
        unfold rowB
        by_cases e : i = k
        · simp [e]
        · simp [e]
      have hb2 : Below wo.heap.size wo (W1.setCell ⟨b6, k, none⟩ (.bool true)) := hb1.setCell (p := ⟨b6, k, none⟩) (Nat.le_of_eq hb6) _
      have d1 := hr1.cell hlt
      have d2 := hr1.frozen k
      have HX := Lib.hid (And.intro hmb (And.intro hbw (And.intro hl (And.intro hr (And.intro hr2 hb2)))))
      have HW1 := Lib.hid (And.intro hW1 hb6)
      have HC := Lib.hid hc
      have HG := Lib.hid hg
      clear hmb hbw hl hr hr2 hb2 hW1 hb1 hr1 hc hg
      go_upto_region 7 with fail
      rw [HW1.out.1]
      clear hb6
      go_upto_region 8 with fail
      obtain ⟨W2, hW2⟩ : ∃ v, W1.setCell ⟨b6, k, none⟩ (.bool true) = v := ⟨_, rfl⟩
      rw [hW2]
      have HX2 := HX.out.2.2.2.2
      rw [hW2] at HX2
      have HY := Lib.hid HX2
      clear d1 d2 hW2 HX2
      go_wp2_with fail
      go_loopw [7] (RkRel k n b6 l wo) (fun v _ => rn - (intOf v).toNat)
      case atStart => exact ⟨0, rfl, Nat.zero_le _, HY.out.1, HY.out.2⟩
      case round =>
        obtain ⟨q, rfl, hq, hrow, hbr⟩ := hrel
        have hc : wr.cell? ⟨g, o + k, none⟩ = some (.slice R rn rc) := by rw [← HC.out]; exact World.cell?_of_block (w := wo) (hbr.block g HG.out)
        by_cases hqn : q < rn
        · obtain ⟨g2, o2, z, rfl, hg2, hz, c1⟩ := int_at (HX.out.2.2.2.1.below hbr) hqn
          by_cases hz0 : z < 0
          · have HQ := Lib.hid (show RkRel k n b6 l wo (.int .i64 ((q + 1 : Nat) : Int)) wr from ⟨q + 1, rfl, by omega, hrow.congr fun j _ => by rw [rowB_next hz, decide_eq_false (by omega), Bool.or_false], hbr⟩)
            have hz0' : ¬ (0 ≤ z) := by omega
            clear hrow hbr hz
            go_wp2_with fail
            go_roundw
            case rel => simpa using HQ.out
            case measure =>
              simp [intOf]
              omega
          · obtain ⟨x, rfl⟩ := Int.eq_ofNat_of_zero_le (show 0 ≤ z by omega)
            by_cases hxn : x < n
            · have d1 := hrow.cell hxn
              have d2 := hrow.frozen x
              have HQ := Lib.hid (show RkRel k n b6 l wo (.int .i64 ((q + 1 : Nat) : Int)) (wr.setCell ⟨b6, x, none⟩ (.bool true)) from ⟨q + 1, rfl, by omega, (hrow.set x (.bool true)).congr fun j _ => by
                rw [rowB_next hz]
                by_cases e : j = x
                · subst e
                  simp
                · rw [if_neg e, decide_eq_false (by omega), Bool.or_false], hbr.setCell (p := ⟨b6, x, none⟩) (Nat.le_of_eq HW1.out.2) _⟩)
              clear hrow hbr hz hz0
              go_wp2_with fail
              go_roundw
              case rel => simpa using HQ.out
              case measure =>
                simp [intOf]
                omega
            · have HQ := Lib.hid (show RkRel k n b6 l wo (.int .i64 ((q + 1 : Nat) : Int)) wr from ⟨q + 1, rfl, by omega, hrow.congr fun j hj => by rw [rowB_next hz, decide_eq_false (by omega), Bool.or_false], hbr⟩)
              clear hrow hbr hz hz0
              go_wp2_with fail
              go_roundw
              case rel => simpa using HQ.out
              case measure =>
                simp [intOf]
                omega
        · have hqe : q = l.length := by omega
          rename World => wi
          subst hqe
          obtain ⟨hmb, hbw, hl, hr, hr2, hb2⟩ := HX.out
          have hk' : k < e.length := by omega
          have hbl : Below wo.heap.size wo (wi.alloc (.cells #[.slice (some ⟨b6, 0, none⟩) n n] 41)) := bel_alloc hbr _
          have hlit : Rw LS (wi.alloc (.cells #[.slice (some ⟨b6, 0, none⟩) n n] 41)) (some ⟨wi.heap.size, 0, none⟩) 1 1 [((some ⟨b6, 0, none⟩ : Option Addr), n, n)] := Rw.lit (L := LS) wi (some ⟨b6, 0, none⟩, n, n) 41
          obtain ⟨i0, hi, hz0, hz1, hz2⟩ := info_parts info_row
          have hsz := hbl.size
          have hwsz := hbw.size
          have hmb' := hmb.below hbl
          obtain ⟨V1, c1x, u3, hrun, hown, hgrw, hloc⟩ := run_append_rw (L := LS) (ty := 39) (bytes := 24) Try.underlying39 hi hz0 hz1 hz2 rfl hmb'.own hlit (by unfold maxLen; omega) (by omega) (by omega)
          have hb6 := HW1.out.2
          have hrow' : (wi.alloc (.cells #[.slice (some ⟨b6, 0, none⟩) n n] 41)).rowIs b6 4 n (fun j => .bool (base e k j)) := ((hrow.congr fun j hj => by rw [rowB_end hl hk' (by omega)]).alloc _)
          have hm3 : MB u3 w.heap.size V1 (k + 1) c1x n (bs ++ [b6]) (base e) := hmb'.snoc hrow' (by omega) (fun e => by have := (hmb.own.lt b6 e).2; omega) (fun e => by
            obtain ⟨j, hj⟩ := List.getElem?_of_mem e
            have := (hmb.row j b6 hj).lt
            omega) hown hgrw hloc
          have hb3 : Below w.heap.size w u3 := (hbw.trans (hbl.mono hwsz)).grown hgrw (by omega) fun j e => (hmb.own.lt j e).1
          have HFI := Lib.hid (show ReRel e n w (.slice V1 (k + 1) c1x) (.int .i64 ((k + 1 : Nat) : Int)) u3 from ⟨k + 1, V1, c1x, bs ++ [b6], rfl, rfl, by omega, hm3, hb3⟩)
          have HRUN := Lib.hid hrun
          clear hmb hbw hl hr hr2 hb2 hbl hlit hi hz0 hz1 hz2 hsz hwsz hmb' hrun hown hgrw hloc hrow' hm3 hb3 hrow hbr hb6 HX HY
          go_wp2_with (at_builtin; refine wpList_append_row rfl (.tmp 60) (.tmp 62) rfl HRUN.out ?_)
          go_roundw
          case rel => simpa using HFI.out
          case measure =>
            simp [intOf]
            omega
    · have hkn : n = k := by omega
      subst hkn
      have HMB := Lib.hid (And.intro hmb hbw)
      clear hmb hbw hmk
      go_wp2_with fail
      go_loopw [8] (WaRel e n w A4 c4 bs) (fun v _ => n - (intOf v).toNat)
      case atStart => exact ⟨0, rfl, Nat.zero_le _, HMB.out.1, HMB.out.2⟩
      case round =>
        rename World => wk
        obtain ⟨k, rfl, hk, hmb, hbw⟩ := hrel
        clear HMB
        by_cases hlt : k < n
        · obtain ⟨f, hf⟩ : ∃ f, wars (base e) k = f := ⟨_, rfl⟩
          rw [hf] at hmb
          have h0 : MB wk w.heap.size A4 n c4 n bs (mixI f k 0) := hmb.congr fun i j _ _ => by unfold mixI; rw [if_neg (by omega)]
          have HA := Lib.hid (And.intro h0 hbw)
          have HF := Lib.hid hf
          clear hmb hbw h0 hf
          go_wp2_with fail
          go_loopw [9] (WbRel f k n w A4 c4 bs) (fun v _ => n - (intOf v).toNat)
          case atStart => exact ⟨0, rfl, Nat.zero_le _, HA.out.1, HA.out.2⟩
          case round =>
            rename World => wi
            obtain ⟨i, rfl, hi, hmi, hbi⟩ := hrel
            clear HA
            by_cases hin : i < n
            · have h0 : MB wi w.heap.size A4 n c4 n bs (mixJ f k i 0) := hmi.congr fun a b _ _ => by
                unfold mixI mixJ
                by_cases e : a < i
                · rw [if_pos e, if_pos (.inl e)]
                · rw [if_neg e, if_neg (by omega)]
              have HA := Lib.hid (And.intro h0 hbi)
              clear hmi hbi h0
              go_wp2_with fail
              go_loopw [10] (WcRel f k i n w A4 c4 bs) (fun v _ => n - (intOf v).toNat)
              case atStart => exact ⟨0, rfl, Nat.zero_le _, HA.out.1, HA.out.2⟩
              case round =>
                rename World => wj
                obtain ⟨j, rfl, hj, hmj, hbj⟩ := hrel
                clear HA
                by_cases hjn : j < n
                · obtain ⟨G, o, bi, bk, rfl, hbi, hbk, o1, o2, q1, q2⟩ := hmj.two hin hlt
                  have r1 := q1.cell hlt
                  have r2 := q1.cell hjn
                  have r3 := q2.cell hjn
                  have r4 := q1.frozen j
                  simp only [mixJ_at.1, mixJ_at.2.1, mixJ_at.2.2] at r1 r2 r3
                  have HX := Lib.hid (And.intro hmj (And.intro hbj hbi))
                  clear hmj hbj hbi hbk q1 q2
                  obtain ⟨fik, hik⟩ : ∃ t, f i k = t := ⟨_, rfl⟩
                  obtain ⟨fij, hij⟩ : ∃ t, f i j = t := ⟨_, rfl⟩
                  obtain ⟨fkj, hkj⟩ : ∃ t, f k j = t := ⟨_, rfl⟩
                  rw [hik] at r1
                  rw [hij] at r2
                  rw [hkj] at r3
                  have HE := Lib.hid (And.intro hik (And.intro hij hkj))
                  clear hik hij hkj
                  cases fik with
                  | false =>
                    have HFI := Lib.hid (show WbRel f k n w (some ⟨G, o, none⟩) c4 bs (.int .i64 ((i + 1 : Nat) : Int)) wj from ⟨i + 1, rfl, by omega, HX.out.1.congr fun a b _ _ => mix_skip HE.out.1, HX.out.2.1⟩)
                    clear r2 r3 r4
                    go_wp2_with fail
                    go_roundw
                    case rel => simpa using HFI.out
                    case measure =>
                      simp [intOf]
                      omega
                  | true =>
                    have hst : WcRel f k i n w (some ⟨G, o, none⟩) c4 bs (.int .i64 ((j + 1 : Nat) : Int)) ((wj.setCell ⟨bi, j, none⟩ (.bool (fij || fkj))).drew) := ⟨j + 1, rfl, by omega, ((HX.out.1.below (Below.drew (Below.refl _ _))).store HX.out.2.2 _).congr fun a b _ _ => by rw [← HE.out.2.1, ← HE.out.2.2]; exact mix_step HE.out.1, (Below.drew HX.out.2.1).setCell (p := ⟨bi, j, none⟩) (HX.out.1.low bi (List.mem_of_getElem? HX.out.2.2)).1 _⟩
                    have HFI := Lib.hid hst
                    have HS0 := Lib.hid (show (wj.drew.cell? ⟨G, o + i, none⟩ = some (.slice (some ⟨bi, 0, none⟩) n n)) ∧ (wj.drew.cell? ⟨G, o + k, none⟩ = some (.slice (some ⟨bk, 0, none⟩) n n)) from ⟨o1, o2⟩)
                    have HS1 := Lib.hid (show ((wj.setCell ⟨bi, j, none⟩ (.bool (fij || fkj))).drew.cell? ⟨G, o + i, none⟩ = some (.slice (some ⟨bi, 0, none⟩) n n)) ∧ ((wj.setCell ⟨bi, j, none⟩ (.bool (fij || fkj))).drew.cell? ⟨G, o + k, none⟩ = some (.slice (some ⟨bk, 0, none⟩) n n)) from by
                      have hne : G ≠ bi := fun e => (HX.out.1.low bi (List.mem_of_getElem? HX.out.2.2)).2 (by rw [← e]; rfl)
                      exact ⟨(World.cell?_of_block (w := wj) (Below.heap_setCell wj ⟨bi, j, none⟩ _ G hne)).trans o1, (World.cell?_of_block (w := wj) (Below.heap_setCell wj ⟨bi, j, none⟩ _ G hne)).trans o2⟩)
                    clear hst
                    cases fij with
                    | true =>
                      simp only [Bool.true_or] at HFI HS1
                      go_upto_region 23 with fail
                      refine wp_region_held_drew (S := (fun w' => w'.cell? ⟨G, o + i, none⟩ = some (.slice (some ⟨bi, 0, none⟩) n n) ∧ w'.cell? ⟨G, o + k, none⟩ = some (.slice (some ⟨bk, 0, none⟩) n n))) (by kernel_rfl) (by first | (with_reducible exact HS0.out) | (with_reducible exact HS1.out)) (fun hHeld => ?_)
                      refine held_take (i := 0) (d := 88) (v := (.slice (some ⟨G, o, none⟩) n c4)) rfl rfl (by kernel_rfl) (by kernel_rfl) (by kernel_rfl) (fun _ _ _ h => h) (by kernel_rfl) (fun w hSw => by (obtain ⟨hS1, hS2⟩ := hSw); go_simp) hHeld ?_
                      try simp only [List.setIfInBounds_toArray, List.set_cons_zero, List.set_cons_succ]
                      refine held_take (i := 1) (d := 89) (v := (.int .i64 (i : Int))) rfl rfl (by kernel_rfl) (by kernel_rfl) (by kernel_rfl) (fun _ _ _ h => h) (by kernel_rfl) (fun w hSw => by (obtain ⟨hS1, hS2⟩ := hSw); go_simp) hHeld ?_
                      try simp only [List.setIfInBounds_toArray, List.set_cons_zero, List.set_cons_succ]
                      refine held_take (i := 2) (d := 90) (v := (.pointer (some ⟨G, o + i, none⟩))) rfl rfl (by kernel_rfl) (by kernel_rfl) (by kernel_rfl) (fun _ _ _ h => h) (by kernel_rfl) (fun w hSw => by (obtain ⟨hS1, hS2⟩ := hSw); go_simp) hHeld ?_
                      try simp only [List.setIfInBounds_toArray, List.set_cons_zero, List.set_cons_succ]
                      refine held_take (i := 3) (d := 91) (v := (.slice (some ⟨bi, 0, none⟩) n n)) rfl rfl (by kernel_rfl) (by kernel_rfl) (by kernel_rfl) (fun _ _ _ h => h) (by kernel_rfl) (fun w hSw => by (obtain ⟨hS1, hS2⟩ := hSw); go_simp) hHeld ?_
                      try simp only [List.setIfInBounds_toArray, List.set_cons_zero, List.set_cons_succ]
                      refine held_take (i := 4) (d := 92) (v := (.int .i64 (j : Int))) rfl rfl (by kernel_rfl) (by kernel_rfl) (by kernel_rfl) (fun _ _ _ h => h) (by kernel_rfl) (fun w hSw => by (obtain ⟨hS1, hS2⟩ := hSw); go_simp) hHeld ?_
                      try simp only [List.setIfInBounds_toArray, List.set_cons_zero, List.set_cons_succ]
                      refine held_take (i := 5) (d := 93) (v := (.slice (some ⟨G, o, none⟩) n c4)) rfl rfl (by kernel_rfl) (by kernel_rfl) (by kernel_rfl) (fun _ _ _ h => h) (by kernel_rfl) (fun w hSw => by (obtain ⟨hS1, hS2⟩ := hSw); go_simp) hHeld ?_
                      try simp only [List.setIfInBounds_toArray, List.set_cons_zero, List.set_cons_succ]
                      refine held_take (i := 6) (d := 94) (v := (.int .i64 (i : Int))) rfl rfl (by kernel_rfl) (by kernel_rfl) (by kernel_rfl) (fun _ _ _ h => h) (by kernel_rfl) (fun w hSw => by (obtain ⟨hS1, hS2⟩ := hSw); go_simp) hHeld ?_
                      try simp only [List.setIfInBounds_toArray, List.set_cons_zero, List.set_cons_succ]
                      refine held_take (i := 7) (d := 95) (v := (.pointer (some ⟨G, o + i, none⟩))) rfl rfl (by kernel_rfl) (by kernel_rfl) (by kernel_rfl) (fun _ _ _ h => h) (by kernel_rfl) (fun w hSw => by (obtain ⟨hS1, hS2⟩ := hSw); go_simp) hHeld ?_
                      try simp only [List.setIfInBounds_toArray, List.set_cons_zero, List.set_cons_succ]
                      refine held_take (i := 8) (d := 96) (v := (.slice (some ⟨bi, 0, none⟩) n n)) rfl rfl (by kernel_rfl) (by kernel_rfl) (by kernel_rfl) (fun _ _ _ h => h) (by kernel_rfl) (fun w hSw => by (obtain ⟨hS1, hS2⟩ := hSw); go_simp) hHeld ?_
                      try simp only [List.setIfInBounds_toArray, List.set_cons_zero, List.set_cons_succ]
                      refine held_take (i := 9) (d := 97) (v := (.int .i64 (j : Int))) rfl rfl (by kernel_rfl) (by kernel_rfl) (by kernel_rfl) (fun _ _ _ h => h) (by kernel_rfl) (fun w hSw => by (obtain ⟨hS1, hS2⟩ := hSw); go_simp) hHeld ?_
                      try simp only [List.setIfInBounds_toArray, List.set_cons_zero, List.set_cons_succ]
                      refine held_take (i := 10) (d := 98) (v := (.pointer (some ⟨bi, j, none⟩))) rfl rfl (by kernel_rfl) (by kernel_rfl) (by kernel_rfl) (fun _ _ _ h => h) (by kernel_rfl) (fun w hSw => by (obtain ⟨hS1, hS2⟩ := hSw); go_simp) hHeld ?_
                      try simp only [List.setIfInBounds_toArray, List.set_cons_zero, List.set_cons_succ]
                      refine wpAnyH_ready (rs := [11]) (by kernel_rfl) (by simp) ?_
                      refine AllReadyH.cons rfl (fun K hK => ?_) AllReadyH.nil
                      go_simp
                      skip
                      refine hK.out _ _ (by first | (with_reducible exact HS0.out) | (with_reducible exact HS1.out)) (fun hHeld => ?_)
                      clear hK K
                      refine held_take (i := 12) (d := 100) (v := (.bool true)) rfl rfl (by kernel_rfl) (by kernel_rfl) (by kernel_rfl) (fun _ _ _ h => h) (by kernel_rfl) (fun w hSw => by (obtain ⟨hS1, hS2⟩ := hSw); go_simp) hHeld ?_
                      try simp only [List.setIfInBounds_toArray, List.set_cons_zero, List.set_cons_succ]
                      refine held_skip (i := 13) (d := 101) rfl rfl (by kernel_rfl) (by kernel_rfl) (by kernel_rfl) (fun _ _ _ h => h) (by kernel_rfl) hHeld ?_
                      try simp only [List.setIfInBounds_toArray, List.set_cons_zero, List.set_cons_succ]
                      refine held_skip (i := 14) (d := 102) rfl rfl (by kernel_rfl) (by kernel_rfl) (by kernel_rfl) (fun _ _ _ h => h) (by kernel_rfl) hHeld ?_
                      try simp only [List.setIfInBounds_toArray, List.set_cons_zero, List.set_cons_succ]
                      refine held_skip (i := 15) (d := 103) rfl rfl (by kernel_rfl) (by kernel_rfl) (by kernel_rfl) (fun _ _ _ h => h) (by kernel_rfl) hHeld ?_
                      try simp only [List.setIfInBounds_toArray, List.set_cons_zero, List.set_cons_succ]
                      refine held_skip (i := 16) (d := 104) rfl rfl (by kernel_rfl) (by kernel_rfl) (by kernel_rfl) (fun _ _ _ h => h) (by kernel_rfl) hHeld ?_
                      try simp only [List.setIfInBounds_toArray, List.set_cons_zero, List.set_cons_succ]
                      refine held_skip (i := 17) (d := 105) rfl rfl (by kernel_rfl) (by kernel_rfl) (by kernel_rfl) (fun _ _ _ h => h) (by kernel_rfl) hHeld ?_
                      try simp only [List.setIfInBounds_toArray, List.set_cons_zero, List.set_cons_succ]
                      refine held_skip (i := 18) (d := 106) rfl rfl (by kernel_rfl) (by kernel_rfl) (by kernel_rfl) (fun _ _ _ h => h) (by kernel_rfl) hHeld ?_
                      try simp only [List.setIfInBounds_toArray, List.set_cons_zero, List.set_cons_succ]
                      refine held_skip (i := 19) (d := 107) rfl rfl (by kernel_rfl) (by kernel_rfl) (by kernel_rfl) (fun _ _ _ h => h) (by kernel_rfl) hHeld ?_
                      try simp only [List.setIfInBounds_toArray, List.set_cons_zero, List.set_cons_succ]
                      refine held_take (i := 20) (d := 108) (v := (.bool true)) rfl rfl (by kernel_rfl) (by kernel_rfl) (by kernel_rfl) (fun _ _ _ h => h) (by kernel_rfl) (fun w hSw => by (obtain ⟨hS1, hS2⟩ := hSw); go_simp) hHeld ?_
                      try simp only [List.setIfInBounds_toArray, List.set_cons_zero, List.set_cons_succ]
                      refine held_take (i := 21) (d := 109) (v := (.pointer (some ⟨bi, j, none⟩))) rfl rfl (by kernel_rfl) (by kernel_rfl) (by kernel_rfl) (fun _ _ _ h => h) (by kernel_rfl) (fun w hSw => by (obtain ⟨hS1, hS2⟩ := hSw); go_simp) hHeld ?_
                      try simp only [List.setIfInBounds_toArray, List.set_cons_zero, List.set_cons_succ]
                      refine wpAnyH_ready (rs := [22]) (by kernel_rfl) (by simp) ?_
                      refine AllReadyH.cons rfl (fun K hK => ?_) AllReadyH.nil
                      go_simp
                      skip
                      refine hK.out _ _ (by first | (with_reducible exact HS0.out) | (with_reducible exact HS1.out)) (fun hHeld => ?_)
                      clear hK K
                      refine wpAnyH_done (by kernel_rfl) ?_ _
                      go_wp2_with fail
                      go_roundw
                      case rel => simpa using HFI.out
                      case measure =>
                        simp [intOf]
                        omega
                    | false =>
                      simp only [Bool.false_or] at HFI HS1
                      go_upto_region 23 with fail
                      refine wp_region_held_drew (S := (fun w' => w'.cell? ⟨G, o + i, none⟩ = some (.slice (some ⟨bi, 0, none⟩) n n) ∧ w'.cell? ⟨G, o + k, none⟩ = some (.slice (some ⟨bk, 0, none⟩) n n))) (by kernel_rfl) (by first | (with_reducible exact HS0.out) | (with_reducible exact HS1.out)) (fun hHeld => ?_)
                      refine held_take (i := 0) (d := 88) (v := (.slice (some ⟨G, o, none⟩) n c4)) rfl rfl (by kernel_rfl) (by kernel_rfl) (by kernel_rfl) (fun _ _ _ h => h) (by kernel_rfl) (fun w hSw => by (obtain ⟨hS1, hS2⟩ := hSw); go_simp) hHeld ?_
                      try simp only [List.setIfInBounds_toArray, List.set_cons_zero, List.set_cons_succ]
                      refine held_take (i := 1) (d := 89) (v := (.int .i64 (i : Int))) rfl rfl (by kernel_rfl) (by kernel_rfl) (by kernel_rfl) (fun _ _ _ h => h) (by kernel_rfl) (fun w hSw => by (obtain ⟨hS1, hS2⟩ := hSw); go_simp) hHeld ?_
                      try simp only [List.setIfInBounds_toArray, List.set_cons_zero, List.set_cons_succ]
                      refine held_take (i := 2) (d := 90) (v := (.pointer (some ⟨G, o + i, none⟩))) rfl rfl (by kernel_rfl) (by kernel_rfl) (by kernel_rfl) (fun _ _ _ h => h) (by kernel_rfl) (fun w hSw => by (obtain ⟨hS1, hS2⟩ := hSw); go_simp) hHeld ?_
                      try simp only [List.setIfInBounds_toArray, List.set_cons_zero, List.set_cons_succ]
                      refine held_take (i := 3) (d := 91) (v := (.slice (some ⟨bi, 0, none⟩) n n)) rfl rfl (by kernel_rfl) (by kernel_rfl) (by kernel_rfl) (fun _ _ _ h => h) (by kernel_rfl) (fun w hSw => by (obtain ⟨hS1, hS2⟩ := hSw); go_simp) hHeld ?_
                      try simp only [List.setIfInBounds_toArray, List.set_cons_zero, List.set_cons_succ]
                      refine held_take (i := 4) (d := 92) (v := (.int .i64 (j : Int))) rfl rfl (by kernel_rfl) (by kernel_rfl) (by kernel_rfl) (fun _ _ _ h => h) (by kernel_rfl) (fun w hSw => by (obtain ⟨hS1, hS2⟩ := hSw); go_simp) hHeld ?_
                      try simp only [List.setIfInBounds_toArray, List.set_cons_zero, List.set_cons_succ]
                      refine held_take (i := 5) (d := 93) (v := (.slice (some ⟨G, o, none⟩) n c4)) rfl rfl (by kernel_rfl) (by kernel_rfl) (by kernel_rfl) (fun _ _ _ h => h) (by kernel_rfl) (fun w hSw => by (obtain ⟨hS1, hS2⟩ := hSw); go_simp) hHeld ?_
                      try simp only [List.setIfInBounds_toArray, List.set_cons_zero, List.set_cons_succ]
                      refine held_take (i := 6) (d := 94) (v := (.int .i64 (i : Int))) rfl rfl (by kernel_rfl) (by kernel_rfl) (by kernel_rfl) (fun _ _ _ h => h) (by kernel_rfl) (fun w hSw => by (obtain ⟨hS1, hS2⟩ := hSw); go_simp) hHeld ?_
                      try simp only [List.setIfInBounds_toArray, List.set_cons_zero, List.set_cons_succ]
                      refine held_take (i := 7) (d := 95) (v := (.pointer (some ⟨G, o + i, none⟩))) rfl rfl (by kernel_rfl) (by kernel_rfl) (by kernel_rfl) (fun _ _ _ h => h) (by kernel_rfl) (fun w hSw => by (obtain ⟨hS1, hS2⟩ := hSw); go_simp) hHeld ?_
                      try simp only [List.setIfInBounds_toArray, List.set_cons_zero, List.set_cons_succ]
                      refine held_take (i := 8) (d := 96) (v := (.slice (some ⟨bi, 0, none⟩) n n)) rfl rfl (by kernel_rfl) (by kernel_rfl) (by kernel_rfl) (fun _ _ _ h => h) (by kernel_rfl) (fun w hSw => by (obtain ⟨hS1, hS2⟩ := hSw); go_simp) hHeld ?_
                      try simp only [List.setIfInBounds_toArray, List.set_cons_zero, List.set_cons_succ]
                      refine held_take (i := 9) (d := 97) (v := (.int .i64 (j : Int))) rfl rfl (by kernel_rfl) (by kernel_rfl) (by kernel_rfl) (fun _ _ _ h => h) (by kernel_rfl) (fun w hSw => by (obtain ⟨hS1, hS2⟩ := hSw); go_simp) hHeld ?_
                      try simp only [List.setIfInBounds_toArray, List.set_cons_zero, List.set_cons_succ]
                      refine held_take (i := 10) (d := 98) (v := (.pointer (some ⟨bi, j, none⟩))) rfl rfl (by kernel_rfl) (by kernel_rfl) (by kernel_rfl) (fun _ _ _ h => h) (by kernel_rfl) (fun w hSw => by (obtain ⟨hS1, hS2⟩ := hSw); go_simp) hHeld ?_
                      try simp only [List.setIfInBounds_toArray, List.set_cons_zero, List.set_cons_succ]
                      refine wpAnyH_ready (rs := [11]) (by kernel_rfl) (by simp) ?_
                      refine AllReadyH.cons rfl (fun K hK => ?_) AllReadyH.nil
                      go_simp
                      skip
                      refine hK.out _ _ (by first | (with_reducible exact HS0.out) | (with_reducible exact HS1.out)) (fun hHeld => ?_)
                      clear hK K
                      refine held_take (i := 12) (d := 100) (v := (.bool false)) rfl rfl (by kernel_rfl) (by kernel_rfl) (by kernel_rfl) (fun _ _ _ h => h) (by kernel_rfl) (fun w hSw => by (obtain ⟨hS1, hS2⟩ := hSw); go_simp) hHeld ?_
                      try simp only [List.setIfInBounds_toArray, List.set_cons_zero, List.set_cons_succ]
                      refine held_take (i := 13) (d := 101) (v := (.slice (some ⟨G, o, none⟩) n c4)) rfl rfl (by kernel_rfl) (by kernel_rfl) (by kernel_rfl) (fun _ _ _ h => h) (by kernel_rfl) (fun w hSw => by (obtain ⟨hS1, hS2⟩ := hSw); go_simp) hHeld ?_
                      try simp only [List.setIfInBounds_toArray, List.set_cons_zero, List.set_cons_succ]
                      refine held_take (i := 14) (d := 102) (v := (.int .i64 (k : Int))) rfl rfl (by kernel_rfl) (by kernel_rfl) (by kernel_rfl) (fun _ _ _ h => h) (by kernel_rfl) (fun w hSw => by (obtain ⟨hS1, hS2⟩ := hSw); go_simp) hHeld ?_
                      try simp only [List.setIfInBounds_toArray, List.set_cons_zero, List.set_cons_succ]
                      refine held_take (i := 15) (d := 103) (v := (.pointer (some ⟨G, o + k, none⟩))) rfl rfl (by kernel_rfl) (by kernel_rfl) (by kernel_rfl) (fun _ _ _ h => h) (by kernel_rfl) (fun w hSw => by (obtain ⟨hS1, hS2⟩ := hSw); go_simp) hHeld ?_
                      try simp only [List.setIfInBounds_toArray, List.set_cons_zero, List.set_cons_succ]
                      refine held_take (i := 16) (d := 104) (v := (.slice (some ⟨bk, 0, none⟩) n n)) rfl rfl (by kernel_rfl) (by kernel_rfl) (by kernel_rfl) (fun _ _ _ h => h) (by kernel_rfl) (fun w hSw => by (obtain ⟨hS1, hS2⟩ := hSw); go_simp) hHeld ?_
                      try simp only [List.setIfInBounds_toArray, List.set_cons_zero, List.set_cons_succ]
                      refine held_take (i := 17) (d := 105) (v := (.int .i64 (j : Int))) rfl rfl (by kernel_rfl) (by kernel_rfl) (by kernel_rfl) (fun _ _ _ h => h) (by kernel_rfl) (fun w hSw => by (obtain ⟨hS1, hS2⟩ := hSw); go_simp) hHeld ?_
                      try simp only [List.setIfInBounds_toArray, List.set_cons_zero, List.set_cons_succ]
                      refine held_take (i := 18) (d := 106) (v := (.pointer (some ⟨bk, j, none⟩))) rfl rfl (by kernel_rfl) (by kernel_rfl) (by kernel_rfl) (fun _ _ _ h => h) (by kernel_rfl) (fun w hSw => by (obtain ⟨hS1, hS2⟩ := hSw); go_simp) hHeld ?_
                      try simp only [List.setIfInBounds_toArray, List.set_cons_zero, List.set_cons_succ]
                      refine wpAnyH_ready (rs := [19]) (by kernel_rfl) (by simp) ?_
                      refine AllReadyH.cons rfl (fun K hK => ?_) AllReadyH.nil
                      go_simp
                      skip
                      refine hK.out _ _ (by first | (with_reducible exact HS0.out) | (with_reducible exact HS1.out)) (fun hHeld => ?_)
                      clear hK K
                      refine held_take (i := 20) (d := 108) (v := (.bool fkj)) rfl rfl (by kernel_rfl) (by kernel_rfl) (by kernel_rfl) (fun _ _ _ h => h) (by kernel_rfl) (fun w hSw => by (obtain ⟨hS1, hS2⟩ := hSw); go_simp) hHeld ?_
                      try simp only [List.setIfInBounds_toArray, List.set_cons_zero, List.set_cons_succ]
                      refine held_take (i := 21) (d := 109) (v := (.pointer (some ⟨bi, j, none⟩))) rfl rfl (by kernel_rfl) (by kernel_rfl) (by kernel_rfl) (fun _ _ _ h => h) (by kernel_rfl) (fun w hSw => by (obtain ⟨hS1, hS2⟩ := hSw); go_simp) hHeld ?_
                      try simp only [List.setIfInBounds_toArray, List.set_cons_zero, List.set_cons_succ]
                      refine wpAnyH_ready (rs := [22]) (by kernel_rfl) (by simp) ?_
                      refine AllReadyH.cons rfl (fun K hK => ?_) AllReadyH.nil
                      go_simp
                      skip
                      refine hK.out _ _ (by first | (with_reducible exact HS0.out) | (with_reducible exact HS1.out)) (fun hHeld => ?_)
                      clear hK K
                      refine wpAnyH_done (by kernel_rfl) ?_ _
                      go_wp2_with fail
                      go_roundw
                      case rel => simpa using HFI.out
                      case measure =>
                        simp [intOf]
                        omega
                · have hjn' : n = j := by omega
                  have HFI := Lib.hid (show WbRel f k n w A4 c4 bs (.int .i64 ((i + 1 : Nat) : Int)) wj from ⟨i + 1, rfl, by omega, hmj.congr fun a b _ hb => mix_end (by omega), hbj⟩)
                  clear hmj hbj
                  go_wp2_with fail
                  go_roundw
                  case rel => simpa using HFI.out
                  case measure =>
                    simp [intOf]
                    omega
            · have hin' : n = i := by omega
              have HFI := Lib.hid (show WaRel e n w A4 c4 bs (.int .i64 ((k + 1 : Nat) : Int)) wi from ⟨k + 1, rfl, by omega, hmi.congr fun a b ha _ => by
                unfold mixI
                rw [if_pos (by omega), ← HF.out]
                rfl, hbi⟩)
              clear hmi hbi
              go_wp2_with fail
              go_roundw
              case rel => simpa using HFI.out
              case measure =>
                simp [intOf]
                omega
        · have hkn : k = n := by omega
          subst hkn
          have HFI := Lib.hid (show Table w e k (.returned (.slice A4 k c4)) wk from ⟨A4, c4, bs, rfl, by unfold lead; rw [hln]; exact hmb, hbw⟩)
          clear hmb hbw
          go_wp2_with fail
          go_ret
          exact HFI.out
end Go.Proofs.Ytpalmnjapiijaaa.Gr
