/-
  Texts of earlier layers, as one.
-/
import Derived.Test.YtpalmnjapiijaaaCompReach
/- The document's answer to what a node leads to. -/
namespace Go.Proofs.Ytpalmnjapiijaaa.Gr
open Go.RowKit Mem Dsk

theorem info_int : (Try.prog.info? 3).map (fun i => (i.zero, i.size, i.bytes)) = some (some (.int .i64 0), 1, 8) := by kernel_rfl
def toZ (l : List Nat) : List Int := l.map Int.ofNat
theorem toZ_length (l : List Nat) : (toZ l).length = l.length := List.length_map ..
theorem toZ_append (a b : List Nat) : toZ (a ++ b) = toZ a ++ toZ b := List.map_append ..
theorem filter_snoc (p : Nat → Bool) (k : Nat) : (List.range (k + 1)).filter p = (List.range k).filter p ++ if p k = true then [k] else [] := by
  rw [List.range_succ, List.filter_append]
  cases h : p k <;> simp [h]
theorem own_base {w : World} {b b' : Nat} {e : TypeId} {size : Nat} {v : Value} {n : Nat} {xs : List Value} (h : w.ownsRow b e size v n xs) (hb : b' ≤ b) : w.ownsRow b' e size v n xs := by
  refine ⟨h.1, ?_⟩
  rcases h.2 with h | ⟨g, cap, cur, hv, hg, r⟩
  · exact .inl h
  · exact .inr ⟨g, cap, cur, hv, by omega, r⟩
/-- A new row of integers. -/
def NewInts (w : World) (L : List Int) (x : Ending) (w' : World) : Prop := ∃ V c', x = .returned (.slice V L.length c') ∧ w'.ownsRow w.heap.size 3 LN.s (.slice V L.length c') L.length (LN.flat L) ∧ Below w.heap.size w w'
/-- The nodes that one leads to, if there is such a node. -/
def leadsZ (e : Graph) (v : Int) : List Int := if 0 ≤ v ∧ v < e.length then toZ (leads e v.toNat) else []
def LdRel (e : Graph) (v n B : Nat) (w : World) (v5 v7 : Value) (wr : World) : Prop := ∃ (k m : Nat) (V : Option Addr) (c' : Nat), v5 = .slice V m c' ∧ v7 = .int .i64 (k : Int) ∧ k ≤ n ∧ ((List.range k).filter (lead e v)).length = m ∧ m ≤ k ∧
  wr.ownsRow B 3 LN.s (.slice V m c') m (LN.flat (toZ ((List.range k).filter (lead e v)))) ∧ Below w.heap.size w wr
set_option maxRecDepth 20000 in
set_option maxHeartbeats 8000000 in
theorem refleads_any {A : Option Addr} {n c : Nat} {e : Graph} (v : Int) (w : World) (h : Mat w A n c e) (hn : n ≤ 1000000) : Calls Try.prog 14 #[.slice A n c, .int .i64 v] w (NewInts w (leadsZ e v)) := by
  have hln := h.len
  have HR := Lib.hid (reach_any w h hn)
  clear h
  obtain ⟨L, hL⟩ : ∃ L, leadsZ e v = L := ⟨_, rfl⟩
  rw [hL]
  have HL := Lib.hid hL
  clear hL
  go_enter Try.func14, Try.ntmps14
  by_cases h0 : v < 0
  · have hno : NewInts w L (.returned (.slice none 0 0)) w := by
      have : L = [] := by rw [← HL.out]; unfold leadsZ; rw [if_neg (by omega)]
      rw [this]
      exact ⟨none, 0, rfl, ⟨rfl, .inl ⟨rfl, rfl⟩⟩, Below.refl _ _⟩
    have HN := Lib.hid hno
    clear hno
    go_wp2_with fail
    go_ret
    exact HN.out
  · by_cases h1 : (n : Int) ≤ v
    · have hno : NewInts w L (.returned (.slice none 0 0)) w := by
        have : L = [] := by rw [← HL.out]; unfold leadsZ; rw [if_neg (by omega)]
        rw [this]
        exact ⟨none, 0, rfl, ⟨rfl, .inl ⟨rfl, rfl⟩⟩, Below.refl _ _⟩
      have HN := Lib.hid hno
      clear hno
      go_wp2_with fail
      go_ret
      exact HN.out
    · obtain ⟨x, rfl⟩ := Int.eq_ofNat_of_zero_le (show 0 ≤ v by omega)
      have hx : x < n := by omega
      have hLx : L = toZ (leads e x) := by
        rw [← HL.out]
        unfold leadsZ
        rw [if_pos (by omega)]
        rfl
      have HLX := Lib.hid hLx
      clear h0 h1 hLx
      have hx0 : ¬ ((x : Int) < 0) := by omega
      have hxn : ¬ ((n : Int) ≤ (x : Int)) := by omega
      go_wp2_with fail
      (with_reducible refine HR.out.mono ?_)
      rintro r u1 ⟨A6, c6, bs, rfl, hmb, hb1⟩
      have HMB := Lib.hid (And.intro hmb hb1)
      clear hmb hb1 HR
      go_wp2_with fail
      go_loopw [5, 7] (LdRel e x n u1.heap.size u1) (fun _ v _ => n - (intOf v).toNat)
      case atStart => exact ⟨0, 0, none, 0, rfl, rfl, Nat.zero_le _, rfl, Nat.le_refl _, ⟨rfl, .inl ⟨rfl, rfl⟩⟩, Below.refl _ _⟩
      case round =>
        obtain ⟨k, m, V, c', rfl, rfl, hk, hm, hmk, hown, hbr⟩ := hrel
        by_cases hlt : k < n
        · obtain ⟨G, o, b, rfl, hb, q1, q2⟩ := (HMB.out.1.below hbr).at_ hx
          have q3 := q2.cell hlt
          have HX := Lib.hid (And.intro hm (And.intro hown hbr))
          clear hm hown hbr hb q2
          have hsn := filter_snoc (lead e x) k
          obtain ⟨t, ht⟩ : ∃ t, lead e x k = t := ⟨_, rfl⟩
          rw [ht] at q3 hsn
          cases t with
          | false =>
            have HFI := Lib.hid (show LdRel e x n u1.heap.size u1 (.slice V m c') (.int .i64 ((k + 1 : Nat) : Int)) wr from by
              rw [if_neg (by simp), List.append_nil] at hsn
              exact ⟨k + 1, m, V, c', rfl, rfl, by omega, by rw [hsn]; exact HX.out.1, by omega, by rw [hsn]; exact HX.out.2.1, HX.out.2.2⟩)
            clear hsn ht
            go_wp2_with fail
            go_roundw
            case rel => simpa using HFI.out
            case measure =>
              simp [intOf]
              omega
          | true =>
            rw [if_pos rfl] at hsn
            have hbl : Below wr.heap.size wr (wr.alloc (.cells #[.int .i64 (k : Int)] 3)) := bel_alloc (Below.refl _ _) _
            have hlit : Rw LN (wr.alloc (.cells #[.int .i64 (k : Int)] 3)) (some ⟨wr.heap.size, 0, none⟩) 1 1 [(k : Int)] := Rw.lit (L := LN) wr (k : Int) 3
            obtain ⟨i0, hi, hz0, hz1, hz2⟩ := info_parts info_int
            have hsz := hbl.size
            have hs1 := HX.out.2.2.size
            obtain ⟨V1, c1x, u3, hrun, hown, hgrw, hloc⟩ := run_append_rw (L := LN) (ty := 27) (bytes := 8) Try.underlying27 hi hz0 hz1 hz2 rfl (ownsRow_below HX.out.2.1 hbl) hlit (by unfold maxLen; omega) (by omega) (by omega)
            have HFI := Lib.hid (show LdRel e x n u1.heap.size u1 (.slice V1 (m + 1) c1x) (.int .i64 ((k + 1 : Nat) : Int)) u3 from ⟨k + 1, m + 1, V1, c1x, rfl, rfl, by omega, by rw [hsn, List.length_append, HX.out.1]; rfl, by omega, by
              rw [hsn, toZ_append]
              exact hown, (bel_trans HX.out.2.2 hbl).grown hgrw (by omega) fun j e => (HX.out.2.1.lt j e).1⟩)
            have HRUN := Lib.hid hrun
            clear hbl hlit hi hz0 hz1 hz2 hsz hs1 hrun hown hgrw hloc hsn ht
            go_wp2_with (at_builtin; refine wpList_append_row rfl (.tmp 32) (.tmp 34) rfl HRUN.out ?_)
            go_roundw
            case rel => simpa using HFI.out
            case measure =>
              simp [intOf]
              omega
        · have hkn : k = n := by omega
          have hsz := HMB.out.2.size
          have hfin : NewInts w L (.returned (.slice V m c')) wr := by
            have e1 : (toZ ((List.range k).filter (lead e x))) = L := by rw [HLX.out, hkn, ← hln]; rfl
            rw [e1] at hown
            have e2 : L.length = m := by rw [← e1, toZ_length, hm]
            refine ⟨V, c', by rw [e2], ?_, bel_trans HMB.out.2 hbr⟩
            rw [e2]
            exact own_base hown hsz
          have HFI := Lib.hid hfin
          clear hm hown hbr hfin
          subst hkn
          go_wp2_with fail
          go_ret
          exact HFI.out
end Go.Proofs.Ytpalmnjapiijaaa.Gr
