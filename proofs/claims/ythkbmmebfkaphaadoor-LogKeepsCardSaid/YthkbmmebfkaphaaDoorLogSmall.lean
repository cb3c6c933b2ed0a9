/-
  Texts of earlier layers, as one.
-/
import Derived.Test.YthkbmmebfkaphaaDoorLogScan
import Derived.StillTailTactics
/- The document's small answers that the laws ask: Great, SameAll; plain facts of them. -/
namespace Go.Proofs.YthkbmmebfkaphaaDoor.Lg
open Go.RowKit Mem

/-- Are there more records, or longer ones, than are looked at? -/
def great (l : List (List Nat)) : Bool := (l.take 10).any (fun p => decide (100 < p.length)) || decide (10 < l.length)
theorem great_no {l : List (List Nat)} (h : great l = false) : l.length ≤ 10 ∧ ∀ p ∈ l, p.length ≤ 100 := by
  unfold great at h
  rw [Bool.or_eq_false_iff] at h
  have h2 := of_decide_eq_false h.2
  refine ⟨by omega, fun p hp => ?_⟩
  rw [List.take_of_length_le (by omega)] at h
  have h1 := List.any_eq_false.1 h.1 p hp
  simp at h1
  omega
def GreatRel (w : World) (n : Nat) (l : List (List Nat)) (i : Value) (wr : World) : Prop := ∃ k : Nat, k ≤ n ∧ k ≤ 10 ∧ i = .int .i64 (k : Int) ∧ (l.take k).any (fun p => decide (100 < p.length)) = false ∧ wr = w
set_option maxRecDepth 20000 in
set_option maxHeartbeats 2000000 in
theorem great_any (A : Option Addr) (n c : Nat) (ps : List Cr.Part) (w : World) (hm : Cr.Mat w A n c ps) :
    Calls Tryd.prog 6 #[.slice A n c, .int .i64 10, .int .i64 100] w (fun e w' => e = .returned (.bool (great (ps.map (·.bs)))) ∧ w' = w) := by
  have lx := hm.row.len
  rw [List.length_map] at lx
  have bx := hm.row.le
  have cx := hm.row.cap
  unfold maxLen at cx
  have LX := Lib.hid lx
  have HM := Lib.hid hm
  clear lx hm
  go_enter Tryd.func6, Tryd.ntmps6
  go_wp2_with fail
  go_loopw [7] (GreatRel w n (ps.map (·.bs))) (fun i _ => n - (intOf i).toNat)
  case atStart => exact ⟨0, Nat.zero_le _, Nat.zero_le _, rfl, rfl, rfl⟩
  case round =>
    obtain ⟨k, hk, hk10, rfl, hno, rfl⟩ := hrel
    have HNO := Lib.hid hno
    clear hno
    by_cases hlt : k < n
    · have b1 : decide ((k : Int) < (n : Int)) = true := decide_eq_true (by omega)
      by_cases h10 : k < 10
      · have b2 : decide ((k : Int) < 10) = true := decide_eq_true (by omega)
        obtain ⟨ad, u, rfl, _, hx, hc⟩ := HM.out.row.at_ hlt
        rw [List.getElem?_map, Option.map_eq_some_iff] at hx
        obtain ⟨p, hp, rfl⟩ := hx
        have hpl := (HM.out.part p (List.mem_of_getElem? hp)).1.len
        rw [length_cs] at hpl
        have hnx : ((ps.map (·.bs)).take (k + 1)).any (fun p => decide (100 < p.length)) = decide (100 < p.n) := by
          rw [List.take_add_one, List.getElem?_map, hp, List.any_append, HNO.out]
          simp [hpl]
        unfold Cr.pv at hc
        by_cases hg : 100 < p.n
        · have b3 : decide ((100 : Int) < (p.n : Int)) = true := decide_eq_true (by omega)
          have hgr : great (ps.map (·.bs)) = true := by
            unfold great
            rw [Bool.or_eq_true]
            left
            rw [decide_eq_true hg] at hnx
            obtain ⟨q, hq, hq2⟩ := List.any_eq_true.1 hnx
            exact List.any_eq_true.2 ⟨q, List.take_subset_take_left _ (by omega) hq, hq2⟩
          have HG := Lib.hid hgr
          clear hgr hnx
          go_wp2_with fail
          go_ret
          exact ⟨by rw [HG.out]; rfl, rfl⟩
        · have b3 : decide ((100 : Int) < (p.n : Int)) = false := decide_eq_false (by omega)
          rw [decide_eq_false hg] at hnx
          have HNX := Lib.hid hnx
          clear hnx
          go_wp2_with fail
          exact ⟨⟨k + 1, by omega, by omega, by simp, HNX.out, rfl⟩, by simp [intOf]; omega⟩
      · have b2 : decide ((k : Int) < 10) = false := decide_eq_false (by omega)
        obtain rfl : k = 10 := by omega
        have b3 : decide ((10 : Int) < (n : Int)) = true := decide_eq_true (by omega)
        have hgr : great (ps.map (·.bs)) = true := by
          unfold great
          rw [List.length_map, LX.out, decide_eq_true hlt, Bool.or_true]
        have HG := Lib.hid hgr
        clear hgr
        go_wp2_with fail
        go_ret
        exact ⟨by rw [HG.out]; rfl, rfl⟩
    · obtain rfl : k = n := by omega
      have b1 : decide ((k : Int) < (k : Int)) = false := decide_eq_false (by omega)
      have b3 : decide ((10 : Int) < (k : Int)) = false := decide_eq_false (by omega)
      have hgr : great (ps.map (·.bs)) = false := by
        unfold great
        rw [List.length_map, LX.out, Bool.or_eq_false_iff]
        refine ⟨?_, decide_eq_false (by omega)⟩
        have h := HNO.out
        rw [List.take_of_length_le (by rw [List.length_map, LX.out]; exact Nat.le_refl _)] at h
        rw [List.take_of_length_le (by rw [List.length_map, LX.out]; omega)]
        exact h
      have HG := Lib.hid hgr
      clear hgr
      go_wp2_with fail
      go_ret
      exact ⟨by rw [HG.out]; rfl, rfl⟩
def SameRel (w : World) (n : Nat) (l m : List (List Nat)) (i : Value) (wr : World) : Prop := ∃ k : Nat, k ≤ n ∧ i = .int .i64 (k : Int) ∧ l.take k = m.take k ∧ ∃ q, wr = w.drewN q
theorem part_take {α : Type} {xs ys : List α} {k : Nat} {a b : α} [DecidableEq α] (hx : xs[k]? = some a) (hy : ys[k]? = some b) (h : a ≠ b) : xs ≠ ys := by
  rintro rfl
  rw [hx] at hy
  injection hy with hy
  exact h hy
theorem mat_drewN {w : World} {A : Option Addr} {n c : Nat} {ps : List Cr.Part} (h : Cr.Mat w A n c ps) (q : Nat) : Cr.Mat (w.drewN q) A n c ps := ⟨h.row.drewN q, fun p hp => ⟨(h.part p hp).1.drewN q, (h.part p hp).2⟩⟩
set_option maxRecDepth 20000 in
set_option maxHeartbeats 2000000 in
theorem sameall_any (A : Option Addr) (n c : Nat) (ps : List Cr.Part) (B : Option Addr) (m d : Nat) (qs : List Cr.Part) (w : World) (hm : Cr.Mat w A n c ps) (hq : Cr.Mat w B m d qs) :
    Calls Tryd.prog 14 #[.slice A n c, .slice B m d] w (Says (decide (ps.map (·.bs) = qs.map (·.bs))) w) := by
  have lx := hm.row.len
  rw [List.length_map] at lx
  have bx := hm.row.le
  have cx := hm.row.cap
  unfold maxLen at cx
  have ly := hq.row.len
  rw [List.length_map] at ly
  have LX := Lib.hid (And.intro lx ly)
  have HM := Lib.hid hm
  have HQ := Lib.hid hq
  clear lx ly hm hq
  go_enter Tryd.func14, Tryd.ntmps14
  by_cases hnm : n = m
  · subst hnm
    go_wp2_with fail
    go_loopw [5] (SameRel w n (ps.map (·.bs)) (qs.map (·.bs))) (fun i _ => n - (intOf i).toNat)
    case atStart => exact ⟨0, Nat.zero_le _, rfl, rfl, 0, rfl⟩
    case round =>
      obtain ⟨k, hk, rfl, htk, q, rfl⟩ := hrel
      by_cases hlt : k < n
      · obtain ⟨ad, u, rfl, _, hx, hc⟩ := HM.out.row.at_ hlt
        obtain ⟨ae, v, rfl, _, hy, hd⟩ := HQ.out.row.at_ hlt
        rw [List.getElem?_map, Option.map_eq_some_iff] at hx hy
        obtain ⟨p1, hp1, rfl⟩ := hx
        obtain ⟨q1, hq1, rfl⟩ := hy
        have hr1 := (HM.out.part p1 (List.mem_of_getElem? hp1)).1
        have hr2 := (HQ.out.part q1 (List.mem_of_getElem? hq1)).1
        have hsm := fun u => same_any p1.A q1.A p1.n q1.n p1.c q1.c p1.bs q1.bs (w.drewN u) (hr1.drewN u) (hr2.drewN u)
        have hsm2 : Calls Tryd.prog 18 #[.slice p1.A p1.n p1.c, .slice q1.A q1.n q1.c] (w.drewN q).drew (Says (decide (p1.bs = q1.bs)) (w.drewN (q + 1))) := hsm (q + 1)
        have HTK := Lib.hid htk
        have HSM := Lib.hid hsm2
        have hn1 : (ps.map (·.bs))[k]? = some p1.bs := by rw [List.getElem?_map, hp1]; rfl
        have hn2 : (qs.map (·.bs))[k]? = some q1.bs := by rw [List.getElem?_map, hq1]; rfl
        have HP := Lib.hid (And.intro hn1 hn2)
        unfold Cr.pv at hc hd
        have hc' : (w.drewN q).cell? (ad.add k) = some (.slice p1.A p1.n p1.c) := hc
        have hd' : (w.drewN q).cell? (ae.add k) = some (.slice q1.A q1.n q1.c) := hd
        clear htk hsm hsm2 hp1 hq1 hr1 hr2 hn1 hn2 hc hd
        obtain ⟨wq, hwq⟩ : ∃ wq, w.drewN q = wq := ⟨_, rfl⟩
        rw [hwq] at hc' hd' HSM
        have HWQ := Lib.hid hwq
        rw [hwq]
        clear hwq
        by_cases hpq : p1.bs = q1.bs
        · have hnx : (ps.map (·.bs)).take (k + 1) = (qs.map (·.bs)).take (k + 1) := by rw [List.take_add_one, List.take_add_one, HTK.out, HP.out.1, HP.out.2, hpq]
          have HNX := Lib.hid hnx
          rw [decide_eq_true hpq] at HSM
          clear hnx hpq
          go_wp2_with fail
          go_still_tail 8, (by kernel_rfl)
          change wpList _ _ _ _ _ wq.drew
          go_wp2_with fail
          refine HSM.out.mono ?_
          rintro e w1 ⟨rfl, q2, rfl⟩
          go_wp2_with fail
          exact ⟨⟨k + 1, by omega, by simp, HNX.out, q + 1 + q2, rfl⟩, by simp [intOf]; omega⟩
        · have hne : decide (ps.map (·.bs) = qs.map (·.bs)) = false := decide_eq_false (part_take HP.out.1 HP.out.2 hpq)
          have HNE := Lib.hid hne
          rw [decide_eq_false hpq] at HSM
          clear hne hpq
          go_wp2_with fail
          go_still_tail 8, (by kernel_rfl)
          change wpList _ _ _ _ _ wq.drew
          go_wp2_with fail
          refine HSM.out.mono ?_
          rintro e w1 ⟨rfl, q2, rfl⟩
          go_wp2_with fail
          go_ret
          exact ⟨by rw [HNE.out]; rfl, q + 1 + q2, rfl⟩
      · obtain rfl : k = n := by omega
        have hall : decide (ps.map (·.bs) = qs.map (·.bs)) = true := by
          rw [List.take_of_length_le (by rw [List.length_map, LX.out.1]; exact Nat.le_refl _), List.take_of_length_le (by rw [List.length_map, LX.out.2]; exact Nat.le_refl _)] at htk
          exact decide_eq_true htk
        have HA := Lib.hid hall
        clear hall htk
        go_wp2_with fail
        go_ret
        exact ⟨by rw [HA.out]; rfl, q, rfl⟩
  · have hne : decide (ps.map (·.bs) = qs.map (·.bs)) = false := decide_eq_false fun h => by
      have h2 := congrArg List.length h
      rw [List.length_map, List.length_map, LX.out.1, LX.out.2] at h2
      exact hnm h2
    have hn : ((n : Int) != (m : Int)) = true := by rw [bne_iff_ne]; omega
    have HNE := Lib.hid hne
    clear hne
    go_wp2_with fail
    go_ret
    exact ⟨by rw [HNE.out]; rfl, 0, rfl⟩
end Go.Proofs.YthkbmmebfkaphaaDoor.Lg
