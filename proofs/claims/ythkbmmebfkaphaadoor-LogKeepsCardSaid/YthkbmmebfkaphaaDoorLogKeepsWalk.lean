/-
  Texts of earlier layers, as one.
-/
import Derived.Test.YthkbmmebfkaphaaDoorLogWritesWalk
import Derived.Test.YthkbmmebfkaphaaDoorLogPartsWalk
import Derived.Deep.RegionHeld
/- The law of what was flushed. -/
namespace Go.Proofs.YthkbmmebfkaphaaDoor.Lg
open Go.RowKit Mem Dsk

/-- What lasts in this law. -/
def FK (w0 : World) (A B : Option Addr) (n c m d : Nat) (ps qs : List Cr.Part) (v : World) (S : Nat → Prop) : Prop := FNew w0 v S ∧ ((FMat A n c ps v S ∧ FMat B m d qs v S) ∧ FTab v S)
theorem frame_k (w0 : World) (A B : Option Addr) (n c m d : Nat) (ps qs : List Cr.Part) : Dsk.Frame (FK w0 A B n c m d ps qs) := (frame_new w0).and (((frame_mat A n c ps).and (frame_mat B m d qs)).and frame_tab)
def FG (w0 : World) (A B : Option Addr) (n c m d g p : Nat) (ps qs : List Cr.Part) (v : World) (S : Nat → Prop) : Prop := FK w0 A B n c m d ps qs v S ∧ FLog g p nlog v S
theorem frame_g (w0 : World) (A B : Option Addr) (n c m d g p : Nat) (ps qs : List Cr.Part) : Dsk.Frame (FG w0 A B n c m d g p ps qs) := (frame_k w0 A B n c m d ps qs).and (frame_log g p nlog)
def AddRel (I : Held) (F : World → (Nat → Prop) → Prop) (p n : Nat) (l : List (List Nat)) (i : Value) (wr : World) : Prop := ∃ k : Nat, k ≤ n ∧ i = .int .i64 (k : Int) ∧ Mine I F wr p (st (decide (0 < k)) [] (forms (l.take k)) (-1) false)
def MoreRel (I : Held) (F : World → (Nat → Prop) → Prop) (p n R : Nat) (ex : Bool) (A : List Nat) (l : List (List Nat)) (i : Value) (wr : World) : Prop := ∃ k : Nat, k ≤ n ∧ i = .int .i64 (k : Int) ∧ Mine I F wr p (under ex A l R k)
theorem add_step {k : Nat} {l : List (List Nat)} {p : List Nat} (hp : l[k]? = some p) (hl : (forms l).length ≤ 10000) : whole (doAppend nlog (form p)) (st (decide (0 < k)) [] (forms (l.take k)) (-1) false) = (0, st (decide (0 < k + 1)) [] (forms (l.take (k + 1))) (-1) false) := by
  have e3 : forms (l.take (k + 1)) = forms (l.take k) ++ form p := by rw [List.take_add_one, hp, forms_append]; simp [forms]
  have hle := forms_take_le l (k + 1)
  rw [e3, List.length_append] at hle
  rw [add_up (fun h => ⟨rfl, ?_⟩) (by decide) (by simp only [List.length_nil]; omega), ← e3]
  · simp
  · have hk : k = 0 := by have := of_decide_eq_false h; omega
    subst hk
    rfl
theorem fine_under {ex : Bool} {A : List Nat} {b : List (List Nat)} {n k : Nat} (h : A.length + (forms b).length ≤ 10000) (hn : n ≤ 100) : Fine (under ex A b n k) := by
  unfold under
  have := forms_take_le b (min k n)
  exact fine_st (by omega) (by omega)
/-- What the power leaves of it, and what is read then. -/
theorem under_boot {ex : Bool} {la lb : List (List Nat)} {n k : Nat} (keep : Int) (hx : ex = false → la = []) (ha : Ok la) (hb : Ok lb) (hl : (forms la).length + (forms lb).length ≤ 10000) :
    ∃ d c x r d2, boot [keep] (under ex (forms la) lb n k) = d ∧ Fine d ∧ (Dsk.read nlog d = (c, 0) ∨ Dsk.read nlog d = (c, 8)) ∧ (∀ y ∈ c, y < 256) ∧ c.length ≤ 10000 ∧ x ≤ lb.length ∧ Reads c (la ++ lb.take x) r ∧ (r = [] → d2 = d) ∧ (r ≠ [] → whole (doCut nlog ((forms (la ++ lb.take x)).length : Int)) d = (0, d2)) := by
  obtain ⟨ex2, hex⟩ : ∃ ex2, (ex || decide (0 < min k n)) = ex2 := ⟨_, rfl⟩
  have h2 : ex2 = false → forms la = [] ∧ forms (lb.take (min k n)) = [] := fun h => by
    rw [h, Bool.or_eq_false_iff] at hex
    have hk : min k n = 0 := by have := of_decide_eq_false hex.2; omega
    rw [hx hex.1, hk]
    exact ⟨rfl, rfl⟩
  obtain ⟨kk, hbt⟩ := boot_st ex2 (forms la) (forms (lb.take (min k n))) ((n : Int) - ((min k n : Nat) : Int)) keep (decide (n < k)) h2
  obtain ⟨j, r, hj, hrd⟩ := reads_flushed ha (hb.take (min k n)) kk
  have hj2 : (lb.take (min k n)).take j = lb.take (min j (min k n)) := List.take_take
  rw [hj2] at hrd
  have hlt := forms_take_le lb (min k n)
  have hcl : (forms la ++ (forms (lb.take (min k n))).take kk).length ≤ 10000 := by rw [List.length_append, List.length_take]; omega
  have hcx : ex2 = false → forms la ++ (forms (lb.take (min k n))).take kk = [] := fun h => by rw [(h2 h).1, (h2 h).2]; simp
  have hcb : ∀ y ∈ forms la ++ (forms (lb.take (min k n))).take kk, y < 256 := fun y hy => (List.mem_append.1 hy).elim (ha.lt y) fun h => (hb.take (min k n)).lt y (List.mem_of_mem_take h)
  unfold under
  rw [hex, hbt]
  generalize forms la ++ (forms (lb.take (min k n))).take kk = c at hrd hcl hcx hcb ⊢
  have hr2 := read_st (k := -1) hcx
  have hx2 : min j (min k n) ≤ lb.length := by
    rw [List.length_take] at hj
    omega
  have hrr : Dsk.read nlog (st ex2 c [] (-1) false) = (c, 0) ∨ Dsk.read nlog (st ex2 c [] (-1) false) = (c, 8) := by
    rw [hr2]
    cases ex2 <;> simp
  by_cases hr : r = []
  · exact ⟨_, c, _, r, _, rfl, fine_st (by simp only [List.length_nil]; omega) (by decide), hrr, hcb, hcl, hx2, hrd, fun _ => rfl, fun h => absurd hr h⟩
  · have hex2 : ex2 = true := by
      cases ex2
      · exfalso
        have h := hrd.eq
        rw [hcx rfl] at h
        have h3 := congrArg List.length h
        rw [List.length_nil, List.length_append] at h3
        exact hr (List.eq_nil_of_length_eq_zero (by omega))
      · rfl
    subst hex2
    refine ⟨_, c, _, r, _, rfl, fine_st (by simp only [List.length_nil]; omega) (by decide), hrr, hcb, hcl, hx2, hrd, fun h => absurd h hr, fun _ => cut_up ?_⟩
    have h := congrArg List.length hrd.eq
    rw [List.length_append] at h
    omega
set_option maxRecDepth 20000 in
set_option maxHeartbeats 8000000 in
theorem log_keeps {I : Held} (hH : Has2 I) (A B : Option Addr) (n c m d : Nat) (ps qs : List Cr.Part) (z : Nat) (keep : Int) (w : World) (ht : Cr.Tab w) (hx : Cr.Mat w A n c ps) (hy : Cr.Mat w B m d qs) (hz : z ≤ 255) :
    Calls Tryd.prog 3 #[.slice A n c, .slice B m d, .int .u8 (z : Int), .int .i64 keep] w (Tells true w) := by
  have HFr := Lib.hid (frame_k w A B n c m d ps qs)
  have HW := Lib.hid (fun (u : World) (h : Cr.Tab u) => lawake_any u h)
  have HG1 := Lib.hid (great_any A n c ps w hx)
  have HG2 := Lib.hid (great_any B m d qs w hy)
  have HT := Lib.hid ht
  have HX := Lib.hid hx
  have HY := Lib.hid hy
  clear ht hx hy
  obtain ⟨g1, hg1⟩ : ∃ g1, great (ps.map (·.bs)) = g1 := ⟨_, rfl⟩
  obtain ⟨g2, hg2⟩ : ∃ g2, great (qs.map (·.bs)) = g2 := ⟨_, rfl⟩
  rw [hg1] at HG1
  rw [hg2] at HG2
  go_enter Tryd.func3, Tryd.ntmps3
  go_wp2_with fail
  refine HG1.out.mono ?_
  rintro e w1 ⟨rfl, rfl⟩
  cases g1 with
  | true => as_aux_lemma =>
    clear hg1 hg2
    go_wp2_with fail
    refine (HW.out w1 HT.out).mono ?_
    rintro e w2 ⟨rfl, hb⟩
    have HB := Lib.hid hb
    clear hb
    go_wp2_with fail
    go_ret
    exact ⟨rfl, HB.out⟩
  | false =>
  go_wp2_with fail
  refine HG2.out.mono ?_
  rintro e w2 ⟨rfl, rfl⟩
  cases g2 with
  | true => as_aux_lemma =>
    clear hg1 hg2
    go_wp2_with fail
    refine (HW.out w2 HT.out).mono ?_
    rintro e w3 ⟨rfl, hb⟩
    have HB := Lib.hid hb
    clear hb
    go_wp2_with fail
    go_ret
    exact ⟨rfl, HB.out⟩
  | false =>
  rename World => w
  have HA := Lib.hid (small_parts HX.out hg1)
  have HBB := Lib.hid (small_parts HY.out hg2)
  clear hg1 hg2
  have HN := Lib.hid (hH.new 10000 w)
  go_wp2_with fail
  refine HN.out.mono ?_
  rintro e w3 ⟨p, S, rfl, hI, hl, hb⟩
  have HF3 := Lib.hid (show FK w A B n c m d ps qs w3 S from ⟨⟨hl, hb⟩, ⟨fmat_arg HX.out hl hb, fmat_arg HY.out hl hb⟩, ftab_arg HT.out hl hb⟩)
  have hop := open_any hH p S (newDk 10000) (newDk 10000) nlog [] [] [] w3 hI (fine_new (by decide)) HF3.out.2.2 (by decide) (.inr rfl) (fun _ h => (by cases h)) (by decide) (reads_forms (l := []) (fun _ h => (by cases h))) (fun _ => rfl) (fun h => absurd rfl h)
  have HOP := Lib.hid hop
  clear hop hI hl hb
  unfold Dsk.ptr at *
  go_wp2_with fail
  refine HOP.out.mono ?_
  rintro e w4 ⟨g, V, k, rs, rfl, S4, hI4, hg4, hk4, hfl, _, _⟩
  have HGr := Lib.hid (frame_g w A B n c m d g p ps qs)
  have HM4 := Lib.hid (show Mine I (FG w A B n c m d g p ps qs) w4 p (st (decide (0 < 0)) [] (forms ((ps.map (·.bs)).take 0)) (-1) false) from ⟨S4, hI4, HFr.out.go HF3.out hk4 hg4, hfl⟩)
  clear hI4 hg4 hk4 hfl
  have hn10 := HA.out.2.2.2
  have hm10 := HBB.out.2.2.2
  have HNL := Lib.hid (And.intro (show (ps.map (·.bs)).length = n by rw [List.length_map]; have := HX.out.row.len; rw [List.length_map] at this; exact this) (show (qs.map (·.bs)).length = m by rw [List.length_map]; have := HY.out.row.len; rw [List.length_map] at this; exact this))
  go_wp2_with fail
  go_loopw [13] (AddRel I (FG w A B n c m d g p ps qs) p n (ps.map (·.bs))) (fun i _ => n - (intOf i).toNat)
  case atStart => exact ⟨0, Nat.zero_le _, rfl, HM4.out⟩
  case round =>
    obtain ⟨j, hj, rfl, hmine⟩ := hrel
    have HM := Lib.hid hmine
    clear hmine
    by_cases hlt : j < n
    · as_aux_lemma =>
      obtain ⟨S5, hI5, hF5⟩ := HM.out
      obtain ⟨ad, u, rfl, _, hx, hc⟩ := hF5.1.2.1.1.mat.row.at_ hlt
      rw [List.getElem?_map, Option.map_eq_some_iff] at hx
      obtain ⟨q, hq, rfl⟩ := hx
      have hqm := List.mem_of_getElem? hq
      have hq2 : (ps.map (·.bs))[j]? = some q.bs := by rw [List.getElem?_map, hq]; rfl
      have hle := forms_take_le (ps.map (·.bs)) j
      have hadd := add_any hH g p S5 (st (decide (0 < j)) [] (forms ((ps.map (·.bs)).take j)) (-1) false) nlog q.A q.n q.c q.bs wr hI5 (fine_st (by have := HA.out.1; simp only [List.length_nil]; omega) (by decide)) hF5.1.2.2 hF5.2 (hF5.1.2.1.1.2 q hqm).1 (hF5.1.2.1.1.2 q hqm).2 (by have := HA.out.2.2.1 q hqm; omega) (by decide)
      rw [add_step hq2 (by have := HA.out.1; omega)] at hadd
      have HADD := Lib.hid hadd
      have HF5 := Lib.hid hF5
      unfold Cr.pv at hc
      clear hadd hI5 hF5 hq hq2 hqm hle
      go_wp2_with fail
      refine HADD.out.mono ?_
      rintro e w6 ⟨rfl, hst⟩
      have HM6 := Lib.hid (hst.mine HGr.out HF5.out)
      clear hst
      go_wp2_with fail
      exact ⟨⟨j + 1, by omega, by simp, HM6.out⟩, by simp [intOf]; omega⟩
    · obtain rfl : j = n := by omega
      as_aux_lemma =>
      have hta : (ps.map (·.bs)).take j = ps.map (·.bs) := List.take_of_length_le (Nat.le_of_eq HNL.out.1)
      have hm0 := HM.out
      rw [hta] at hm0
      obtain ⟨ex, hex⟩ : ∃ ex, decide (0 < j) = ex := ⟨_, rfl⟩
      have hexn : ex = false → ps.map (·.bs) = [] := fun h => by
        rw [h] at hex
        have hj0 : j = 0 := by have := of_decide_eq_false hex; omega
        exact List.eq_nil_of_length_eq_zero (by rw [HNL.out.1, hj0])
      rw [hex] at hm0
      obtain ⟨S5, hI5, hF5⟩ := hm0
      have hsy := sync_up (ex := ex) (S := []) (T := forms (ps.map (·.bs))) (fun h => ⟨rfl, by rw [hexn h]; rfl⟩)
      rw [List.nil_append] at hsy
      have hflu := flush_any hH g p S5 (st ex [] (forms (ps.map (·.bs))) (-1) false) nlog wr hI5 (fine_st (by have := HA.out.1; simp only [List.length_nil]; omega) (by decide)) hF5.2 (by decide)
      rw [hsy] at hflu
      have hflu2 : Calls Tryd.prog 11 #[.pointer (some ⟨g, 0, none⟩)] wr (fun e w' => e = .returned (.int .i64 0) ∧ Stays I p S5 (st ex (forms (ps.map (·.bs))) [] (-1) false) wr w') := hflu.mono fun e w' h => ⟨h.1.trans (by cases ex <;> rfl), h.2⟩
      have HEX := Lib.hid hexn
      have HFL := Lib.hid hflu2
      have HF5 := Lib.hid hF5
      clear hta hex hexn hI5 hF5 hsy hflu hflu2 HM HM4 HOP HN HG1 HG2
      go_wp2_with fail
      refine HFL.out.mono ?_
      rintro e w6 ⟨rfl, S6, hI6, hg6, hk6⟩
      have HF6 := Lib.hid (HGr.out.go HF5.out hk6 hg6)
      obtain ⟨R, hR⟩ : ∃ R : Nat, ((z : Int) % 12) = (R : Int) := ⟨z % 12, by omega⟩
      have hR6 : R < 12 := by omega
      have hfu := hH.fuse p S6 (st ex (forms (ps.map (·.bs))) [] (-1) false) (R : Int) w6 hI6 (fine_st (by have := HA.out.1; simp only [List.length_nil]; omega) (by omega))
      rw [show ({ st ex (forms (ps.map (·.bs))) [] (-1) false with fuse := max (R : Int) (-1) } : Dk) = st ex (forms (ps.map (·.bs))) [] (R : Int) false from by unfold st; simp only; rw [show max (R : Int) (-1) = (R : Int) by omega]] at hfu
      have HFU := Lib.hid hfu
      clear hfu hI6 hg6 hk6
      unfold Dsk.ptr at HFU
      go_wp2_with fail
      refine HFU.out.mono ?_
      rintro e w7 ⟨rfl, hst⟩
      have hm7 := hst.mine HGr.out HF6.out
      rw [← under_zero ex (forms (ps.map (·.bs))) (qs.map (·.bs)) R] at hm7
      have HM7 := Lib.hid hm7
      clear hst hm7 hR HFU HFL
      go_wp2_with fail
      go_loopw [14] (MoreRel I (FG w A B j c m d g p ps qs) p m R ex (forms (ps.map (·.bs))) (qs.map (·.bs))) (fun i _ => m - (intOf i).toNat)
      case atStart => exact ⟨0, Nat.zero_le _, rfl, HM7.out⟩
      case round =>
        obtain ⟨y, hy, rfl, hmine⟩ := hrel
        have HM := Lib.hid hmine
        clear hmine
        by_cases hlt2 : y < m
        · as_aux_lemma =>
          obtain ⟨S8, hI8, hF8⟩ := HM.out
          obtain ⟨ad, u, rfl, _, hx, hc⟩ := hF8.1.2.1.2.mat.row.at_ hlt2
          rw [List.getElem?_map, Option.map_eq_some_iff] at hx
          obtain ⟨q, hq, rfl⟩ := hx
          have hqm := List.mem_of_getElem? hq
          have hq2 : (qs.map (·.bs))[y]? = some q.bs := by rw [List.getElem?_map, hq]; rfl
          have hsum : (forms (ps.map (·.bs))).length + (forms (qs.map (·.bs))).length ≤ 10000 := by have := HA.out.1; have := HBB.out.1; omega
          have hadd := add_any hH g p S8 (under ex (forms (ps.map (·.bs))) (qs.map (·.bs)) R y) nlog q.A q.n q.c q.bs wr hI8 (fine_under hsum (by omega)) hF8.1.2.2 hF8.2 (hF8.1.2.1.2.2 q hqm).1 (hF8.1.2.1.2.2 q hqm).2 (by have := HBB.out.2.2.1 q hqm; omega) (by decide)
          have hnx := under_next (ex := ex) (n := R) (fun h => by rw [HEX.out h]; rfl) hq2 hsum
          obtain ⟨r, hr⟩ : ∃ r, whole (doAppend nlog (form q.bs)) (under ex (forms (ps.map (·.bs))) (qs.map (·.bs)) R y) = r := ⟨_, rfl⟩
          rw [hr] at hadd hnx
          have HADD := Lib.hid hadd
          have HNX := Lib.hid hnx
          have HF8 := Lib.hid hF8
          unfold Cr.pv at hc
          clear hadd hI8 hF8 hq hq2 hqm hsum hnx hr
          go_wp2_with fail
          refine HADD.out.mono ?_
          rintro e w9 ⟨rfl, hst⟩
          have hm9 := hst.mine HGr.out HF8.out
          rw [HNX.out] at hm9
          have HM9 := Lib.hid hm9
          clear hst hm9
          go_wp2_with fail
          exact ⟨⟨y + 1, by omega, by simp, HM9.out⟩, by simp [intOf]; omega⟩
        · obtain rfl : y = m := by omega
          as_aux_lemma =>
          have hsum : (forms (ps.map (·.bs))).length + (forms (qs.map (·.bs))).length ≤ 10000 := by have := HA.out.1; have := HBB.out.1; omega
          obtain ⟨d1, cc, x, r, d2, hbt, hf1, hrd, hcb, hcl, hxy, hR, h0, h1⟩ := under_boot (n := R) (k := y) keep HEX.out HA.out.2.1 HBB.out.2.1 hsum
          obtain ⟨S8, hI8, hF8, hn8⟩ := Mine.lit2 HM.out hH HGr.out (.cells #[.int .i64 keep] 3)
          have hbo := hH.boot p S8 _ (some ⟨wr.heap.size, 0, none⟩) 1 1 [keep] _ hI8 (fine_under hsum (by omega)) (Rd.lit wr (vs [keep]) 3 1 rfl (by unfold maxLen; decide)) (outs_lit hn8)
          rw [hbt] at hbo
          have HBO := Lib.hid hbo
          have HF8 := Lib.hid hF8
          rw [HNL.out.2] at hxy
          have HRD := Lib.hid (And.intro hf1 (And.intro hrd (And.intro hcb (And.intro hcl (And.intro hR (And.intro h0 h1))))))
          clear hbo hF8 hI8 hn8 hsum hbt hf1 hrd hcb hcl hR h0 h1
          unfold Dsk.ptr at HBO
          go_wp2_with fail
          refine HBO.out.mono ?_
          rintro e w9 ⟨rfl, S9, hI9, hg9, hk9⟩
          have hF9 := HGr.out.go HF8.out hk9 hg9
          have hop := open_any hH p S9 d1 d2 nlog cc _ r w9 hI9 HRD.out.1 hF9.1.2.2 (by decide) HRD.out.2.1 HRD.out.2.2.1 (by have := HRD.out.2.2.2.1; omega) HRD.out.2.2.2.2.1 HRD.out.2.2.2.2.2.1 HRD.out.2.2.2.2.2.2
          have HOP := Lib.hid hop
          have HF9 := Lib.hid hF9
          clear hop hF9 hI9 hg9 hk9
          unfold Dsk.ptr at HOP
          go_wp2_with fail
          refine HOP.out.mono ?_
          rintro e w10 ⟨g2, V2, k2, rs2, rfl, S10, hI10, hg10, hk10, hfl2, hfm, hrs⟩
          have hll : (ps.map (·.bs) ++ (qs.map (·.bs)).take x).length = j + x := by rw [List.length_append, List.length_take, HNL.out.1, HNL.out.2]; omega
          rw [hll] at hfm ⊢
          have hF10 := HGr.out.go HF9.out hk10 hg10
          have HM10 := Lib.hid (And.intro hfm.mat (And.intro hF10.1.2.1.1.mat (And.intro hF10.1.2.1.2.mat (And.intro hF10.1.1.2 hrs))))
          clear hll hfm hfl2 hI10 hg10 hk10 hF10 hrs HM7 HM HOP HBO
          have b1 : decide ((j : Int) + (x : Int) < (j : Int)) = false := decide_eq_false (by omega)
          have b2 : decide ((j : Int) + (y : Int) < (j : Int) + (x : Int)) = false := decide_eq_false (by omega)
          go_wp2_with fail
          obtain ⟨j0, hj0, hy0, hy1, hy2⟩ := info_parts info32
          have hxm := HM10.out.2.1
          have hym := HM10.out.2.2.1
          have hal := bel_alloc ((Below.refl w10.heap.size w10).drew) (.cells #[] 32)
          obtain ⟨V11, c11, w11, hr3, ho11, hb11⟩ := append_gen (P := Tryd.prog) (t := 22) Tryd.underlying22 hj0 hy0 hy1 hy2 rfl (empty_row w10.drew 32) (hxm.row.below hal) (pv_one ps) (by unfold maxLen; omega) (by omega) (by have := hal.size; exact this) 22
          have hb1011 : Below w10.heap.size w10 w11 := hal.trans hb11
          have hyr := (hym.row.below hb1011).take (k := x) hxy
          rw [← List.map_take] at hyr
          obtain ⟨V12, c12, w12, hr11, ho12, hb12⟩ := append_gen (P := Tryd.prog) (t := 22) Tryd.underlying22 hj0 hy0 hy1 hy2 rfl ho11 hyr (pv_one (qs.take x)) (by unfold maxLen; omega) (by omega) (by have := hb1011.size; exact this) 22
          simp only [Nat.zero_add, List.nil_append] at hr3 hr11 ho12
          rw [pv_map_append] at ho12
          have hb1012 : Below w10.heap.size w10 w12 := hb1011.trans hb12
          have hmr : Cr.Mat w12 V12 (j + x) c12 (ps ++ qs.take x) := mat_of_row ho12 fun q hq => (List.mem_append.1 hq).elim (fun h => (hxm.below hb1012).part q h) (fun h => (hym.below hb1012).part q (List.mem_of_mem_take h))
          have hbytes : rs2.map (·.bs) = (ps ++ qs.take x).map (·.bs) := by rw [HM10.out.2.2.2.2, List.map_append, List.map_take]
          have hsm := sameall_any V2 (j + x) k2 rs2 V12 (j + x) c12 (ps ++ qs.take x) w12 (HM10.out.1.below hb1012) hmr
          rw [decide_eq_true hbytes] at hsm
          have hsub : IntKind.i64.wrap ((j : Int) + (x : Int) - (j : Int)) = (x : Int) := by simp only [IntKind.wrap_i64]; omega
          have hslc : ∀ w : World, (Instr.slice 22 (.slice B y d) none (some (.int .i64 (x : Int))) none).run Tryd.prog w = .ok (.slice B x d) w := fun w => run_high 22 Tryd.underlying22 (fun w => by kernel_rfl) B y d x (by have := hym.row.le; omega) w
          have HR3 := Lib.hid hr3
          have HR11 := Lib.hid hr11
          have HSM := Lib.hid hsm
          have HSUB := Lib.hid hsub
          have HSLC := Lib.hid hslc
          have HB12 := Lib.hid (HM10.out.2.2.2.1.trans (hb1012.mono HM10.out.2.2.2.1.size))
          clear hr3 hr11 hsm hsub hslc hb12 hb11 hb1011 hb1012 hal ho11 ho12 hmr hbytes hxm hym hyr b1 b2 hj0 hy0 hy1 hy2
          -- WALK
          refine wp_region_held_drew (S := (fun _ : World => True)) (by kernel_rfl) trivial (fun hHeld => ?_)
          refine held_take (i := 0) (d := 96) (v := (.slice V2 (j + x) k2)) rfl rfl (by kernel_rfl) (by kernel_rfl) (by kernel_rfl) (fun _ _ _ h => h) (by kernel_rfl) (fun w hSw => by (obtain hS := hSw); go_simp) hHeld ?_
          try simp only [List.setIfInBounds_toArray, List.set_cons_zero, List.set_cons_succ]
          refine held_take (i := 2) (d := 98) (v := (.slice A j c)) rfl rfl (by kernel_rfl) (by kernel_rfl) (by kernel_rfl) (fun _ _ _ h => h) (by kernel_rfl) (fun w hSw => by (obtain hS := hSw); go_simp) hHeld ?_
          try simp only [List.setIfInBounds_toArray, List.set_cons_zero, List.set_cons_succ]
          refine held_take (i := 4) (d := 100) (v := (.slice B y d)) rfl rfl (by kernel_rfl) (by kernel_rfl) (by kernel_rfl) (fun _ _ _ h => h) (by kernel_rfl) (fun w hSw => by (obtain hS := hSw); go_simp) hHeld ?_
          try simp only [List.setIfInBounds_toArray, List.set_cons_zero, List.set_cons_succ]
          refine held_take (i := 5) (d := 101) (v := (.slice V2 (j + x) k2)) rfl rfl (by kernel_rfl) (by kernel_rfl) (by kernel_rfl) (fun _ _ _ h => h) (by kernel_rfl) (fun w hSw => by (obtain hS := hSw); go_simp) hHeld ?_
          try simp only [List.setIfInBounds_toArray, List.set_cons_zero, List.set_cons_succ]
          refine held_take (i := 6) (d := 102) (v := (.int .i64 ((j : Int) + (x : Int)))) rfl rfl (by kernel_rfl) (by kernel_rfl) (by kernel_rfl) (fun _ _ _ h => h) (by kernel_rfl) (fun w hSw => by (obtain hS := hSw); go_simp) hHeld ?_
          try simp only [List.setIfInBounds_toArray, List.set_cons_zero, List.set_cons_succ]
          refine held_take (i := 7) (d := 103) (v := (.slice A j c)) rfl rfl (by kernel_rfl) (by kernel_rfl) (by kernel_rfl) (fun _ _ _ h => h) (by kernel_rfl) (fun w hSw => by (obtain hS := hSw); go_simp) hHeld ?_
          try simp only [List.setIfInBounds_toArray, List.set_cons_zero, List.set_cons_succ]
          refine held_take (i := 8) (d := 104) (v := (.int .i64 (j : Int))) rfl rfl (by kernel_rfl) (by kernel_rfl) (by kernel_rfl) (fun _ _ _ h => h) (by kernel_rfl) (fun w hSw => by (obtain hS := hSw); go_simp) hHeld ?_
          try simp only [List.setIfInBounds_toArray, List.set_cons_zero, List.set_cons_succ]
          refine held_take (i := 9) (d := 105) (v := (.int .i64 (x : Int))) rfl rfl (by kernel_rfl) (by kernel_rfl) (by kernel_rfl) (fun _ _ _ h => h) (by kernel_rfl) (fun w hSw => by have hx := HSUB.out; go_simp) hHeld ?_
          try simp only [List.setIfInBounds_toArray, List.set_cons_zero, List.set_cons_succ]
          refine held_take (i := 10) (d := 106) (v := (.slice B x d)) rfl rfl (by kernel_rfl) (by kernel_rfl) (by kernel_rfl) (fun _ _ _ h => h) (by kernel_rfl) (fun w hSw => by have hx := HSLC.out w; go_simp) hHeld ?_
          try simp only [List.setIfInBounds_toArray, List.set_cons_zero, List.set_cons_succ]
          refine wpAnyH_ready (rs := [1]) (by kernel_rfl) (by simp) ?_
          refine AllReadyH.cons rfl (fun K hK => ?_) AllReadyH.nil
          go_simp
          skip
          refine hK.out _ _ trivial (fun hHeld => ?_)
          clear hK K
          refine wpAnyH_ready (rs := [3]) (by kernel_rfl) (by simp) ?_
          refine AllReadyH.cons rfl (fun K hK => ?_) AllReadyH.nil
          refine step_append_w rfl (.tmp 97) (.tmp 98) rfl HR3.out ?_
          show K (Act.put _ (some 99) _) _
          try simp only [Act.put]
          refine hK.out _ _ trivial (fun hHeld => ?_)
          clear hK K
          refine wpAnyH_ready (rs := [11]) (by kernel_rfl) (by simp) ?_
          refine AllReadyH.cons rfl (fun K hK => ?_) AllReadyH.nil
          refine step_append_w rfl (.tmp 99) (.tmp 106) rfl HR11.out ?_
          show K (Act.put _ (some 107) _) _
          try simp only [Act.put]
          refine hK.out _ _ trivial (fun hHeld => ?_)
          clear hK K
          refine wpAnyH_ready (rs := [12]) (by kernel_rfl) (by simp) ?_
          refine AllReadyH.cons rfl (fun K hK => ?_) AllReadyH.nil
          go_simp
          refine HSM.out.mono ?_
          rintro e w13 ⟨rfl, q9, hq9⟩
          have HB13 := Lib.hid (HB12.out.trans ((show Below w12.heap.size w12 w13 by rw [hq9]; exact below_drewN (Below.refl _ _) q9).mono HB12.out.size))
          clear hq9
          refine hK.out _ _ trivial (fun hHeld => ?_)
          clear hK K
          refine held_take (i := 13) (d := 109) (v := (.bool true)) rfl rfl (by kernel_rfl) (by kernel_rfl) (by kernel_rfl) (fun _ _ _ h => h) (by kernel_rfl) (fun w hSw => by (obtain hS := hSw); go_simp) hHeld ?_
          try simp only [List.setIfInBounds_toArray]
          refine wpAnyH_ready (rs := [14]) (by kernel_rfl) (by simp) ?_
          refine AllReadyH.cons rfl (fun K hK => ?_) AllReadyH.nil
          go_simp
          refine (HW.out w13 (HT.out.below HB13.out)).mono ?_
          rintro e w14 ⟨rfl, hb14⟩
          have HB14 := Lib.hid (HB13.out.trans (hb14.mono HB13.out.size))
          clear hb14
          refine hK.out _ _ trivial (fun hHeld => ?_)
          clear hK K
          refine held_take (i := 15) (d := 111) (v := (.bool true)) rfl rfl (by kernel_rfl) (by kernel_rfl) (by kernel_rfl) (fun _ _ _ h => h) (by kernel_rfl) (fun w hSw => by (obtain hS := hSw); go_simp) hHeld ?_
          try simp only [List.setIfInBounds_toArray]
          refine held_take (i := 16) (d := 8) (v := (.bool true)) rfl rfl (by kernel_rfl) (by kernel_rfl) (by kernel_rfl) (fun _ _ _ h => h) (by kernel_rfl) (fun w hSw => by (obtain hS := hSw); go_simp) hHeld ?_
          try simp only [List.setIfInBounds_toArray]
          refine wpAnyH_done (by kernel_rfl) ?_ _
          skip
          -- KLAW
          go_wp2_with fail
          go_ret
          exact ⟨rfl, HB14.out⟩
end Go.Proofs.YthkbmmebfkaphaaDoor.Lg
