/-
  Texts of earlier layers, as one.
-/
import Derived.Test.YtldlcddmbgcfdaaWheelOnceWalk
/- The law of ids that are due one behind the other. -/
namespace Go.Proofs.Ytldlcddmbgcfdaa.Wh
open Go.RowKit Mem Dsk

/-- Behind so many of the ids: each timer's tick is its id's last place. -/
def AllI (l : List (Int × Int)) (k : Nat) (x : List Tm) : Prop := ∀ t ∈ x, ∃ j : Nat, t.a = (j : Int) ∧ j < k ∧ l[j]? = some t.i ∧ ∀ m, j < m → m < k → l[m]? ≠ some t.i
theorem AllI.set {l : List (Int × Int)} {k : Nat} {x : List Tm} {i : Int × Int} (h : AllI l k x) (hi : l[k]? = some i) : AllI l (k + 1) (setR x ⟨i, (k : Int)⟩) := by
  intro t ht
  rcases mem_set.1 ht with rfl | ⟨ht, hne⟩
  · exact ⟨k, rfl, by omega, hi, fun m h1 h2 => by omega⟩
  · obtain ⟨j, h1, h2, h3, h4⟩ := h t ht
    refine ⟨j, h1, by omega, h3, fun m h5 h6 e => ?_⟩
    by_cases hm : m = k
    · subst hm
      rw [hi] at e
      injection e with e
      exact hne e.symm
    · exact h4 m h5 (by omega) e
/-- Their ticks rise. -/
def Rise (x : List Tm) : Prop := x.Pairwise fun a b => a.a < b.a
theorem AllI.rise {l : List (Int × Int)} {k : Nat} : ∀ {x : List Tm}, AllI l k x → Srt x → Uq x → Rise x
  | [], _, _, _ => List.Pairwise.nil
  | t :: x, h, s, u => by
    have s1 := List.pairwise_cons.1 s
    have u1 := List.pairwise_cons.1 u
    refine List.pairwise_cons.2 ⟨fun y hy => ?_, AllI.rise (fun z hz => h z (List.mem_cons_of_mem _ hz)) s1.2 u1.2⟩
    have h1 := (tlt_iff _ _).1 (s1.1 y hy)
    have h2 := u1.1 y hy
    obtain ⟨j, e1, _, e2, _⟩ := h t (List.mem_cons_self ..)
    obtain ⟨j', e1', _, e2', _⟩ := h y (List.mem_cons_of_mem _ hy)
    by_cases e : t.a = y.a
    · have : j = j' := by omega
      subst this
      rw [e2] at e2'
      injection e2' with e2'
      exact absurd e2' h2
    · omega
theorem Rise.drop {x : List Tm} (h : Rise x) (k : Nat) : Rise (x.drop k) := List.Pairwise.sublist (List.drop_sublist k x) h
theorem due_rest {now : Int} : ∀ {x : List Tm}, Rise x → ∀ t ∈ x.drop (dueR x now), now < t.a
  | [], _, t, ht => by simp at ht
  | r :: x, h, t, ht => by
    have h1 := List.pairwise_cons.1 h
    rw [dueR_cons] at ht
    by_cases e : r.a ≤ now
    · rw [if_pos e, List.drop_succ_cons] at ht
      exact due_rest h1.2 t ht
    · rw [if_neg e, List.drop_zero] at ht
      rcases List.mem_cons.1 ht with rfl | ht
      · omega
      · have := h1.1 t ht
        omega
theorem due_le {x : List Tm} {now : Int} : dueR x now ≤ x.length := by
  induction x with
  | nil => exact Nat.le_refl _
  | cons r x ih =>
    rw [dueR_cons]
    split
    · simp; exact ih
    · simp
theorem due_in {now : Int} : ∀ {x : List Tm} {k : Nat} {t : Tm}, k < dueR x now → x[k]? = some t → t.a ≤ now
  | [], k, t, h, _ => by simp [dueR] at h
  | r :: x, 0, t, h, e => by
    rw [dueR_cons] at h
    simp at e
    subst e
    by_cases h' : r.a ≤ now
    · exact h'
    · rw [if_neg h'] at h
      omega
  | r :: x, k + 1, t, h, e => by
    rw [dueR_cons] at h
    split at h
    · exact due_in (x := x) (k := k) (by omega) (by simpa using e)
    · omega
/-- An id's last place among so many. -/
def LastI (l : List (Int × Int)) (i : Int × Int) (k : Nat) (r : Int) : Prop := (r = -1 ∧ ∀ m, m < k → l[m]? ≠ some i) ∨ ∃ j : Nat, r = j ∧ j < k ∧ l[j]? = some i ∧ ∀ m, j < m → m < k → l[m]? ≠ some i
theorem LastI.step {l : List (Int × Int)} {i y : Int × Int} {k : Nat} {r : Int} (h : LastI l i k r) (hy : l[k]? = some y) : LastI l i (k + 1) (if decide (y = i) = true then (k : Int) else r) := by
  by_cases e : y = i
  · rw [if_pos (by simpa using e)]
    exact .inr ⟨k, rfl, by omega, by rw [hy, e], fun m h1 h2 => by omega⟩
  · rw [if_neg (by simpa using e)]
    have hk : ∀ m, m = k → l[m]? ≠ some i := fun m hm e' => by
      subst hm
      rw [hy] at e'
      injection e' with e'
      exact e e'
    rcases h with ⟨h1, h2⟩ | ⟨j, h1, h2, h3, h4⟩
    · refine .inl ⟨h1, fun m hm => ?_⟩
      by_cases hmk : m = k
      · exact hk m hmk
      · exact h2 m (by omega)
    · refine .inr ⟨j, h1, by omega, h3, fun m h5 h6 => ?_⟩
      by_cases hmk : m = k
      · exact hk m hmk
      · exact h4 m h5 (by omega)
theorem LastI.is {l : List (Int × Int)} {x : List Tm} {n : Nat} {r : Int} {t : Tm} (hx : AllI l n x) (ht : t ∈ x) (h : LastI l t.i n r) : r = t.a := by
  obtain ⟨j, h1, h2, h3, h4⟩ := hx t ht
  rcases h with ⟨_, h5⟩ | ⟨j', h5, h6, h7, h8⟩
  · exact absurd h3 (h5 j h2)
  · rcases Nat.lt_trichotomy j j' with h' | h' | h'
    · exact absurd h7 (h4 j' h' h6)
    · omega
    · exact absurd h3 (h8 j h' h2)
/-- What lasts: the ids that came in. -/
abbrev FA (w : World) (A : Option Addr) (n c : Nat) (l : List (Int × Int)) (v : World) (S : Nat → Prop) : Prop := FNew w v S ∧ FRw LI A n c l v S
theorem frame_fa (w : World) (A : Option Addr) (n c : Nat) (l : List (Int × Int)) : Dsk.Frame (FA w A n c l) := (frame_new w).and (frame_rw LI A n c l)
def A1Rel (w : World) (p : Nat) (A : Option Addr) (n c : Nat) (l : List (Int × Int)) (v : Value) (wr : World) : Prop := ∃ (k : Nat) (x : List Tm), v = .int .i64 (k : Int) ∧ k ≤ n ∧ AllI l k x ∧ x.length ≤ k ∧ Mine (FA w A n c l) wr p x
def A2Rel (w : World) (p : Nat) (A : Option Addr) (n c : Nat) (l : List (Int × Int)) (x : List Tm) (d : Int) (v8 v9 v10 : Value) (wr : World) : Prop := ∃ (tl : Nat) (lst nw : Int), v8 = .int .i64 (tl : Int) ∧ v9 = .int .i64 lst ∧ v10 = .int .i64 nw ∧
  tl ≤ x.length ∧ 0 ≤ nw ∧ nw ≤ n + 16 ∧ (∀ t ∈ x.drop tl, lst < t.a) ∧ (∀ t ∈ x.drop tl, nw - d < t.a) ∧ Mine (FA w A n c l) wr p (x.drop tl)
/-- What lasts beside: the ids that are due. -/
abbrev FD (w : World) (A : Option Addr) (n c : Nat) (l : List (Int × Int)) (B : Nat) (V : Option Addr) (m c' : Nat) (ds : List (Int × Int)) (v : World) (S : Nat → Prop) : Prop := FA w A n c l v S ∧ FOwn B 28 LI.s V m c' (LI.flat ds) v S
theorem frame_fd (w : World) (A : Option Addr) (n c : Nat) (l : List (Int × Int)) (B : Nat) (V : Option Addr) (m c' : Nat) (ds : List (Int × Int)) : Dsk.Frame (FD w A n c l B V m c' ds) := (frame_fa w A n c l).and (frame_own _ _ _ _ _ _ _)
def A3Rel (F : World → (Nat → Prop) → Prop) (p : Nat) (r y : List Tm) (m tl : Nat) (v8 v9 v12 : Value) (wr : World) : Prop := ∃ (k : Nat) (lst : Int), v8 = .int .i64 ((tl + k : Nat) : Int) ∧ v9 = .int .i64 lst ∧ v12 = .int .i64 (k : Int) ∧ k ≤ m ∧ (∀ t ∈ r.drop k, lst < t.a) ∧ Mine F wr p y
def A4Rel (F : World → (Nat → Prop) → Prop) (p : Nat) (y : List Tm) (l : List (Int × Int)) (i : Int × Int) (v13 v14 : Value) (wr : World) : Prop := ∃ (k : Nat) (r : Int), v13 = .int .i64 r ∧ v14 = .int .i64 (k : Int) ∧ k ≤ l.length ∧ LastI l i k r ∧ Mine F wr p y
set_option maxRecDepth 20000 in
set_option maxHeartbeats 16000000 in
theorem wheelall_true (A : Option Addr) (n c : Nat) (l : List (Int × Int)) (st : Int) (w : World) (hr : Rw LI w A n c l) (hwf : ∀ i ∈ l, Wf i) (hst : 0 ≤ st ∧ st ≤ 255) :
    Calls Try.prog 5 #[.slice A n c, .int .u8 st] w (Tells true w) := by
  have hln := hr.len
  have HAW := Lib.hid (fun W => wheel_awake W)
  by_cases hbig : 60 < n
  · have hb : (60 : Int) < (n : Int) := by omega
    clear hwf hst hr
    go_enter Try.func5, Try.ntmps5
    go_wp2_with (go_at_call 6; (with_reducible refine (HAW.out _).mono ?_); rintro e w10 ⟨rfl, hb10⟩)
    go_ret
    exact ⟨rfl, hb10⟩
  · have hb : ¬ (60 : Int) < (n : Int) := by omega
    have hn60 : n ≤ 60 := by omega
    have HN := Lib.hid (new_any w)
    have HR := Lib.hid (And.intro hr (And.intro hwf hln))
    have hFr := frame_fa w A n c l
    obtain ⟨d0, hd0⟩ : ∃ d0 : Int, st % 8 = d0 := ⟨_, rfl⟩
    have hd1 : 0 ≤ d0 ∧ d0 ≤ 7 := by omega
    have htm : st.tmod 8 = d0 := by rw [Int.tmod_eq_emod_of_nonneg hst.1]; exact hd0
    have HD := Lib.hid (And.intro hd1 hst)
    clear hr hwf hbig hln
    go_enter Try.func5, Try.ntmps5
    go_wp2_with fail
    refine HN.out.mono ?_
    rintro e w1 ⟨p, S, rfl, hI, hl, hbe⟩
    have hm0 : Mine (FA w A n c l) w1 p [] := by
      refine ⟨S, hI, ⟨hl, hbe⟩, HR.out.1.below hbe, fun h0 ad e hs => ?_⟩
      obtain ⟨g, o, e', hlt, _⟩ := HR.out.1.spot h0
      cases e.symm.trans e'
      have h1 : w.heap.size ≤ g := hl _ hs
      omega
    have HM0 := Lib.hid hm0
    unfold ptr
    clear hI hl hbe hm0 HN
    go_wp2_with fail
    go_loopw [6] (A1Rel w p A n c l) (fun v _ => n - (intOf v).toNat)
    case atStart => exact ⟨0, [], rfl, Nat.zero_le _, (fun t ht => by cases ht), Nat.le_refl _, HM0.out⟩
    case round =>
      obtain ⟨k, x, rfl, hk, hall, hxl, hm⟩ := hrel
      clear HM0
      by_cases hlt : k < n
      · obtain ⟨S1, hI1, hN1, hR1⟩ := hm
        obtain ⟨g, o, i, rfl, hg, hi, hc⟩ := hR1.1.at_ hlt
        have c3 := hc 0 _ rfl
        have c4 := hc 1 _ rfl
        rw [show o + k * LI.s = o + k * 2 from rfl] at c3 c4
        obtain ⟨i1, i2⟩ := i
        simp only [Nat.add_zero] at c3 c4
        have hs := set_mine hFr (i1, i2) (k : Int) ⟨S1, hI1, hN1, hR1⟩ (HR.out.2.1 _ (List.mem_of_getElem? hi)) (by omega)
        have HS := Lib.hid hs
        have HX := Lib.hid (And.intro (hall.set hi) (show (setR x ⟨(i1, i2), (k : Int)⟩).length ≤ k + 1 by have := set_len x ⟨(i1, i2), (k : Int)⟩; omega))
        unfold ptr at HS
        clear hI1 hN1 hR1 hg hi hc hs hall hxl
        go_wp2_with fail
        refine HS.out.mono ?_
        rintro e w2 ⟨rfl, hm2⟩
        have HM2 := Lib.hid hm2
        clear hm2
        go_wp2_with fail
        go_roundw
        case rel => exact ⟨k + 1, _, by simp, by omega, HX.out.1, HX.out.2, HM2.out⟩
        case measure =>
          simp [intOf]
          omega
      · have hkn : k = n := by omega
        subst hkn
        have hlen := len_mine hm
        have HLEN := Lib.hid hlen
        have hu := hm.uq
        have hrise := hall.rise hu.2.1 hu.1
        have HX := Lib.hid (And.intro hall (And.intro hrise hxl))
        obtain ⟨N, hN⟩ : ∃ N, x.length = N := ⟨_, rfl⟩
        rw [hN] at HLEN
        have hge : ∀ t ∈ x, 0 ≤ t.a ∧ t.a < (k : Int) := fun t ht => by
          obtain ⟨j, h1, h2, _⟩ := hall t ht
          omega
        have HM := Lib.hid (And.intro hm (And.intro hN hge))
        unfold ptr at HLEN
        clear hall hxl hm hlen hu hrise hN hge
        go_wp2_with fail
        refine HLEN.out.mono ?_
        rintro e w3 ⟨rfl, rfl⟩
        go_wp2_with fail
        go_loopw [8, 9, 10] (A2Rel w p A k c l x (1 + d0)) (fun _ _ v _ => k + 16 - (intOf v).toNat)
        case atStart => exact ⟨0, -1, 0, rfl, rfl, rfl, Nat.zero_le _, by omega, by omega, fun t ht => by have := (HM.out.2.2 t (by simpa using ht)).1; omega, fun t ht => by have := (HM.out.2.2 t (by simpa using ht)).1; have := HD.out; omega, HM.out.1⟩
        case round =>
          obtain ⟨tl, lst, nw, rfl, rfl, rfl, htl, hnw, hnw2, hlst, hnd, hm⟩ := hrel
          have hw1 : IntKind.i64.wrap ((k : Int) + 8) = (k : Int) + 8 := wr64 (by omega) (by omega)
          by_cases hlt : nw < (k : Int) + 8
          · have hrR : Rise (x.drop tl) := HX.out.2.1.drop tl
            have haR : AllI l k (x.drop tl) := fun t ht => HX.out.1 t (List.mem_of_mem_drop ht)
            have hdue := due_mine hFr nw hm (by rw [List.length_drop]; have := HX.out.2.2; omega)
            have hdl := due_le (x := x.drop tl) (now := nw)
            have hdr := due_rest (now := nw) hrR
            have hdi := fun k t => due_in (now := nw) (x := x.drop tl) (k := k) (t := t)
            rw [List.length_drop, HM.out.2.1] at hdl
            obtain ⟨R, hR⟩ : ∃ R, x.drop tl = R := ⟨_, rfl⟩
            rw [hR] at hrR haR hdue hdl hdr hdi hlst
            obtain ⟨m, hmm⟩ : ∃ m, dueR R nw = m := ⟨_, rfl⟩
            rw [hmm] at hdue hdl hdr hdi
            obtain ⟨B, hB⟩ : ∃ B, wr.heap.size = B := ⟨_, rfl⟩
            rw [hB] at hdue
            have hml : m ≤ R.length := by rw [← hmm]; exact due_le
            have HDUE := Lib.hid hdue
            have HRR := Lib.hid (And.intro hrR (And.intro haR (And.intro hdl (And.intro hdr (And.intro hdi (And.intro hlst (And.intro hR (And.intro htl hml))))))))
            unfold ptr at HDUE
            clear hrR haR hdue hdl hdr hdi hlst hnd hm hR hmm htl hml hB
            go_wp2_with fail
            refine HDUE.out.mono ?_
            rintro e w4 ⟨V, c', rfl, hm4⟩
            have HM4 := Lib.hid hm4
            clear hm4 HDUE
            go_wp2_with fail
            go_loopw [8, 9, 12] (A3Rel (FD w A k c l B V m c' (idsOf (R.take m))) p R (R.drop m) m tl) (fun _ _ v _ => m - (intOf v).toNat)
            case atStart => exact ⟨0, lst, by simp, rfl, rfl, Nat.zero_le _, by rw [List.drop_zero]; exact HRR.out.2.2.2.2.2.1, HM4.out⟩
            case round =>
              obtain ⟨q, lst2, rfl, rfl, rfl, hq, hlst2, hm5⟩ := hrel
              by_cases hqm : q < m
              · obtain ⟨t, htq⟩ : ∃ t, R[q]? = some t := ⟨R[q]'(by have := HRR.out.2.2.2.2.2.2.2.2; omega), List.getElem?_eq_getElem _⟩
                have htR := List.mem_of_getElem? htq
                have hge := hlst2 t (by rw [List.mem_iff_getElem?]; exact ⟨0, by rw [List.getElem?_drop]; exact htq⟩)
                have hle := HRR.out.2.2.2.2.1 q t hqm htq
                have HT := Lib.hid (And.intro htq (And.intro htR (And.intro hge hle)))
                have HM5 := Lib.hid hm5
                clear hm5 hlst2 htq htR hge hle
                go_wp2_with fail
                go_loopw [13, 14] (A4Rel (FD w A k c l B V m c' (idsOf (R.take m))) p (R.drop m) l t.i) (fun _ v _ => k - (intOf v).toNat)
                case atStart => exact ⟨0, -1, rfl, rfl, Nat.zero_le _, .inl ⟨rfl, fun m hm => by omega⟩, HM5.out⟩
                case round =>
                  obtain ⟨z, r, rfl, rfl, hz, hla, hm6⟩ := hrel
                  clear HM5
                  by_cases hzk : z < k
                  · obtain ⟨S6, hI6, ⟨hN6, hR6⟩, hO6⟩ := hm6
                    obtain ⟨g, o, y, rfl, hg, hy, hc⟩ := hR6.1.at_ hzk
                    have c3 := hc 0 _ rfl
                    have c4 := hc 1 _ rfl
                    rw [show o + z * LI.s = o + z * 2 from rfl] at c3 c4
                    have hO7 := Rw.own hO6.1
                    obtain ⟨g2, o2, y2, rfl, hg2, hy2, hc2⟩ := hO7.at_ hqm
                    have hyy : y2 = t.i := by
                      unfold idsOf at hy2
                      rw [List.getElem?_map, List.getElem?_take, if_pos hqm, HT.out.1] at hy2
                      simpa using hy2.symm
                    subst hyy
                    have c5 := hc2 0 _ rfl
                    have c6 := hc2 1 _ rfl
                    rw [show o2 + q * LI.s = o2 + q * 2 from rfl] at c5 c6
                    obtain ⟨tt, htt⟩ : ∃ tt, decide (y = t.i) = tt := ⟨_, rfl⟩
                    have heq := eql_id y t.i
                    rw [htt] at heq
                    have hst' := hla.step hy
                    rw [htt] at hst'
                    obtain ⟨t1, ht1⟩ : ∃ v, t.i.1 = v := ⟨_, rfl⟩
                    obtain ⟨t2, ht2⟩ : ∃ v, t.i.2 = v := ⟨_, rfl⟩
                    rw [ht1] at c5 heq
                    rw [ht2] at c6 heq
                    obtain ⟨y1, y2⟩ := y
                    simp only [Nat.add_zero] at c3 c4 c5 c6 heq
                    have HS6 := Lib.hid (And.intro hst' (show Mine (FD w (some ⟨g, o, none⟩) k c l B (some ⟨g2, o2, none⟩) m c' (idsOf (R.take m))) wr p (R.drop m) from ⟨S6, hI6, ⟨hN6, hR6⟩, hO6⟩))
                    clear hI6 hN6 hR6 hO6 hg hy hc hO7 hg2 hy2 hc2 htt hst' hla ht1 ht2
                    go_wp2_with fail
                    go_quiet (fail)
                    cases tt with
                    | true =>
                      go_wp2_with fail
                      go_roundw
                      case rel => exact ⟨z + 1, (z : Int), rfl, by simp, by have := HR.out.2.2; omega, by have := HS6.out.1; simpa using this, HS6.out.2.bel (frame_fd _ _ _ _ _ _ _ _ _ _) (below_drewN (Below.refl _ _) _)⟩
                      case measure =>
                        simp [intOf]
                        omega
                    | false =>
                      go_wp2_with fail
                      go_roundw
                      case rel => exact ⟨z + 1, r, rfl, by simp, by have := HR.out.2.2; omega, by have := HS6.out.1; simpa using this, HS6.out.2.bel (frame_fd _ _ _ _ _ _ _ _ _ _) (below_drewN (Below.refl _ _) _)⟩
                      case measure =>
                        simp [intOf]
                        omega
                  · have hzk' : z = k := by have := HR.out.2.2; omega
                    subst hzk'
                    have hrt := hla.is HRR.out.2.1 HT.out.2.1
                    have h1 := HT.out.2.2.1
                    have h2 := HT.out.2.2.2
                    rw [← hrt] at h1 h2
                    have b1 : ¬ r ≤ lst2 := by omega
                    have b2 : ¬ nw < r := by omega
                    have hqb : q < 60 := by have := HRR.out.2.2.1; have := HRR.out.2.2.2.2.2.2.2.1; have := HX.out.2.2; have := HM.out.2.1; omega
                    have hwt : IntKind.i64.wrap (((tl + q : Nat) : Int) + 1) = ((tl + (q + 1) : Nat) : Int) := by
                      rw [show (((tl + q : Nat) : Int) + 1) = ((tl + (q + 1) : Nat) : Int) by omega]
                      exact wr64 (by omega) (by have := HRR.out.2.2.1; have := HRR.out.2.2.2.2.2.2.2.1; have := HX.out.2.2; have := HM.out.2.1; omega)
                    have hnx : ∀ u ∈ R.drop (q + 1), r < u.a := fun u hu => by
                      rw [hrt]
                      have hd : R.drop q = t :: R.drop (q + 1) := by
                        obtain ⟨hq', e⟩ := List.getElem?_eq_some_iff.1 HT.out.1
                        rw [List.drop_eq_getElem_cons hq', e]
                      have h3 := HRR.out.1.drop q
                      rw [hd] at h3
                      exact (List.pairwise_cons.1 h3).1 u hu
                    have HNX := Lib.hid (And.intro hnx hm6)
                    obtain ⟨T1, hT1⟩ : ∃ T1 : Int, ((tl + q : Nat) : Int) = T1 := ⟨_, rfl⟩
                    obtain ⟨T2, hT2⟩ : ∃ T2 : Int, ((tl + (q + 1) : Nat) : Int) = T2 := ⟨_, rfl⟩
                    rw [hT1, hT2] at hwt
                    have HT2 := Lib.hid hT2
                    try rw [hT1]
                    clear hla hrt h1 h2 hnx hm6 hT1 hT2
                    go_wp2_with fail
                    go_roundw
                    case rel => exact ⟨q + 1, r, by rw [HT2.out], rfl, by simp, by omega, HNX.out.1, HNX.out.2⟩
                    case measure =>
                      simp [intOf]
                      omega
              · have hqm' : q = m := by omega
                subst hqm'
                have hw2 : IntKind.i64.wrap (nw + 1) = nw + 1 := wr64 (by omega) (by omega)
                have hw3 : IntKind.i64.wrap (nw + 1 + d0) = nw + 1 + d0 := wr64 (by have := HD.out; omega) (by have := HD.out; omega)
                have hcv : IntKind.i64.wrap st = st := wr64 (by have := HD.out; omega) (by have := HD.out; omega)
                have HM6 := Lib.hid (And.intro hlst2 hm5)
                obtain ⟨T1, hT1⟩ : ∃ T1 : Int, ((tl + q : Nat) : Int) = T1 := ⟨_, rfl⟩
                have HT1 := Lib.hid hT1
                try rw [hT1]
                clear hlst2 hm5 hT1
                go_wp2_with fail
                go_roundw
                case rel =>
                  have hdd : x.drop (tl + q) = R.drop q := by rw [← HRR.out.2.2.2.2.2.2.1, List.drop_drop]
                  have hb := HRR.out.2.2.1
                  refine ⟨tl + q, lst2, nw + 1 + d0, by rw [HT1.out], rfl, rfl, ?_, by have := HD.out; omega, by have := HD.out; omega, ?_, ?_, ?_⟩
                  · have := HM.out.2.1
                    have := HRR.out.2.2.2.2.2.2.2.1
                    omega
                  · rw [hdd]
                    exact HM6.out.1
                  · rw [hdd]
                    intro t ht
                    have := HRR.out.2.2.2.1 t ht
                    omega
                  · rw [hdd]
                    exact HM6.out.2.more fun _ _ h => h.1
                case measure =>
                  have := HD.out
                  simp [intOf]
                  omega
          · have hRn : x.drop tl = [] := by
              cases hd : x.drop tl with
              | nil => rfl
              | cons t r =>
                have h1 := hnd t (by rw [hd]; exact List.mem_cons_self ..)
                have h2 := (HM.out.2.2 t (List.mem_of_mem_drop (by rw [hd]; exact List.mem_cons_self ..))).2
                have := HD.out
                omega
            have htN : tl = N := by
              have h1 := congrArg List.length hRn
              rw [List.length_drop, HM.out.2.1, List.length_nil] at h1
              have := HM.out.2.1
              omega
            rw [hRn] at hm
            have hlen := len_mine hm
            simp only [List.length_nil] at hlen
            have HLEN2 := Lib.hid hlen
            have HM7 := Lib.hid hm
            subst htN
            unfold ptr at HLEN2
            clear hnd hlst hm hlen hRn
            go_wp2_with (first
              | (go_at_call 17; (with_reducible refine HLEN2.out.mono ?_); rintro e w8 ⟨rfl, rfl⟩)
              | (go_at_call 6; (with_reducible refine (HAW.out _).mono ?_); rintro e w10 ⟨rfl, hb10⟩))
            go_ret
            obtain ⟨S9, _, hF9⟩ := HM7.out
            exact ⟨rfl, hF9.1.2.trans (hb10.mono hF9.1.2.size)⟩
end Go.Proofs.Ytldlcddmbgcfdaa.Wh
