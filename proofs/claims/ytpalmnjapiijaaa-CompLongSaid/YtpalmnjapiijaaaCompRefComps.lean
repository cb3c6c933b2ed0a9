/-
  Texts of earlier layers, as one.
-/
import Derived.Test.YtpalmnjapiijaaaCompRefLeads
/- The document's answer to what components a graph has. -/
namespace Go.Proofs.Ytpalmnjapiijaaa.Gr
open Go.RowKit Mem Dsk

theorem filter_two (p q : Nat → Bool) : ∀ l : List Nat, (l.filter p).length = (l.filter fun x => p x && q x).length + (l.filter fun x => p x && !q x).length
  | [] => rfl
  | x :: l => by
    have := filter_two p q l
    cases hp : p x <;> cases hq : q x <;> simp [hp, hq] <;> omega
theorem left_less {e : Graph} {come : Nat → Bool} {u : Nat} (hs : Shut e come) (hr : ready e come u = true) : left e come = (cmp e u).length + left e (more e come u) := by
  unfold left cmp
  rw [filter_two (fun v => !come v) (mutu e u)]
  congr 1
  · congr 1
    refine List.filter_congr fun x _ => ?_
    cases hm : mutu e u x with
    | false => simp
    | true =>
      have : come x = false := by
        cases hc : come x with
        | false => rfl
        | true =>
          have h1 := hs x u hc (mutu_iff.1 hm).2
          rw [(ready_iff.1 hr).1] at h1
          cases h1
      simp [this]
  · congr 1
    refine List.filter_congr fun x _ => ?_
    unfold more
    simp
theorem left_pos {e : Graph} {come : Nat → Bool} (h : 0 < left e come) : ∃ v, v < e.length ∧ come v = false := by
  unfold left at h
  obtain ⟨v, hv⟩ := List.exists_mem_of_length_pos h
  obtain ⟨h1, h2⟩ := List.mem_filter.1 hv
  exact ⟨v, List.mem_range.1 h1, by simpa using h2⟩
/-- Whether v may come next, as far as it is looked at. -/
def readyQ (e : Graph) (come : Nat → Bool) (v q : Nat) : Bool := !come v && (List.range q).all fun w => !lead e v w || come w || lead e w v
theorem readyQ_next {e : Graph} {come : Nat → Bool} {v q : Nat} (h : readyQ e come v q = true) : readyQ e come v (q + 1) = (!lead e v q || come q || lead e q v) := by
  unfold readyQ at h ⊢
  rw [List.range_succ, List.all_append, ← Bool.and_assoc, h]
  simp
theorem readyQ_no {e : Graph} {come : Nat → Bool} {v q : Nat} (hq : q ≤ e.length) (h : readyQ e come v q = false) : ready e come v = false := by
  cases hr : ready e come v with
  | false => rfl
  | true =>
    exfalso
    have : readyQ e come v q = true := by
      unfold ready at hr
      unfold readyQ
      rw [Bool.and_eq_true] at hr ⊢
      refine ⟨hr.1, List.all_eq_true.2 fun x hx => ?_⟩
      exact List.all_eq_true.1 hr.2 x (List.mem_range.2 (by have := List.mem_range.1 hx; omega))
    rw [h] at this
    cases this
/-- Rows of integers of the call's own. -/
structure MI (w : World) (B : Nat) (A : Option Addr) (m c : Nat) (hs : List Hd) (ls : Graph) : Prop where
  own : w.ownsRow B 27 LS.s (.slice A m c) m (LS.flat hs)
  len : hs.length = ls.length
  row : ∀ (j : Nat) (h : Hd) (l : List Int), hs[j]? = some h → ls[j]? = some l → Rw LN w h.1 h.2.1 h.2.2 l
  low : ∀ h ∈ hs, 0 < h.2.1 → ∀ ad : Addr, h.1 = some ad → B ≤ ad.block ∧ (Value.slice A m c).ownBlock ≠ some ad.block
section
variable {w w' : World} {B : Nat} {A : Option Addr} {m c : Nat} {hs : List Hd} {ls : Graph}
theorem rw_block {R : Option Addr} {rn rc : Nat} {l : List Int} (h : Rw LN w R rn rc l) (hs : w.heap.size ≤ w'.heap.size) (hk : 0 < rn → ∀ ad : Addr, R = some ad → ad.block < w.heap.size → w'.heap[ad.block]? = w.heap[ad.block]?) : Rw LN w' R rn rc l :=
  ⟨h.len, h.le, h.cap, h.nil, fun hn => by
    obtain ⟨g, o, e, hb, hc⟩ := h.spot hn
    have hg : w'.heap[g]? = w.heap[g]? := hk hn _ e hb
    exact ⟨g, o, e, by omega, fun j x hx i u hu => (World.cell?_of_block hg).trans (hc j x hx i u hu)⟩⟩
theorem MI.nil (w : World) (B : Nat) : MI w B none 0 0 [] [] := ⟨⟨rfl, .inl ⟨rfl, rfl⟩⟩, rfl, (fun j h l a => by simp at a), (fun h a => by cases a)⟩
theorem MI.keep (h : MI w B A m c hs ls) (hsz : w.heap.size ≤ w'.heap.size) (hk : ∀ q, B ≤ q → q < w.heap.size → w'.heap[q]? = w.heap[q]?) : MI w' B A m c hs ls :=
  ⟨own_keep h.own fun q hq hlt => hk q (h.own.lt q hq).1 hlt, h.len, fun j a l ha hl => rw_block (h.row j a l ha hl) hsz fun hn ad e hlt => hk _ (h.low a (List.mem_of_getElem? ha) hn ad e).1 hlt, h.low⟩
theorem MI.mat (h : MI w B A m c hs ls) : Mat w A m c ls := ⟨hs, Rw.own (L := LS) h.own, h.len, h.row⟩
/-- A row more. -/
theorem MI.snoc {A1 R : Option Addr} {c1 rn rc : Nat} {l : List Int} (h : MI w B A m c hs ls) (hr : Rw LN w R rn rc l) (hlow : 0 < rn → ∀ ad : Addr, R = some ad → B ≤ ad.block ∧ (Value.slice A m c).ownBlock ≠ some ad.block)
    (hown : w'.ownsRow B 27 LS.s (.slice A1 (m + 1) c1) (m + 1) (LS.flat (hs ++ [(R, rn, rc)]))) (hg : w.grownBy w' (Value.slice A m c).ownBlock)
    (hloc : (Value.slice A1 (m + 1) c1).ownBlock = (Value.slice A m c).ownBlock ∨ (Value.slice A1 (m + 1) c1).ownBlock = some w.heap.size) : MI w' B A1 (m + 1) c1 (hs ++ [(R, rn, rc)]) (ls ++ [l]) := by
  have hkeep : ∀ {X : Option Addr} {xn xc : Nat} {y : List Int}, Rw LN w X xn xc y → (0 < xn → ∀ ad : Addr, X = some ad → B ≤ ad.block ∧ (Value.slice A m c).ownBlock ≠ some ad.block) → Rw LN w' X xn xc y := fun hx hl => rw_block hx hg.size fun hn ad e hlt => hg.block _ hlt fun q => (hl hn ad e).2 q.symm
  have hnew : ∀ {X : Option Addr} {xn xc : Nat} {y : List Int}, Rw LN w X xn xc y → (0 < xn → ∀ ad : Addr, X = some ad → B ≤ ad.block ∧ (Value.slice A m c).ownBlock ≠ some ad.block) → 0 < xn → ∀ ad : Addr, X = some ad → B ≤ ad.block ∧ (Value.slice A1 (m + 1) c1).ownBlock ≠ some ad.block := fun hx hl hn ad e => by
    refine ⟨(hl hn ad e).1, fun q => ?_⟩
    rcases hloc with h3 | h3
    · exact (hl hn ad e).2 (h3.symm.trans q)
    · rw [h3] at q
      obtain ⟨g, o, e', hlt, _⟩ := hx.spot hn
      rw [e] at e'
      cases e'
      injection q with q
      have q : w.heap.size = g := q
      omega
  refine ⟨hown, by rw [List.length_append, List.length_append, h.len]; rfl, fun j a y ha hy => ?_, fun a ha => ?_⟩
  · by_cases hj : j < hs.length
    · rw [List.getElem?_append_left hj] at ha
      rw [List.getElem?_append_left (by rw [← h.len]; exact hj)] at hy
      exact hkeep (h.row j a y ha hy) (h.low a (List.mem_of_getElem? ha))
    · rw [List.getElem?_append_right (by omega)] at ha
      rw [List.getElem?_append_right (by rw [← h.len]; omega), ← h.len] at hy
      have hlt := (List.getElem?_eq_some_iff.1 ha).1
      simp only [List.length_cons, List.length_nil] at hlt
      have hk0 : j - hs.length = 0 := by omega
      rw [hk0] at ha hy
      have e1 : (R, rn, rc) = a := by simpa using ha
      have e2 : l = y := by simpa using hy
      subst e1
      subst e2
      exact hkeep hr hlow
  · rcases List.mem_append.1 ha with ha | ha
    · obtain ⟨j, hj⟩ := List.getElem?_of_mem ha
      have hjl : j < ls.length := by rw [← h.len]; exact (List.getElem?_eq_some_iff.1 hj).1
      exact hnew (h.row j a _ hj (List.getElem?_eq_getElem hjl)) (h.low a ha)
    · rw [List.mem_singleton.1 ha]
      exact hnew hr hlow
end
theorem info_irow : (Try.prog.info? 27).map (fun i => (i.zero, i.size, i.bytes)) = some (some (.slice none 0 0), 1, 24) := by kernel_rfl
/-- New rows of integers. -/
def NewMat (w : World) (L : Graph) (x : Ending) (w' : World) : Prop := ∃ A c, x = .returned (.slice A L.length c) ∧ Mat w' A L.length c L ∧ Below w.heap.size w w'
def compsZ (e : Graph) : Graph := (comps e).map toZ
theorem keeps_far {S : Nat → Prop} {w wc wl u : World} {row : Option Nat} (h : Keeps S w wc) (hb : Below wc.heap.size wc wl) (hg : wl.grownBy u row) (hr : ∀ k, row = some k → w.heap.size ≤ k) : Keeps S w u :=
  ⟨hg.os.trans (hb.os.trans h.os), hg.tape.trans (hb.tape.trans h.tape), hg.output.trans (hb.output.trans h.output), Nat.le_trans h.size (Nat.le_trans hb.size hg.size), fun k hk hn =>
    (hg.block k (Nat.lt_of_lt_of_le hk (Nat.le_trans h.size hb.size)) fun e => by have := hr k e.symm; omega).trans ((hb.block k (Nat.lt_of_lt_of_le hk h.size)).trans (h.block k hk hn))⟩
theorem keeps_set {S : Nat → Prop} {w u : World} (h : Keeps S w u) {b i : Nat} (hS : S b) (v : Value) : Keeps S w (u.setCell ⟨b, i, none⟩ v) :=
  ⟨h.os, h.tape, h.output, by simp [World.setCell]; exact h.size, fun k hk hn => (Below.heap_setCell u ⟨b, i, none⟩ v k fun e => hn (by have e : k = b := e; rw [e]; exact hS)).trans (h.block k hk hn)⟩
theorem cmp_len {e : Graph} {u : Nat} (h : u < e.length) : 0 < (cmp e u).length := List.length_pos_of_mem (mem_cmp.2 (mutu_refl h))
def CoRel (e : Graph) (n b5 B : Nat) (u1 : World) (v6 v7 : Value) (wr : World) : Prop := ∃ (come : Nat → Bool) (L : List (List Nat)) (A6 : Option Addr) (m c6 : Nat) (hs : List Hd), v6 = .slice A6 m c6 ∧ v7 = .int .i64 (left e come : Int) ∧ Shut e come ∧ L ++ compsF e (left e come) come = comps e ∧ m + left e come ≤ n ∧
  L.length = m ∧ MI wr B A6 m c6 hs (L.map toZ) ∧ wr.rowIs b5 4 n (fun v => .bool (come v)) ∧ Below u1.heap.size u1 wr
def CvRel (u : Nat) (A6 : Option Addr) (m c6 lf : Nat) (wo : World) (v6 v7 v8 : Value) (wr : World) : Prop := ∃ v : Nat, v8 = .int .i64 (v : Int) ∧ v6 = .slice A6 m c6 ∧ v7 = .int .i64 (lf : Int) ∧ v ≤ u ∧ wr = wo
def CwRel (e : Graph) (come : Nat → Bool) (v n : Nat) (wo : World) (v9 v10 : Value) (wr : World) : Prop := ∃ q : Nat, v9 = .bool (readyQ e come v q) ∧ v10 = .int .i64 (q : Int) ∧ q ≤ n ∧ wr = wo
def CcRel (e : Graph) (come : Nat → Bool) (u n b5 : Nat) (u1 wo : World) (v11 v12 : Value) (wr : World) : Prop := ∃ (q m : Nat) (V : Option Addr) (c' : Nat), v11 = .slice V m c' ∧ v12 = .int .i64 (q : Int) ∧ q ≤ n ∧ ((List.range q).filter (mutu e u)).length = m ∧ m ≤ q ∧
  wr.ownsRow wo.heap.size 3 LN.s (.slice V m c') m (LN.flat (toZ ((List.range q).filter (mutu e u)))) ∧ wr.rowIs b5 4 n (fun v => .bool (come v || (decide (v < q) && mutu e u v))) ∧ Keeps (fun k => k = b5) wo wr ∧ Below u1.heap.size u1 wr
set_option maxRecDepth 20000 in
set_option maxHeartbeats 16000000 in
theorem refcomps_any {A : Option Addr} {n c : Nat} {e : Graph} (w : World) (h : Mat w A n c e) (hn : n ≤ 1000000) : Calls Try.prog 11 #[.slice A n c] w (NewMat w (compsZ e)) := by
  have hln := h.len
  have HR := Lib.hid (reach_any w h hn)
  have hmk := run_make_row' (P := Try.prog) 41 4 (.bool false) 1 Try.underlying41 info_bool rfl .i64 .i64 n (by omega) (by omega)
  clear h
  go_enter Try.func11, Try.ntmps11
  go_wp2_with fail
  (with_reducible refine HR.out.mono ?_)
  rintro r u1 ⟨A4, c4, bs, rfl, hmb, hb1⟩
  obtain ⟨W1, hW1⟩ : ∃ v, u1.alloc (.cells (madeCells #[.bool false] n) 4) = v := ⟨_, rfl⟩
  obtain ⟨b5, hb5⟩ : ∃ v, u1.heap.size = v := ⟨_, rfl⟩
  have hbw1 : Below u1.heap.size u1 W1 := by rw [← hW1]; exact bel_alloc (Below.refl _ _) _
  have hr1 : W1.rowIs b5 4 n (fun _ => .bool false) := by rw [← hW1, ← hb5]; exact World.rowIs_made u1 (.bool false) n 4
  have hs1 : W1.heap.size = b5 + 1 := by rw [← hW1, ← hb5, size_alloc]
  have hl0 : left e (fun _ => false) = n := by
    unfold left
    rw [List.filter_eq_self.2 (by simp), List.length_range, hln]
  have hst : CoRel e n b5 (b5 + 1) u1 (.slice none 0 0) (.int .i64 (n : Int)) W1 := ⟨fun _ => false, [], none, 0, 0, [], rfl, by rw [hl0], (fun v w h => by cases h), by rw [hl0, ← hln]; rfl, by rw [hl0]; omega, rfl, MI.nil _ _, hr1, hbw1⟩
  have HST := Lib.hid hst
  have HMB := Lib.hid (And.intro hmb (And.intro hb1 hb5))
  have HW1 := Lib.hid hW1
  clear hmb hb1 hW1 hbw1 hr1 hs1 hl0 hst HR
  go_upto_region 4 with fail
  rw [HW1.out]
  clear hb5 hmk
  go_wp2_with fail
  go_loopw [6, 7] (CoRel e n b5 (b5 + 1) u1) (fun _ v _ => (intOf v).toNat)
  case atStart => exact HST.out
  case round =>
    rename World => wo
    obtain ⟨come, L, A6, m, c6, hs, rfl, rfl, hsh, heq, hmn, hLm, hmi, hcr, hbo⟩ := hrel
    clear HST
    obtain ⟨lf, hlf⟩ : ∃ lf, left e come = lf := ⟨_, rfl⟩
    rw [hlf] at heq hmn ⊢
    by_cases h0 : 0 < lf
    · obtain ⟨x, hx, hxc⟩ := left_pos (e := e) (come := come) (by omega)
      obtain ⟨u, hu⟩ := nextV_there hx hxc
      obtain ⟨hun, hur, hul⟩ := nextV_some hu
      rw [hln] at hun
      have HX := Lib.hid (And.intro hsh (And.intro heq (And.intro hLm (And.intro hmi (And.intro hcr (And.intro hbo (And.intro hlf (And.intro hu (And.intro hur hul)))))))))
      clear hsh heq hLm hmi hcr hbo hlf hu hur hul hx hxc
      go_wp2_with fail
      go_loopw [6, 7, 8] (CvRel u A6 m c6 lf wo) (fun _ _ v _ => n - (intOf v).toNat)
      case atStart => exact ⟨0, rfl, rfl, rfl, Nat.zero_le _, rfl⟩
      case round =>
        obtain ⟨v, rfl, rfl, rfl, hv, rfl⟩ := hrel
        rename World => wv
        have hvn : v < n := by omega
        obtain ⟨cv, hcv⟩ : ∃ t, come v = t := ⟨_, rfl⟩
        have q1 := HX.out.2.2.2.2.1.cell hvn
        rw [hcv] at q1
        have hcwat : CwRel e come v n wv (.bool (!cv)) (.int .i64 ((0 : Nat) : Int)) wv := ⟨0, by unfold readyQ; rw [hcv]; simp, rfl, Nat.zero_le _, rfl⟩
        have HCW := Lib.hid hcwat
        clear hcwat hcv
        go_wp2_with fail
        go_loopw [9, 10] (CwRel e come v n wv) (fun _ v _ => n - (intOf v).toNat)
        case atStart => simpa using HCW.out
        case round =>
          obtain ⟨q, rfl, rfl, hq, rfl⟩ := hrel
          rename World => wv
          obtain ⟨t, ht⟩ : ∃ t, readyQ e come v q = t := ⟨_, rfl⟩
          rw [ht]
          cases t with
          | false =>
            have hvu : v ≠ u := fun e' => by
              have h1 := readyQ_no (by omega) ht
              rw [e', HX.out.2.2.2.2.2.2.2.2.1] at h1
              cases h1
            have hvr := readyQ_no (e := e) (by omega) ht
            clear ht hvr q1
            by_cases hqn : q < n
            · go_wp2_with fail
              go_roundw
              case rel => exact ⟨v + 1, by simp, rfl, rfl, by omega, rfl⟩
              case measure =>
                simp [intOf]
                omega
            · have hqe : q = n := by omega
              subst hqe
              go_wp2_with fail
              go_roundw
              case rel => exact ⟨v + 1, by simp, rfl, rfl, by omega, rfl⟩
              case measure =>
                simp [intOf]
                omega
          | true =>
            by_cases hqn : q < n
            · obtain ⟨G, o, bv, bq, rfl, hbv, hbq, o1, o2, s1, s2⟩ := (HMB.out.1.below HX.out.2.2.2.2.2.1).two hvn hqn
              have r1 := s1.cell hqn
              have r2 := s2.cell hvn
              have r3 := HX.out.2.2.2.2.1.cell hqn
              have hnx := readyQ_next ht
              obtain ⟨a, ha⟩ : ∃ t, lead e v q = t := ⟨_, rfl⟩
              obtain ⟨b, hb⟩ : ∃ t, come q = t := ⟨_, rfl⟩
              obtain ⟨d, hd⟩ : ∃ t, lead e q v = t := ⟨_, rfl⟩
              rw [ha, hb, hd] at hnx
              rw [ha] at r1
              rw [hd] at r2
              rw [hb] at r3
              have HFI := Lib.hid (show CwRel e come v n wv (.bool (!a || b || d)) (.int .i64 ((q + 1 : Nat) : Int)) wv from ⟨q + 1, by rw [hnx], rfl, by omega, rfl⟩)
              clear hbv hbq s1 s2 hnx ha hb hd ht q1
              cases a with
              | false =>
                clear r2 r3 o2
                go_wp2_with fail
                go_roundw
                case rel => simpa using HFI.out
                case measure =>
                  simp [intOf]
                  omega
              | true =>
                cases b with
                | true =>
                  clear r2 o2
                  go_wp2_with fail
                  go_roundw
                  case rel => simpa using HFI.out
                  case measure =>
                    simp [intOf]
                    omega
                | false =>
                  go_wp2_with fail
                  go_roundw
                  case rel => simpa using HFI.out
                  case measure =>
                    simp [intOf]
                    omega
            · have hqe : n = q := by omega
              have hvr : ready e come v = true := by
                unfold readyQ at ht
                unfold ready
                rw [hln, hqe]
                exact ht
              have hvu : v = u := Classical.byContradiction fun h => by
                have := HX.out.2.2.2.2.2.2.2.2.2 v (by omega)
                rw [hvr] at this
                cases this
              have hnq : ¬ ((q : Int) < (n : Int)) := by omega
              subst hvu
              have HQE := Lib.hid hqe
              clear ht hvr q1 hv hqe
              go_wp2_with fail
              go_loopw [11, 12] (CcRel e come v n b5 u1 wv) (fun _ x _ => n - (intOf x).toNat)
              case atStart => exact ⟨0, 0, none, 0, rfl, rfl, Nat.zero_le _, rfl, Nat.le_refl _, ⟨rfl, .inl ⟨rfl, rfl⟩⟩, HX.out.2.2.2.2.1.congr fun i _ => by simp, Keeps.refl _ _, HX.out.2.2.2.2.2.1⟩
              case round =>
                rename World => wc
                obtain ⟨p, mc, V, c', rfl, rfl, hp, hm, hmp, hown, hrow, hkp, hb⟩ := hrel
                have hb5l := HX.out.2.2.2.2.1.lt
                by_cases hpn : p < n
                · obtain ⟨G, o, bv, bp, rfl, hbv, hbp, o1, o2, s1, s2⟩ := (HMB.out.1.below hb).two hvn hpn
                  have r1 := s1.cell hpn
                  have r2 := s2.cell hvn
                  have hsn := filter_snoc (mutu e v) p
                  obtain ⟨a, ha⟩ : ∃ t, lead e v p = t := ⟨_, rfl⟩
                  obtain ⟨d, hd⟩ : ∃ t, lead e p v = t := ⟨_, rfl⟩
                  have hmu : mutu e v p = (a && d) := by unfold mutu; rw [ha, hd]
                  rw [hmu] at hsn
                  rw [ha] at r1
                  rw [hd] at r2
                  clear hbv hbp s1 s2 ha hd
                  obtain ⟨ad, had⟩ : ∃ t, (a && d) = t := ⟨_, rfl⟩
                  rw [had] at hsn hmu
                  cases ad with
                  | false =>
                    rw [if_neg (by simp), List.append_nil] at hsn
                    have HFI := Lib.hid (show CcRel e come v n b5 u1 wv (.slice V mc c') (.int .i64 ((p + 1 : Nat) : Int)) wc from ⟨p + 1, mc, V, c', rfl, rfl, by omega, by rw [hsn]; exact hm, by omega, by rw [hsn]; exact hown, hrow.congr fun i _ => by
                      by_cases e : i = p
                      · subst e
                        rw [hmu]
                        simp
                      · rw [show (decide (i < p + 1)) = decide (i < p) from by rw [Bool.eq_iff_iff, decide_eq_true_iff, decide_eq_true_iff]; omega], hkp, hb⟩)
                    clear hm hown hrow hkp hb hsn hmu
                    cases a with
                    | false =>
                      clear r2 o2 had
                      go_wp2_with fail
                      go_roundw
                      case rel => simpa using HFI.out
                      case measure =>
                        simp [intOf]
                        omega
                    | true =>
                      cases d with
                      | true => cases had
                      | false =>
                        clear had
                        go_wp2_with fail
                        go_roundw
                        case rel => simpa using HFI.out
                        case measure =>
                          simp [intOf]
                          omega
                  | true =>
                    obtain ⟨rfl, rfl⟩ : a = true ∧ d = true := by rw [Bool.and_eq_true] at had; exact had
                    rw [if_pos rfl] at hsn
                    have hbl : Below wc.heap.size wc (wc.alloc (.cells #[.int .i64 (p : Int)] 3)) := bel_alloc (Below.refl _ _) _
                    have hlit : Rw LN (wc.alloc (.cells #[.int .i64 (p : Int)] 3)) (some ⟨wc.heap.size, 0, none⟩) 1 1 [(p : Int)] := Rw.lit (L := LN) wc (p : Int) 3
                    obtain ⟨i0, hi, hz0, hz1, hz2⟩ := info_parts info_int
                    have hsz := hbl.size
                    have hks := hkp.size
                    obtain ⟨V1, c1x, u3, hrun, hown3, hgrw, hloc⟩ := run_append_rw (L := LN) (ty := 27) (bytes := 8) Try.underlying27 hi hz0 hz1 hz2 rfl (ownsRow_below hown hbl) hlit (by unfold maxLen; omega) (by omega) (by omega)
                    have hgs := hgrw.size
                    have hrow3 : u3.rowIs b5 4 n (fun v' => .bool (come v' || (decide (v' < p) && mutu e v v'))) := (hrow.alloc _).of_block (hgrw.block b5 (by omega) fun e => by have := (hown.lt b5 e.symm).1; omega)
                    have d1 := hrow3.cell hpn
                    have d2 := hrow3.frozen p
                    have hne : (Value.slice V1 (mc + 1) c1x).ownBlock ≠ some b5 := fun e => by have := (hown3.lt b5 e).1; omega
                    have HFI := Lib.hid (show CcRel e come v n b5 u1 wv (.slice V1 (mc + 1) c1x) (.int .i64 ((p + 1 : Nat) : Int)) (u3.setCell ⟨b5, p, none⟩ (.bool true)) from ⟨p + 1, mc + 1, V1, c1x, rfl, rfl, by omega, by rw [hsn, List.length_append, hm]; rfl, by omega, by
                      rw [hsn, toZ_append]
                      exact own_keep hown3 fun q hq _ => Below.heap_setCell u3 ⟨b5, p, none⟩ _ q fun e => hne (by have e : q = b5 := e; rw [← e]; exact hq), (hrow3.set p (.bool true)).congr fun i _ => by
                      by_cases e : i = p
                      · subst e
                        rw [if_pos rfl, hmu]
                        simp
                      · rw [if_neg e, show (decide (i < p + 1)) = decide (i < p) from by rw [Bool.eq_iff_iff, decide_eq_true_iff, decide_eq_true_iff]; omega], keeps_set (keeps_far hkp hbl hgrw fun k e => (hown.lt k e).1) rfl _, ((bel_trans hb hbl).grown hgrw (by have := hb.size; omega) fun k e => by
                        have h1 := (hown.lt k e).1
                        have h2 := HMB.out.2.2
                        omega).setCell (p := ⟨b5, p, none⟩) (Nat.le_of_eq HMB.out.2.2) _⟩)
                    have HRUN := Lib.hid hrun
                    clear hm hown hrow hkp hb hsn hmu hbl hlit hi hz0 hz1 hz2 hsz hks hrun hown3 hgrw hloc hgs hrow3 hne had
                    go_wp2_with (at_builtin; refine wpList_append_row rfl (.tmp 86) (.tmp 88) rfl HRUN.out ?_)
                    go_roundw
                    case rel => simpa using HFI.out
                    case measure =>
                      simp [intOf]
                      omega
                · have hpe : n = p := by omega
                  obtain ⟨hsh, heq, hLm, hmi, hcr, hbo, hlf, hu, hur, hul⟩ := HX.out
                  have hfc : (List.range p).filter (mutu e v) = cmp e v := by unfold cmp; rw [hln, hpe]
                  rw [hfc] at hm hown
                  have hll := left_less hsh hur
                  have hcl := cmp_len (e := e) (u := v) (by omega)
                  rw [hlf, hm] at hll
                  rw [hm] at hcl
                  obtain ⟨l2, hl2⟩ : ∃ l2, left e (more e come v) = l2 := ⟨_, rfl⟩
                  rw [hl2] at hll
                  have hb5e := HMB.out.2.2
                  have hmic : MI wc (b5 + 1) A6 m c6 hs (L.map toZ) := hmi.keep hkp.size fun q h1 h2 => hkp.block q h2 (by omega)
                  have hbl : Below wc.heap.size wc (wc.alloc (.cells #[.slice V mc c'] 27)) := bel_alloc (Below.refl _ _) _
                  have hlit : Rw LS (wc.alloc (.cells #[.slice V mc c'] 27)) (some ⟨wc.heap.size, 0, none⟩) 1 1 [((V : Option Addr), mc, c')] := Rw.lit (L := LS) wc (V, mc, c') 27
                  obtain ⟨i0, hi, hz0, hz1, hz2⟩ := info_parts info_irow
                  have hsz := hbl.size
                  have hks := hkp.size
                  have hmil : MI (wc.alloc (.cells #[.slice V mc c'] 27)) (b5 + 1) A6 m c6 hs (L.map toZ) := hmic.keep hsz fun q _ h2 => hbl.block q h2
                  obtain ⟨V1, c1x, u3, hrun, hown3, hgrw, hloc⟩ := run_append_rw (L := LS) (ty := 22) (bytes := 24) Try.underlying22 hi hz0 hz1 hz2 rfl hmil.own hlit (by unfold maxLen; omega) (by omega) (by omega)
                  have hgs := hgrw.size
                  have hm3 := hmil.snoc ((Rw.own (L := LN) hown).below hbl) (fun h1 ad e => by
                    have h2 := hown.lt ad.block (by rw [e]; rfl)
                    refine ⟨by omega, fun e2 => ?_⟩
                    have h3 := (hmi.own.lt ad.block e2).2
                    omega) hown3 hgrw hloc
                  have hrow3 : u3.rowIs b5 4 n (fun x => .bool (more e come v x)) := ((hrow.alloc _).of_block (hgrw.block b5 (by omega) fun e => by have := (hmil.own.lt b5 e.symm).1; omega)).congr fun i hi => by
                    unfold more
                    rw [decide_eq_true (show i < p by omega), Bool.true_and]
                  have hsub : (lf : Int) - (mc : Int) = (l2 : Int) := by omega
                  have HFI := Lib.hid (show CoRel e n b5 (b5 + 1) u1 (.slice V1 (m + 1) c1x) (.int .i64 ((lf : Int) - (mc : Int))) u3 from ⟨more e come v, L ++ [cmp e v], V1, m + 1, c1x, hs ++ [(V, mc, c')], rfl, by rw [hl2, ← hsub], more_shut hsh hur, by
                    rw [← heq, hl2, List.append_assoc]
                    congr 1
                    obtain ⟨f, rfl⟩ : ∃ f, lf = f + 1 := ⟨lf - 1, by omega⟩
                    have e1 : compsF e (f + 1) come = cmp e v :: compsF e f (more e come v) := by
                      show (match nextV e come with
                        | none => []
                        | some v => cmp e v :: compsF e f (more e come v)) = _
                      rw [hu]
                    rw [e1]
                    show cmp e v :: compsF e l2 (more e come v) = _
                    rw [compsF_more l2 f (more e come v) (more_shut hsh hur) (by omega) (by omega)], by rw [hl2]; omega, by rw [List.length_append, hLm]; rfl, by rw [List.map_append]; exact hm3, hrow3, (bel_trans hb hbl).grown hgrw (by have := hb.size; omega) fun k e => by
                      have h1 := (hmil.own.lt k e).1
                      omega⟩)
                  have HRUN := Lib.hid hrun
                  clear hm hown hrow hkp hb hbl hlit hi hz0 hz1 hz2 hsz hks hrun hown3 hgrw hloc hgs hrow3 hsh heq hLm hmi hcr hbo hlf hu hur hul hfc hl2 hmic hmil hm3 hsub hpe
                  have hnp : ¬ ((p : Int) < (n : Int)) := by omega
                  have hle : mc ≤ lf := by omega
                  have HLL := Lib.hid hll
                  clear hll
                  go_wp2_with (at_builtin; refine wpList_append_row rfl (.tmp 93) (.tmp 95) rfl HRUN.out ?_)
                  go_roundw
                  case rel => simpa using HFI.out
                  case measure =>
                    have hll := HLL.out
                    simp [intOf]
                    omega
    · have hlf0 : lf = 0 := by omega
      subst hlf0
      have hL : L = comps e := by rw [← heq]; simp [compsF]
      have HFI := Lib.hid (show NewMat w (compsZ e) (.returned (.slice A6 m c6)) wo from by
        have hl : (compsZ e).length = m := by unfold compsZ; rw [List.length_map, ← hL, hLm]
        refine ⟨A6, c6, by rw [hl], ?_, bel_trans HMB.out.2.1 hbo⟩
        rw [hl]
        unfold compsZ
        rw [← hL]
        exact hmi.mat)
      clear hsh heq hLm hmi hcr hbo hlf hL
      go_wp2_with fail
      go_ret
      exact HFI.out
end Go.Proofs.Ytpalmnjapiijaaa.Gr
