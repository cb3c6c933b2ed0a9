/-
  Texts of earlier layers, as one.
-/
import Derived.Test.YtpalmnjapiijaaaCompThere
import Derived.Deep.LoopGhost
import Derived.WalkMore
/- The program's from: all that a root leads to is found. -/
namespace Go.Proofs.Ytpalmnjapiijaaa.Gr
open Go.RowKit Mem Dsk

theorem nrow_at {w : World} {b n i x : Nat} {f : Nat → Nat} (h : w.rowIs b 3 n (nrow f)) (hi : i < n) (hx : f i = x) : w.cell? ⟨b, i, none⟩ = some (.int .i64 (x : Int)) := by
  rw [h.cell hi, nrow, hx]
/-- A cell's number. -/
def ivl (o : Option Value) : Nat := match o with
  | some v => (intOf v).toNat
  | none => 0
def FrRel (w0 : World) (A : Option Addr) (n c p bo bf bl bg : Nat) (e : Graph) (s0 : TS) (root k : Nat) (_ _ : Value) (w : World) : Prop := ∃ (s : TS) (col : Nat → Nat) (Ap : Option Addr) (cp : Nat) (Ao : Option Addr) (co : Nat), 2 * (n - s.count) + s.path.length ≤ k ∧ TI e s ∧ (∀ v, s0.fnd v ≠ 0 → s.fnd v ≠ 0) ∧ s.fnd root ≠ 0 ∧ TM w0 A n c p bo bf bl bg w col Ap cp Ao co s
def InRel (w0 : World) (A : Option Addr) (n c p bo bf bl bg : Nat) (e : Graph) (s0 : TS) (root : Nat) (P : List Nat) (i ct rn k : Nat) (_ : Value) (w : World) : Prop := ∃ (s : TS) (col : Nat → Nat) (Ap : Option Addr) (cp : Nat) (Ao : Option Addr) (co : Nat), rn - s.gone i ≤ k ∧ TI e s ∧ (∀ v, s0.fnd v ≠ 0 → s.fnd v ≠ 0) ∧ s.fnd root ≠ 0 ∧ s.path = P ++ [i] ∧ s.count = ct ∧ TM w0 A n c p bo bf bl bg w col Ap cp Ao co s
/-- What from leaves. -/
def FrPost (w0 : World) (A : Option Addr) (n c p bo bf bl bg : Nat) (e : Graph) (s0 : TS) (root : Nat) (x : Ending) (w : World) : Prop := x = .returned (.tuple #[]) ∧ ∃ (s : TS) (col : Nat → Nat) (Ap : Option Addr) (cp : Nat) (Ao : Option Addr) (co : Nat), TI e s ∧ s.path = [] ∧ (∀ v, s0.fnd v ≠ 0 → s.fnd v ≠ 0) ∧ s.fnd root ≠ 0 ∧ TM w0 A n c p bo bf bl bg w col Ap cp Ao co s
theorem upd_self (f : Nat → Nat) (i : Nat) : upd f i (f i) = f := by
  funext v
  unfold upd
  split
  · rename_i h; rw [h]
  · rfl
theorem TI.small {e : Graph} {s : TS} (h : TI e s) {v : Nat} (hv : v ∈ s.opn) : s.low v ≤ s.count := Nat.le_trans (h.lowO v hv).1 (h.le v)
theorem TI.skip {e : Graph} {s : TS} {P : List Nat} {i : Nat} {z : Int} (h : TI e s) (hp : s.path = P ++ [i]) (hz : (e.getD i [])[s.gone i]? = some z) (hn : z < 0 ∨ (e.length : Int) ≤ z) : TI e { s with gone := upd s.gone i (s.gone i + 1) } := by
  have hio := h.sub i (h.top hp).1
  have := h.step hp hz (Nat.le_refl _) (h.lowO i hio).2 (fun j e1 e2 => by omega)
  unfold TS.step at this
  rw [upd_self] at this
  exact this
theorem TI.merge {e : Graph} {s : TS} {P : List Nat} {i j : Nat} (h : TI e s) (hp : s.path = P ++ [i]) (hz : (e.getD i [])[s.gone i]? = some (j : Int)) (hj : j < e.length) (hf : s.fnd j ≠ 0) (hm : e.length < MX) : TI e (s.step i (min (s.low i) (s.low j))) := by
  have hio := h.sub i (h.top hp).1
  have hil := h.lt i (h.opnF i hio)
  have hc := h.cnt
  refine h.step hp hz (Nat.min_le_left _ _) ?_ fun j' e1 _ => ?_
  · by_cases hle : s.low i ≤ s.low j
    · rw [Nat.min_eq_left hle]
      exact (h.lowO i hio).2
    · rw [Nat.min_eq_right (by omega)]
      have hjo : j ∈ s.opn := Classical.byContradiction fun hno => by
        have h1 := h.lowC j ⟨hf, hno⟩
        have h2 := h.small hio
        omega
      obtain ⟨u, hu, h1, h2⟩ := (h.lowO j hjo).2
      exact ⟨u, hu, h1, lead_trans (lead_edge hil hj (List.mem_of_getElem? hz)) h2⟩
  · have : j = j' := by omega
    subst this
    exact ⟨hf, fun _ => Nat.min_le_right _ _⟩
theorem path_or (l : List Nat) : l = [] ∨ ∃ P i, l = P ++ [i] := by
  rcases List.eq_nil_or_concat l with h | ⟨P, i, h⟩
  · exact .inl h
  · exact .inr ⟨P, i, by rw [h]; simp⟩
theorem enter_fnd {s : TS} {j v : Nat} (h : s.fnd v ≠ 0 ∨ v = j) : (s.enter j).fnd v ≠ 0 := by
  show upd s.fnd j (s.count + 1) v ≠ 0
  unfold upd
  split
  · omega
  · rename_i h2
    exact h.resolve_right h2
set_option maxRecDepth 20000 in
set_option maxHeartbeats 16000000 in
theorem from_any {w0 w : World} {g o n c p bo bf bl bg root : Nat} {e : Graph} {col : Nat → Nat} {Ap Ao : Option Addr} {cp co : Nat} {s : TS} (hM : Mat w0 (some ⟨g, o, none⟩) n c e) (hz : ∀ l ∈ e, l.length ≤ 17592186044416) (h : TM w0 (some ⟨g, o, none⟩) n c p bo bf bl bg w col Ap cp Ao co s) (hI : TI e s) (hp : s.path = []) (hr : root < n) (hf : s.fnd root = 0) (hn : n ≤ 1000000) :
    Calls Try.prog 15 #[ptr p, .int .i64 (root : Int)] w (FrPost w0 (some ⟨g, o, none⟩) n c p bo bf bl bg e s root) := by
  have hln := hM.len
  have hcnt := hI.cnt
  have hpl := hI.plen
  have HE := Lib.hid (enter_any h hr (by omega) ⟨by omega, by omega⟩)
  have hI1 := hI.enter (j := root) (by omega) hf (.inl hp)
  have HI := Lib.hid (And.intro hI1 (show (∀ v, s.fnd v ≠ 0 → (s.enter root).fnd v ≠ 0) ∧ (s.enter root).fnd root ≠ 0 ∧ s.path = [] from ⟨fun v hv => enter_fnd (.inl hv), enter_fnd (.inr rfl), hp⟩))
  have HM := Lib.hid (And.intro hM (And.intro hz (And.intro hln hn)))
  clear hM hz hln hn hcnt hpl hI hI1 hf hp h
  unfold ptr at HE ⊢
  go_enter Try.func15, Try.ntmps15
  go_wp2_with fail
  go_step3
  go_wp2_with fail
  (with_reducible refine HE.out.mono ?_)
  rintro r u1 ⟨rfl, col1, Ap1, cp1, Ao1, co1, h1⟩
  have HI1 := Lib.hid (show FrRel w0 (some ⟨g, o, none⟩) n c p bo bf bl bg e s root (2 * n + 1) undef undef u1 from ⟨_, col1, Ap1, cp1, Ao1, co1, by
    show 2 * (n - (s.count + 1)) + (s.path ++ [root]).length ≤ 2 * n + 1
    rw [HI.out.2.2.2, List.length_append]
    show 2 * (n - (s.count + 1)) + (0 + 1) ≤ 2 * n + 1
    omega, HI.out.1, HI.out.2.1, HI.out.2.2.1, h1⟩)
  clear h1 HI HE
  go_wp2_with fail
  go_step3
  go_wp2_with fail
  go_loopg [4, 5] (2 * n + 1) (FrRel w0 (some ⟨g, o, none⟩) n c p bo bf bl bg e s root)
  case atStart => exact HI1.out
  case round =>
    rename World => wo
    obtain ⟨t, col2, Ap2, cp2, Ao2, co2, hgk, hI, hmono, hroot, h2⟩ := hrel
    clear HI1
    obtain ⟨c0, c1, c2, c3, c4, c5, c6, c7, c8⟩ := h2.cells
    rcases path_or t.path with hp | ⟨P, i, hp⟩
    · rw [hp] at c1
      have HF := Lib.hid (show FrPost w0 (some ⟨g, o, none⟩) n c p bo bf bl bg e s root (.returned (.tuple #[])) wo from ⟨rfl, t, col2, Ap2, cp2, Ao2, co2, hI, hp, hmono, hroot, h2⟩)
      have c1' : wo.cell? ⟨p, 1, none⟩ = some (.slice Ap2 0 cp2) := c1
      clear hI hmono hroot h2 c0 c1 c2 c3 c4 c5 c6 c7 c8 hp hgk
      go_wp2_with fail
      first | go_end0 | refine bodyPost_ret (results_none rfl _ _ _) rfl ?_
      exact HF.out
    · have hpm : t.path.length = P.length + 1 := by rw [hp]; simp
      obtain ⟨m, hm⟩ : ∃ y, P.length = y := ⟨_, rfl⟩
      obtain ⟨ct, hct⟩ : ∃ y, t.count = y := ⟨_, rfl⟩
      obtain ⟨ko, rfl⟩ : ∃ y, y = gk := ⟨_, rfl⟩
      have hio := hI.sub i (hI.top hp).1
      have hin : i < n := by rw [← HM.out.2.2.1]; exact hI.lt i (hI.opnF i hio)
      have hcn := hI.cnt
      have hpl := hI.plen
      have hmn : m ≤ 1000000 := by have := HM.out.2.2; omega
      have hown := h2.path
      rw [hp] at hown
      obtain ⟨_, _, gp, op, hAp, hgp, e0⟩ := hown.last
      subst hAp
      rw [hm] at e0
      rw [hpm, hm] at c1
      obtain ⟨R, rn, rc, l, hgw, hl, o1, hr0⟩ := mat_at HM.out.1 hin
      have hrn : rn ≤ 17592186044416 := by have := HM.out.2.1 l (List.mem_of_getElem? hl); have := hr0.len; omega
      have hlD : e.getD i [] = l := getD_at hl
      have hwm : IntKind.i64.wrap ((m : Int) + 1 - 1) = (m : Int) := by rw [show (m : Int) + 1 - 1 = (m : Int) by omega]; exact wr64 (by omega) (by omega)
      have hwm' : wrap64 (m : Int) = (m : Int) := by unfold wrap64; omega
      have HG := Lib.hid (show 2 * (n - ct) + (m + 1) ≤ ko by rw [← hct, ← hm, ← hpm]; exact hgk)
      have HR := Lib.hid (And.intro hgw (And.intro hl (And.intro o1 (And.intro hr0 (And.intro hrn (And.intro hlD (And.intro hm hmn)))))))
      have HIN := Lib.hid (show InRel w0 (some ⟨g, o, none⟩) n c p bo bf bl bg e s root P i ct rn rn undef wo from ⟨t, col2, _, cp2, Ao2, co2, Nat.sub_le _ _, hI, hmono, hroot, hp, hct, h2⟩)
      clear hgk hI hmono hroot hp hpm hm hct hio hcn hpl hown hgp hgw hl o1 hr0 hlD hrn hmn h2 c0 c2 c3 c4 c5 c6 c7 c8
      go_upto_region 2 with fail
      go_quiet (fail)
      obtain ⟨W1, hW1⟩ : ∃ y, wo.drewN nq = y := ⟨_, rfl⟩
      have HIN1 : Hid (InRel w0 (some ⟨g, o, none⟩) n c p bo bf bl bg e s root P i ct rn rn undef W1) := by
        refine Lib.hid ?_
        obtain ⟨t, col2, Ap2, cp2, Ao2, co2, h1, h2, h3, h4, h5, h6, h7⟩ := HIN.out
        exact ⟨t, col2, Ap2, cp2, Ao2, co2, h1, h2, h3, h4, h5, h6, h7.turn (by rw [← hW1]; exact below_drewN (Below.refl _ _) _)⟩
      rw [hW1]
      clear hW1 HIN e0 c1 hwm hwm'
      go_wp2_with fail
      go_loopg [5] rn (InRel w0 (some ⟨g, o, none⟩) n c p bo bf bl bg e s root P i ct rn)
      case atStart => exact HIN1.out
      case round =>
        rename World => wk
        obtain ⟨t2, col3, Ap3, cp3, Ao3, co3, hgk2, hI, hmono, hroot, hp, hct, h3⟩ := hrel
        clear HIN1
        obtain ⟨k, hk⟩ : ∃ y, t2.gone i = y := ⟨_, rfl⟩
        have o1 := (h3.bel.cell HR.out.1).trans HR.out.2.2.1
        obtain ⟨c0, c1, c2, c3, c4, c5, c6, c7, c8⟩ := h3.cells
        have q1 := nrow_at h3.gone hin hk
        have HK := Lib.hid (And.intro hgk2 (And.intro hI (And.intro hmono (And.intro hroot (And.intro hp (And.intro hct hk))))))
        by_cases hkr : k < rn
        · obtain ⟨g2, o2, z, hR, hg2, hz, e1⟩ := int_at HR.out.2.2.2.1 hkr
          subst hR
          have e2 := (h3.bel.cell (p := ⟨g2, o2 + k, none⟩) hg2).trans e1
          have HZ := Lib.hid hz
          have HZ2 := Lib.hid hg2
          have HKR := Lib.hid hkr
          have H3 := Lib.hid h3
          clear hgk2 hI hmono hroot hp hct hk h3 hg2 hz e1
          go_upto_region 3 with fail
          go_quiet (fail)
          obtain ⟨W3, hW3⟩ : ∃ y, wk.drewN nq = y := ⟨_, rfl⟩
          have hb3 : Below wk.heap.size wk W3 := by rw [← hW3]; exact below_drewN (Below.refl _ _) _
          have h3 := H3.out.turn hb3
          rw [hW3]
          have e2' := (hb3.cell (p := ⟨g2, o2 + k, none⟩) (Nat.lt_of_lt_of_le (show g2 < w0.heap.size from HZ2.out) H3.out.bel.size)).trans e2
          clear hW3 H3 c0 c1 c2 c3 c4 c5 c6 c7 c8 q1 o1 e2
          obtain ⟨c0, c1, c2, c3, c4, c5, c6, c7, c8⟩ := h3.cells
          have q1 := nrow_at h3.gone hin HK.out.2.2.2.2.2.2
          have o1 := (h3.bel.cell HR.out.1).trans HR.out.2.2.1
          have H3 := Lib.hid h3
          clear h3 hb3
          go_upto_region 4 with fail
          go_quiet (fail)
          obtain ⟨W4, hW4⟩ : ∃ y, W3.drewN nq = y := ⟨_, rfl⟩
          have h4 := H3.out.turn (w' := W4) (by rw [← hW4]; exact below_drewN (Below.refl _ _) _)
          rw [hW4]
          clear hW4 H3 c0 c1 c2 c3 c4 c5 c6 c7 c8 q1 o1 e2'
          have hzd : (e.getD i [])[t2.gone i]? = some z := by rw [HR.out.2.2.2.2.2.1, HK.out.2.2.2.2.2.2]; exact HZ.out
          have hwk : IntKind.i64.wrap ((k : Int) + 1) = (k : Int) + 1 := wr64 (by have := HR.out.2.2.2.2.1; omega) (by have := HR.out.2.2.2.2.1; omega)
          obtain ⟨c0, c1, c2, c3, c4, c5, c6, c7, c8⟩ := h4.cells
          have q1 := nrow_at h4.gone hin HK.out.2.2.2.2.2.2
          have f1 := h4.gone.frozen i
          by_cases hzn : z < 0 ∨ (n : Int) ≤ z
          · have HT := Lib.hid (fun u => there_no (some ⟨g, o, none⟩) n c z u hzn)
            have hIS := HK.out.2.1.skip HK.out.2.2.2.2.1 hzd (by rw [HM.out.2.2.1]; exact hzn)
            have hfin : InRel w0 (some ⟨g, o, none⟩) n c p bo bf bl bg e s root P i ct rn (rn - (k + 1)) (.int .i64 z) (W4.setCell ⟨bg, i, none⟩ (.int .i64 ((k : Int) + 1))) := by
              refine ⟨_, col3, Ap3, cp3, Ao3, co3, ?_, hIS, HK.out.2.2.1, HK.out.2.2.2.1, HK.out.2.2.2.2.1, HK.out.2.2.2.2.2.1, ?_⟩
              · show rn - upd t2.gone i (t2.gone i + 1) i ≤ _
                rw [upd_same, HK.out.2.2.2.2.2.2]
                exact Nat.le_refl _
              · have := h4.setGone i (k + 1)
                rw [HK.out.2.2.2.2.2.2]
                exact this
            have HF := Lib.hid hfin
            clear hIS hfin h4 hzd hzn c1 c2 c3 c4 c5 c6 c7
            go_wp2_with fail
            (with_reducible refine (HT.out _).mono ?_)
            rintro r u ⟨rfl, rfl⟩
            go_wp2_with fail
            (with_reducible refine (HT.out _).mono ?_)
            rintro r u ⟨rfl, rfl⟩
            go_wp2_with fail
            go_roundg (rn - (k + 1))
            case measure => have := HK.out.1; have := HK.out.2.2.2.2.2.2; have := HKR.out; omega
            case rel => exact HF.out
          · obtain ⟨j, rfl⟩ := Int.eq_ofNat_of_zero_le (show 0 ≤ z by omega)
            have hjn : j < n := by omega
            have HT := Lib.hid (fun u => there_yes (some ⟨g, o, none⟩) n c (j : Int) u (by omega) (by omega))
            clear hzn
            by_cases hfj : t2.fnd j = 0
            · have q5 := nrow_at h4.fnd hjn hfj
              have hcn := HK.out.2.1.cnt
              have hpl := HK.out.2.1.plen
              have hnn := HM.out.2.2
              have HE := Lib.hid (enter_any h4 hjn (by omega) ⟨by omega, by omega⟩)
              have hIe := HK.out.2.1.enter (j := j) (by omega) hfj (.inr ⟨P, i, HK.out.2.2.2.2.1, hzd⟩)
              have HF := Lib.hid (show ∀ (x : Value) (y : Value) (u : World), Left w0 (some ⟨g, o, none⟩) n c p bo bf bl bg (t2.enter j) (.returned (.tuple #[])) u → FrRel w0 (some ⟨g, o, none⟩) n c p bo bf bl bg e s root (2 * (n - (ct + 1)) + (m + 2)) x y u from fun _ _ u hu => by
                obtain ⟨_, col5, Ap5, cp5, Ao5, co5, h5⟩ := hu
                refine ⟨_, col5, Ap5, cp5, Ao5, co5, ?_, hIe, fun v hv => enter_fnd (.inl (HK.out.2.2.1 v hv)), enter_fnd (.inl HK.out.2.2.2.1), h5⟩
                show 2 * (n - (t2.count + 1)) + (t2.path ++ [j]).length ≤ _
                rw [HK.out.2.2.2.2.2.1, HK.out.2.2.2.2.1]
                simp only [List.length_append, List.length_singleton]
                have := HR.out.2.2.2.2.2.2.1
                omega)
              have HC := Lib.hid (show ct + 1 ≤ n from by
                have := hIe.cnt
                have e1 : (t2.enter j).count = ct + 1 := by show t2.count + 1 = _; rw [HK.out.2.2.2.2.2.1]
                omega)
              unfold ptr at HE
              clear hIe h4 hzd hcn hpl hnn hfj c1 c2 c3 c4 c5 c7 c8 q1 f1
              go_wp2_with fail
              (with_reducible refine (HT.out _).mono ?_)
              rintro r u ⟨rfl, rfl⟩
              go_wp2_with fail
              (with_reducible refine HE.out.mono ?_)
              rintro r u ⟨rfl, hu⟩
              have HU := Lib.hid (show Left w0 (some ⟨g, o, none⟩) n c p bo bf bl bg (t2.enter j) (.returned (.tuple #[])) u from ⟨rfl, hu⟩)
              clear hu
              go_wp2_with fail
              go_roundg (2 * (n - (ct + 1)) + (m + 2))
              case measure => have := HG.out; have := HC.out; omega
              case rel => exact HF.out _ _ _ HU.out
            · obtain ⟨fj, hfv⟩ : ∃ y, t2.fnd j = y := ⟨_, rfl⟩
              obtain ⟨li, hli⟩ : ∃ y, t2.low i = y := ⟨_, rfl⟩
              obtain ⟨lj, hlj⟩ : ∃ y, t2.low j = y := ⟨_, rfl⟩
              obtain ⟨x, hx⟩ : ∃ y, min li lj = y := ⟨_, rfl⟩
              have q5 := nrow_at h4.fnd hjn hfv
              have q6 := nrow_at h4.low hin hli
              have q7 := nrow_at h4.low hjn hlj
              have f6 := h4.low.frozen i
              have hmin : min (li : Int) (lj : Int) = (x : Int) := by
                rw [← hx]
                by_cases hle : li ≤ lj
                · rw [Int.min_eq_left (by omega), Nat.min_eq_left hle]
                · rw [Int.min_eq_right (by omega), Nat.min_eq_right (by omega)]
              have hfz : ((fj : Int) == 0) = false := by
                have : ¬ (fj : Int) = 0 := by omega
                simpa using this
              have hfz' : ¬ (fj : Int) = 0 := by omega
              have hIm := HK.out.2.1.merge (j := j) HK.out.2.2.2.2.1 hzd (by rw [HM.out.2.2.1]; exact hjn) hfj (by have := HM.out.2.2; unfold MX; omega)
              have h5 := h4.setLow i x
              have HM5 := Lib.hid (And.intro hIm (And.intro hli (And.intro hlj hx)))
              have H5 := Lib.hid h5
              have hne : ¬ bl = bg := cne h4.lc h4.gc (by decide)
              clear hIm h4 h5 hzd hfj hfv hli hlj hx
              go_wp2_with fail
              (with_reducible refine (HT.out _).mono ?_)
              rintro r u ⟨rfl, rfl⟩
              go_wp2_with fail
              (with_reducible refine (HT.out _).mono ?_)
              rintro r u ⟨rfl, rfl⟩
              go_upto_region 8 with fail
              go_region
              obtain ⟨W5, hW5⟩ : ∃ y, (W4.setCell ⟨bl, i, none⟩ (.int .i64 (x : Int))).drew = y := ⟨_, rfl⟩
              have h5 := H5.out.turn (w' := W5) (by rw [← hW5]; exact Below.drew (Below.refl _ _))
              rw [hW5]
              clear hW5 H5 c0 c1 c2 c3 c4 c5 c6 c7 c8 q1 f1 q5 q6 q7 f6
              obtain ⟨c0, c1, c2, c3, c4, c5, c6, c7, c8⟩ := h5.cells
              have q1 := nrow_at h5.gone hin HK.out.2.2.2.2.2.2
              have f1 := h5.gone.frozen i
              have hfin : InRel w0 (some ⟨g, o, none⟩) n c p bo bf bl bg e s root P i ct rn (rn - (k + 1)) (.int .i64 (j : Int)) (W5.setCell ⟨bg, i, none⟩ (.int .i64 ((k : Int) + 1))) := by
                refine ⟨_, col3, Ap3, cp3, Ao3, co3, ?_, HM5.out.1, HK.out.2.2.1, HK.out.2.2.2.1, HK.out.2.2.2.2.1, HK.out.2.2.2.2.2.1, ?_⟩
                · show rn - upd t2.gone i (t2.gone i + 1) i ≤ _
                  rw [upd_same, HK.out.2.2.2.2.2.2]
                  exact Nat.le_refl _
                · have := h5.setGone i (k + 1)
                  unfold TS.step
                  rw [HK.out.2.2.2.2.2.2, HM5.out.2.1, HM5.out.2.2.1, HM5.out.2.2.2]
                  exact this
              have HF := Lib.hid hfin
              clear hfin h5 c0 c1 c2 c3 c4 c5 c6 c7
              go_wp2_with fail
              go_roundg (rn - (k + 1))
              case measure => have := HK.out.1; have := HK.out.2.2.2.2.2.2; have := HKR.out; omega
              case rel => exact HF.out
        · have hkr' : ¬ ((k : Int) < (rn : Int)) := by omega
          have hgl : t2.gone i = (e.getD i []).length := by
            have h6 := hI.gle i
            have h7 := HR.out.2.2.2.1.len
            have h8 := HR.out.2.2.2.2.2.1
            rw [h8] at h6 ⊢
            omega
          have HGL := Lib.hid hgl
          have H3 := Lib.hid h3
          clear hgk2 hI hmono hroot hp hct hk h3 hkr hgl
          go_upto_region 3 with fail
          go_quiet (fail)
          obtain ⟨W3, hW3⟩ : ∃ y, wk.drewN nq = y := ⟨_, rfl⟩
          have h3 := H3.out.turn (w' := W3) (by rw [← hW3]; exact below_drewN (Below.refl _ _) _)
          rw [hW3]
          clear hW3 H3 c0 c1 c2 c3 c4 c5 c6 c7 c8 q1 o1
          obtain ⟨c0, c1, c2, c3, c4, c5, c6, c7, c8⟩ := h3.cells
          have hm := HR.out.2.2.2.2.2.2.1
          have hmn := HR.out.2.2.2.2.2.2.2
          have hpm : t2.path.length = m + 1 := by rw [HK.out.2.2.2.2.1, List.length_append, hm]; rfl
          rw [hpm] at c1
          have hown := h3.path
          have hcap := hown.rw_.le
          rw [hpm] at hcap
          have hmc : m ≤ cp3 := Nat.le_of_succ_le hcap
          have hown2 := hown.take (m := m) (by rw [hpm]; exact Nat.le_succ m)
          have htk : (toZ t2.path).take m = toZ P := by rw [HK.out.2.2.2.2.1, ← hm]; exact toZ_take P i
          rw [htk] at hown2
          have h5 := h3.setPath (P := P) (Turns.refl 6 W3 col3) (by rw [hm]; exact hown2)
          rw [hm] at h5
          have f1 := h3.soft 1
          have hwm : IntKind.i64.wrap ((m : Int) + 1 - 1) = (m : Int) := by rw [show (m : Int) + 1 - 1 = (m : Int) by omega]; exact wr64 (by omega) (by omega)
          have hwm' : wrap64 (m : Int) = (m : Int) := by unfold wrap64; omega
          have H5 := Lib.hid h5
          clear h3 h5 hown hown2 htk hpm hcap hm hmn c0 c2 c3 c4 c5 c6 c7 c8
          go_upto_region 10 with fail
          go_region
          obtain ⟨W4, hW4⟩ : ∃ y, (W3.setCell ⟨p, 1, none⟩ (.slice Ap3 m cp3)).drew = y := ⟨_, rfl⟩
          have h4 := H5.out.turn (w' := W4) (by rw [← hW4]; exact Below.drew (Below.refl _ _))
          rw [hW4]
          clear hW4 H5 c1 f1 hwm hwm' hmc
          obtain ⟨c0, c1, c2, c3, c4, c5, c6, c7, c8⟩ := h4.cells
          obtain ⟨li, hli⟩ : ∃ y, t2.low i = y := ⟨_, rfl⟩
          obtain ⟨fi, hfi⟩ : ∃ y, t2.fnd i = y := ⟨_, rfl⟩
          have q1 := nrow_at h4.low hin hli
          have q2 := nrow_at h4.fnd hin hfi
          have H4 := Lib.hid h4
          have HL := Lib.hid (And.intro hli hfi)
          clear h4 hli hfi
          go_upto_region 11 with fail
          go_quiet (fail)
          obtain ⟨W5, hW5⟩ : ∃ y, W4.drewN nq = y := ⟨_, rfl⟩
          have h5 := H4.out.turn (w' := W5) (by rw [← hW5]; exact below_drewN (Below.refl _ _) _)
          rw [hW5]
          clear hW5 H4 c0 c1 c2 c3 c4 c5 c6 c7 c8 q1 q2
          by_cases hlf : li = fi
          · have hio := HK.out.2.1.sub i (HK.out.2.1.top HK.out.2.2.2.2.1).1
            obtain ⟨A', D, hAD⟩ := List.append_of_mem hio
            have hIc := HK.out.2.1.close HK.out.2.2.2.2.1 hAD HGL.out (by rw [HL.out.1, HL.out.2, hlf])
            have hcn := HK.out.2.1.cnt
            have hpl := HK.out.2.1.plen
            have hfew := HK.out.2.1.few
            have hnn := HM.out.2.2
            have hsrt := HK.out.2.1.osort
            rw [hAD] at hsrt
            have hiD : i ∉ D := fun hm => Nat.lt_irrefl _ ((List.pairwise_cons.1 (List.pairwise_append.1 hsrt).2.1).1 i hm)
            have HCl := Lib.hid (close_any h5 (i := i) (A' := A') (D := D) hAD (fun v hv => by rw [← hnn.1]; exact HK.out.2.1.lt v (HK.out.2.1.opnF v hv)) hiD (by show t2.comps ≤ 1000000; omega) (by show t2.opn.length ≤ 1000000; omega))
            have HF := Lib.hid (show ∀ (x : Value) (y : Value) (u : World), Left w0 (some ⟨g, o, none⟩) n c p bo bf bl bg (t2.close P A' i D) (.returned (.tuple #[])) u → FrRel w0 (some ⟨g, o, none⟩) n c p bo bf bl bg e s root (2 * (n - ct) + m) x y u from fun _ _ u hu => by
              obtain ⟨_, col5, Ap5, cp5, Ao5, co5, h6⟩ := hu
              refine ⟨_, col5, Ap5, cp5, Ao5, co5, ?_, hIc, HK.out.2.2.1, HK.out.2.2.2.1, h6⟩
              show 2 * (n - t2.count) + P.length ≤ _
              rw [HK.out.2.2.2.2.2.1, HR.out.2.2.2.2.2.2.1]
              exact Nat.le_refl _)
            have hlb : ((li : Int) == (fi : Int)) = true := by rw [hlf]; simp
            have hlb' : (li : Int) = (fi : Int) := by rw [hlf]
            unfold ptr at HCl
            clear hio hAD hIc hcn hpl hfew hnn hsrt hiD hlf h5
            go_wp2_with fail
            (with_reducible refine HCl.out.mono ?_)
            rintro r u ⟨rfl, hu⟩
            have HU := Lib.hid (show Left w0 (some ⟨g, o, none⟩) n c p bo bf bl bg (t2.close P A' i D) (.returned (.tuple #[])) u from ⟨rfl, hu⟩)
            clear hu
            go_wp2_with fail
            go_roundg (2 * (n - ct) + m)
            case measure => have := HG.out; omega
            case rel => exact HF.out _ _ _ HU.out
          · have hIp := HK.out.2.1.pop HK.out.2.2.2.2.1 HGL.out (by rw [HL.out.1, HL.out.2]; exact hlf)
            have hlb : ((li : Int) == (fi : Int)) = false := by
              have : ¬ (li : Int) = (fi : Int) := by omega
              simpa using this
            have hlb' : ¬ (li : Int) = (fi : Int) := by omega
            have HF := Lib.hid (show ∀ (x : Value) (y : Value), FrRel w0 (some ⟨g, o, none⟩) n c p bo bf bl bg e s root (2 * (n - ct) + m) x y W5 from fun _ _ => by
              refine ⟨_, col3, Ap3, cp3, Ao3, co3, ?_, hIp, HK.out.2.2.1, HK.out.2.2.2.1, ?_⟩
              · show 2 * (n - t2.count) + P.length ≤ _
                rw [HK.out.2.2.2.2.2.1, HR.out.2.2.2.2.2.2.1]
                exact Nat.le_refl _
              · exact h5)
            clear hIp hlf h5
            go_wp2_with fail
            go_roundg (2 * (n - ct) + m)
            case measure => have := HG.out; omega
            case rel => exact HF.out _ _
end Go.Proofs.Ytpalmnjapiijaaa.Gr
