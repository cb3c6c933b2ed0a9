/-
  Texts of earlier layers, as one.
-/
import Derived.Test.YtpalmnjapiijaaaCompRowMem
import Derived.StillTailTactics
import Derived.Deep.LoopGhost
/- The program's waits: which one a component waits for. -/
namespace Go.Proofs.Ytpalmnjapiijaaa.Gr
open Go.RowKit Mem Dsk

theorem nat_cell {w : World} {B k n c : Nat} {col : Nat → Nat} {A : Option Addr} {l : List Nat} {i x : Nat} (hr : Own1 w B col k A n c (toZ l)) (hi : l[i]? = some x) : i < n ∧ ∃ g o, A = some ⟨g, o, none⟩ ∧ g < w.heap.size ∧ w.cell? ⟨g, o + i, none⟩ = some (.int .i64 (x : Int)) := by
  have hl := hr.len
  rw [toZ_length] at hl
  have hin : i < n := by have := (List.getElem?_eq_some_iff.1 hi).1; omega
  obtain ⟨g', o', z, e, hg, hz, hc⟩ := int_at hr.rw_ hin
  have : (toZ l)[i]? = some (x : Int) := by
    unfold toZ
    rw [List.getElem?_map, hi]
    rfl
  rw [this] at hz
  cases hz
  exact ⟨hin, g', o', e, hg, hc⟩
def fW (f : PF) (k t q : Nat) : PF := { f with a := upd f.a k t, q := upd f.q k q }
def WtRel (w0 : World) (A : Option Addr) (n c p bo g cg : Nat) (e : Graph) (f : PF) (K : Nat) (BL : Nat → List Nat) (Af : Option Addr) (cf : Nat) (F : List Nat) (w : World) (col : Nat → Nat) (k : Nat) (gk : Nat) (_ _ : Value) (wr : World) : Prop := ∃ t q, (nd e e.length k).length + 1 - t ≤ gk ∧ RM w0 A n c p bo g cg wr col (rk e) (fW f k t q) K (nd e e.length) BL Af cf F ∧ Hq.Trn KA w col wr col ∧ past e f.pl k t q
def WiRel (w0 : World) (A : Option Addr) (n c p bo g cg : Nat) (e : Graph) (f : PF) (K : Nat) (BL : Nat → List Nat) (Af : Option Addr) (cf : Nat) (F : List Nat) (w : World) (col : Nat → Nat) (k t rn : Nat) (gk : Nat) (_ : Value) (wr : World) : Prop := ∃ q, rn - q ≤ gk ∧ RM w0 A n c p bo g cg wr col (rk e) (fW f k t q) K (nd e e.length) BL Af cf F ∧ Hq.Trn KA w col wr col ∧ past e f.pl k t q
/-- What waits answers. -/
def WtPost (w0 : World) (A : Option Addr) (n c p bo g cg : Nat) (e : Graph) (f : PF) (K : Nat) (BL : Nat → List Nat) (Af : Option Addr) (cf : Nat) (F : List Nat) (w : World) (col : Nat → Nat) (k : Nat) (x : Ending) (w' : World) : Prop := ∃ (d : Nat) (b : Bool) (t q : Nat), x = .returned (.tuple #[.int .i64 (d : Int), .bool b]) ∧ RM w0 A n c p bo g cg w' col (rk e) (fW f k t q) K (nd e e.length) BL Af cf F ∧ Hq.Trn KA w col w' col ∧ past e f.pl k t q ∧ (b = true → d < K ∧ d ≠ k ∧ f.pl d = false ∧ dep e k d) ∧ (b = false → doneC e f.pl k)
theorem upd_upd {α : Type} (f : Nat → α) (i : Nat) (a b : α) : upd (upd f i a) i b = upd f i b := by
  funext v
  unfold upd
  split <;> rfl
theorem fW_q {f : PF} {k t q : Nat} (q' : Nat) : ({ fW f k t q with q := upd (fW f k t q).q k q' } : PF) = fW f k t q' := by
  unfold fW
  simp only [upd_upd]
theorem fW_a {f : PF} {k t q : Nat} (t' : Nat) : ({ fW f k t q with a := upd (fW f k t q).a k t' } : PF) = fW f k t' q := by
  unfold fW
  simp only [upd_upd]
theorem mat_some {w : World} {A : Option Addr} {n c : Nat} {e : Graph} (h : Mat w A n c e) (hn : 0 < n) : ∃ g o, A = some ⟨g, o, none⟩ := by
  obtain ⟨g, o, _, _, _, _, h1, _⟩ := h.at_ hn
  exact ⟨g, o, h1⟩
set_option maxRecDepth 20000 in
set_option maxHeartbeats 16000000 in
theorem waits_any {w0 w : World} {A : Option Addr} {n c p bo g cg k : Nat} {e : Graph} {f : PF} {K : Nat} {BL : Nat → List Nat} {Af : Option Addr} {cf : Nat} {F : List Nat} {col : Nat → Nat} (hM : Mat w0 A n c e) (hz : ∀ l ∈ e, l.length ≤ 17592186044416) (h : RM w0 A n c p bo g cg w col (rk e) f K (nd e e.length) BL Af cf F) (hK : K = kc e e.length) (hk : k < K) (hp : past e f.pl k (f.a k) (f.q k)) (hn : n ≤ 1000000) :
    Calls Try.prog 25 #[ptr p, .int .i64 (k : Int)] w (WtPost w0 A n c p bo g cg e f K BL Af cf F w col k) := by
  have hln := hM.len
  obtain ⟨ga, oa, rfl⟩ := mat_some hM (by have := kc_le (e := e) e.length; omega)
  have HI := Lib.hid (show WtRel w0 (some ⟨ga, oa, none⟩) n c p bo g cg e f K BL Af cf F w col k ((nd e e.length k).length + 1) undef undef w from ⟨f.a k, f.q k, by omega, by
    unfold fW
    rw [upd_id, upd_id]
    exact h, Hq.Trn.refl KA w col, hp⟩)
  obtain ⟨c0, c1, c2, c3⟩ := h.cells
  obtain ⟨⟨N0, m, cN⟩, hno⟩ : ∃ y, f.no k = y := ⟨_, rfl⟩
  have hmm : (nd e e.length k).length = m := by
    have := (h.nod k hk).len
    rw [hno, toZ_length] at this
    exact this
  have HM := Lib.hid (And.intro hM (And.intro hz (And.intro hln (And.intro hK (And.intro hn (And.intro hno hmm))))))
  clear hM hz h hK hp hn hln hno hmm
  unfold ptr
  go_enter Try.func25, Try.ntmps25
  go_wp2_with fail
  go_loopg [7, 8] ((nd e e.length k).length + 1) (WtRel w0 (some ⟨ga, oa, none⟩) n c p bo g cg e f K BL Af cf F w col k)
  case atStart => exact HI.out
  case round =>
    rename World => wo
    obtain ⟨t, q, hgk, h1, ht1, hpa⟩ := hrel
    clear HI c0 c1 c2 c3
    obtain ⟨ko, rfl⟩ : ∃ y, y = gk := ⟨_, rfl⟩
    obtain ⟨d0, d1, d2, d3, d4⟩ := h1.part hk
    have e0 : (fW f k t q).no k = (N0, m, cN) := HM.out.2.2.2.2.2.1
    rw [e0] at d0
    have e1 : (fW f k t q).a k = t := upd_same ..
    rw [e1] at d1
    have hmn : m ≤ 1000000 := by have h6 := HM.out.2.2.2.2.2.2; have h7 := nd_len (e := e) e.length k; have := HM.out; omega
    by_cases htm : t < m
    · obtain ⟨u, hu⟩ : ∃ u, (nd e e.length k)[t]? = some u := ⟨_, List.getElem?_eq_getElem (by rw [HM.out.2.2.2.2.2.2]; exact htm)⟩
      obtain ⟨hul, hur⟩ := mem_nd.1 (List.mem_of_getElem? hu)
      have hun : u < n := by rw [← HM.out.2.2.1]; exact hul
      obtain ⟨R, rn, rc, l, hgw, hl, o1, hr0⟩ := mat_at HM.out.1 hun
      have hrn : rn ≤ 17592186044416 := by have := HM.out.2.1 l (List.mem_of_getElem? hl); have := hr0.len; omega
      have hlD : e.getD u [] = l := getD_at hl
      have hnod := h1.nod k hk
      rw [e0] at hnod
      obtain ⟨_, gN, oN, hN, hgN, e2⟩ := nat_cell hnod hu
      have hN : N0 = some ⟨gN, oN, none⟩ := hN
      subst hN
      have o1w := (h1.bel.cell hgw).trans o1
      have HR := Lib.hid (And.intro hgw (And.intro hl (And.intro o1 (And.intro hr0 (And.intro hrn (And.intro hlD (And.intro hu (And.intro hul (And.intro hur (And.intro hgk hmn))))))))))
      have H1 := Lib.hid (And.intro h1 (And.intro ht1 hpa))
      clear h1 ht1 hpa e0 e1 hgk hul hur hgw hl o1 hr0 hrn hlD hnod hu hgN o1w e2 d2 d3 d4 hmn
      go_upto_region 2 with fail
      go_quiet (fail)
      obtain ⟨W1, hW1⟩ : ∃ y, wo.drewN nq = y := ⟨_, rfl⟩
      have hb1 : Below wo.heap.size wo W1 := by rw [← hW1]; exact below_drewN (Below.refl _ _) _
      rw [hW1]
      have h1 := H1.out.1.turn hb1
      have ht1 := H1.out.2.1.trans (Hq.Trn.ofBelow hb1 KA col) ka0
      have hpa := H1.out.2.2
      clear hW1 hb1 d0 d1 H1
      obtain ⟨c0, c1, c2, c3⟩ := h1.cells
      obtain ⟨d0, d1, d2, d3, d4⟩ := h1.part hk
      have e0 : (fW f k t q).no k = (some ⟨gN, oN, none⟩, m, cN) := HM.out.2.2.2.2.2.1
      rw [e0] at d0
      have e1 : (fW f k t q).a k = t := upd_same ..
      rw [e1] at d1
      have hnod := h1.nod k hk
      rw [e0] at hnod
      obtain ⟨_, gN', oN', hN', _, e2⟩ := nat_cell hnod HR.out.2.2.2.2.2.2.1
      cases hN'
      have o1w := (h1.bel.cell HR.out.1).trans HR.out.2.2.1
      have H1 := Lib.hid (And.intro h1 (And.intro ht1 hpa))
      clear h1 ht1 hpa e0 e1 hnod c1 c2 c3 d2 d3 d4
      go_upto_region 4 with fail
      go_quiet (fail)
      obtain ⟨W2, hW2⟩ : ∃ y, W1.drewN nq = y := ⟨_, rfl⟩
      have hb2 : Below W1.heap.size W1 W2 := by rw [← hW2]; exact below_drewN (Below.refl _ _) _
      rw [hW2]
      have HI2 := Lib.hid (show WiRel w0 (some ⟨ga, oa, none⟩) n c p bo g cg e f K BL Af cf F w col k t rn rn undef W2 from ⟨q, Nat.sub_le _ _, H1.out.1.turn hb2, H1.out.2.1.trans (Hq.Trn.ofBelow hb2 KA col) ka0, H1.out.2.2⟩)
      clear hW2 hb2 d0 d1 c0 e2 o1w H1
      go_wp2_with fail
      go_loopg [8] rn (WiRel w0 (some ⟨ga, oa, none⟩) n c p bo g cg e f K BL Af cf F w col k t rn)
      case atStart => exact HI2.out
      case round =>
        rename World => wi
        obtain ⟨q, hgk2, h1, ht1, hpa⟩ := hrel
        clear HI2
        obtain ⟨c0, c1, c2, c3⟩ := h1.cells
        obtain ⟨d0, d1, d2, d3, d4⟩ := h1.part hk
        have e1 : (fW f k t q).q k = q := upd_same ..
        rw [e1] at d2
        have f2 := h1.soft (k * 5 + 2)
        have f1 := h1.soft (k * 5 + 1)
        have hzd := HR.out.2.2.2.2.2.1
        by_cases hqr : q < rn
        · obtain ⟨g2, o2, z, hR, hg2, hz, e3⟩ := int_at HR.out.2.2.2.1 hqr
          subst hR
          have e3w := (h1.bel.cell (p := ⟨g2, o2 + q, none⟩) hg2).trans e3
          have hzq : (e.getD u [])[q]? = some z := by rw [hzd]; exact hz
          have hwq : IntKind.i64.wrap ((q : Int) + 1) = (q : Int) + 1 := wr64 (by have := HR.out.2.2.2.2.1; omega) (by have := HR.out.2.2.2.2.1; omega)
          by_cases hzn : z < 0 ∨ (n : Int) ≤ z
          · have HT := Lib.hid (there_no (some ⟨ga, oa, none⟩) n c z wi.drew hzn)
            have hf := h1.turn (w' := wi.drew) (Below.drew (Below.refl _ _))
            obtain ⟨hf1, hf2⟩ := hf.setQ hk (q + 1)
            rw [fW_q] at hf1
            have hfin : WiRel w0 (some ⟨ga, oa, none⟩) n c p bo g cg e f K BL Af cf F w col k t rn (rn - (q + 1)) undef (wi.drew.setCell ⟨g, k * 5 + 2, none⟩ (.int .i64 ((q : Int) + 1))) :=
              ⟨q + 1, Nat.le_refl _, hf1, (ht1.trans (Hq.Trn.ofBelow (Below.drew (Below.refl _ _)) KA col) ka0).trans hf2 ka0, past_next hpa HR.out.2.2.2.2.2.2.1 hzq fun j h2 h3 => by have := HM.out.2.2.1; omega⟩
            have HF := Lib.hid (And.intro hfin hgk2)
            clear h1 ht1 hpa hf hf1 hf2 hfin hgk2 hzq hzn c1 c2 c3 d0 d1 d3 d4 f1 hz hg2 e3 e1 hzd
            go_upto_region 7 with fail
            go_still_tail 11, (by kernel_rfl)
            change wpList _ _ _ _ _ wi.drew
            go_wp2_with fail
            (with_reducible refine HT.out.mono ?_)
            rintro r u2 ⟨rfl, rfl⟩
            go_wp2_with fail
            go_roundg (rn - (q + 1))
            case measure => have := HF.out.2; omega
            case rel => exact HF.out.1
          · obtain ⟨j, rfl⟩ := Int.eq_ofNat_of_zero_le (show 0 ≤ z by omega)
            have hjn : j < n := by omega
            have HT := Lib.hid (there_yes (some ⟨ga, oa, none⟩) n c (j : Int) wi.drew (by omega) (by omega))
            have hb3 : Below wi.heap.size wi wi.drew := Below.drew (Below.refl _ _)
            have H3 := Lib.hid (And.intro (h1.turn hb3) (ht1.trans (Hq.Trn.ofBelow hb3 KA col) ka0))
            have HP := Lib.hid (And.intro hpa (And.intro hgk2 hzq))
            have HG2 := Lib.hid (And.intro hg2 e3)
            clear h1 ht1 hpa hgk2 hzq hzn c1 c2 c3 d0 d1 d3 d4 f1 f2 hz hg2 e3 e1 hzd hb3
            go_upto_region 7 with fail
            go_still_tail 11, (by kernel_rfl)
            change wpList _ _ _ _ _ wi.drew
            go_wp2_with fail
            (with_reducible refine HT.out.mono ?_)
            rintro r u2 ⟨rfl, rfl⟩
            obtain ⟨W3, hW3⟩ : ∃ y, wi.drew = y := ⟨_, rfl⟩
            have h3 := H3.out
            rw [hW3] at h3 ⊢
            clear hW3 H3 HT c0 d2 e3w
            obtain ⟨h3, ht3⟩ := h3
            obtain ⟨c0, c1, c2, c3⟩ := h3.cells
            obtain ⟨d0, d1, d2, d3, d4⟩ := h3.part hk
            have e1 : (fW f k t q).q k = q := upd_same ..
            rw [e1] at d2
            have e3w := (h3.bel.cell (p := ⟨g2, o2 + q, none⟩) HG2.out.1).trans HG2.out.2
            obtain ⟨d, hd⟩ : ∃ y, rk e j = y := ⟨_, rfl⟩
            have hjl : j < e.length := by rw [HM.out.2.2.1]; exact hjn
            have hdK : d < K := by rw [← hd, HM.out.2.2.2.1]; exact rk_lt hjl hjl
            have q1 := nrow_at h3.ofr hjn hd
            have H3 := Lib.hid (And.intro h3 ht3)
            have HD := Lib.hid (And.intro hd hjl)
            clear h3 ht3 e1 hd hjl c0 c2 c3 d0 d1 d3 d4
            go_upto_region 8 with fail
            go_quiet (fail)
            obtain ⟨W4, hW4⟩ : ∃ y, W3.drewN nq = y := ⟨_, rfl⟩
            have hb4 : Below W3.heap.size W3 W4 := by rw [← hW4]; exact below_drewN (Below.refl _ _) _
            rw [hW4]
            have h4 := H3.out.1.turn hb4
            have ht4 := H3.out.2.trans (Hq.Trn.ofBelow hb4 KA col) ka0
            clear hW4 hb4 H3 c1 d2 e3w q1
            obtain ⟨c0, c1, c2, c3⟩ := h4.cells
            obtain ⟨d0, d1, d2, d3, d4⟩ := h4.part hk
            obtain ⟨_, _, _, _, p4⟩ := h4.part hdK
            have e1 : (fW f k t q).q k = q := upd_same ..
            rw [e1] at d2
            have f2 := h4.soft (k * 5 + 2)
            clear e1
            by_cases hdk : d = k
            · have hdk' : (d : Int) = (k : Int) := by rw [hdk]
              have hdb : ((d : Int) == (k : Int)) = true := by rw [hdk]; simp
              have hf := h4.setQ hk (q + 1)
              rw [fW_q] at hf
              have HF := Lib.hid (And.intro (show WiRel w0 (some ⟨ga, oa, none⟩) n c p bo g cg e f K BL Af cf F w col k t rn (rn - (q + 1)) undef (W4.setCell ⟨g, k * 5 + 2, none⟩ (.int .i64 ((q : Int) + 1))) from ⟨q + 1, Nat.le_refl _, hf.1, ht4.trans hf.2 ka0, past_next HP.out.1 HR.out.2.2.2.2.2.2.1 HP.out.2.2 fun j' h2 h3 => by
                have : j = j' := by omega
                subst this
                exact .inl (by rw [HD.out.1]; exact hdk)⟩) HP.out.2.1)
              clear h4 ht4 hf c0 c1 c3 d0 d1 d3 d4
              go_wp2_with fail
              go_roundg (rn - (q + 1))
              case measure => have := HF.out.2; omega
              case rel => exact HF.out.1
            · have hdk' : ¬ (d : Int) = (k : Int) := by omega
              have hdb : ((d : Int) == (k : Int)) = false := by simpa using hdk'
              obtain ⟨b, hb⟩ : ∃ y, f.pl d = y := ⟨_, rfl⟩
              have hb' : (fW f k t q).pl d = b := hb
              rw [hb'] at p4
              cases b with
              | true =>
                have hf := h4.setQ hk (q + 1)
                rw [fW_q] at hf
                have HF := Lib.hid (And.intro (show WiRel w0 (some ⟨ga, oa, none⟩) n c p bo g cg e f K BL Af cf F w col k t rn (rn - (q + 1)) undef (W4.setCell ⟨g, k * 5 + 2, none⟩ (.int .i64 ((q : Int) + 1))) from ⟨q + 1, Nat.le_refl _, hf.1, ht4.trans hf.2 ka0, past_next HP.out.1 HR.out.2.2.2.2.2.2.1 HP.out.2.2 fun j' h2 h3 => by
                  have : j = j' := by omega
                  subst this
                  exact (.inr (by rw [HD.out.1]; exact hb))⟩) HP.out.2.1)
                clear hb hb' h4 ht4 hf c0 c1 c3 d0 d1 d3 d4
                go_wp2_with fail
                go_roundg (rn - (q + 1))
                case measure => have := HF.out.2; omega
                case rel => exact HF.out.1
              | false =>
                have HF := Lib.hid (show WtPost w0 (some ⟨ga, oa, none⟩) n c p bo g cg e f K BL Af cf F w col k (.returned (.tuple #[.int .i64 (d : Int), .bool true])) W4 from ⟨d, true, t, q, rfl, h4, ht4, HP.out.1, fun _ => ⟨hdK, hdk, hb, u, j, mem_nd.2 ⟨HR.out.2.2.2.2.2.2.2.1, HR.out.2.2.2.2.2.2.2.2.1⟩, HD.out.2, List.mem_of_getElem? HP.out.2.2, HD.out.1⟩, fun h => by cases h⟩)
                clear hb hb' h4 ht4 c0 c1 c3 d0 d1 d3 d4 hdk
                go_wp2_with fail
                go_ret2
                exact HF.out
        · have hqr' : ¬ ((q : Int) < (rn : Int)) := by omega
          have hpn := past_row hpa HR.out.2.2.2.2.2.2.1 (by rw [hzd]; have := HR.out.2.2.2.1.len; omega)
          have hf := h1.setQ hk 0
          rw [fW_q] at hf
          have htk : t + 1 ≤ 1000000 := by have := HR.out.2.2.2.2.2.2.2.2.2.2; omega
          have hwt : IntKind.i64.wrap ((t : Int) + 1) = (t : Int) + 1 := wr64 (by omega) (by omega)
          have HP := Lib.hid (And.intro hpn (And.intro hf ht1))
          clear h1 ht1 hpa hf hgk2 c1 c2 c3 d0 d3 d4 e1 hzd hpn htk
          go_upto_region 3 with fail
          obtain ⟨W3, hW3⟩ : ∃ y, wi.setCell ⟨g, k * 5 + 2, none⟩ (.int .i64 0) = y := ⟨_, rfl⟩
          have h3 := HP.out.2.1
          have e00 : ((0 : Nat) : Int) = 0 := rfl
          rw [e00, hW3] at h3
          rw [hW3]
          obtain ⟨h3, ht3⟩ := h3
          clear hW3 e00 c0 d1 d2 f1 f2
          obtain ⟨_, d1, _, _, _⟩ := h3.part hk
          have e1 : (fW f k t 0).a k = t := upd_same ..
          rw [e1] at d1
          have f1 := h3.soft (k * 5 + 1)
          have hf := h3.setA hk (t + 1)
          rw [fW_a] at hf
          have HF := Lib.hid (show ∀ x y, WtRel w0 (some ⟨ga, oa, none⟩) n c p bo g cg e f K BL Af cf F w col k ((nd e e.length k).length + 1 - (t + 1)) x y (W3.setCell ⟨g, k * 5 + 1, none⟩ (.int .i64 ((t : Int) + 1))) from fun _ _ => ⟨t + 1, 0, Nat.le_refl _, hf.1, (HP.out.2.2.trans ht3 ka0).trans hf.2 ka0, HP.out.1⟩)
          clear h3 ht3 hf e1
          go_wp2_with fail
          go_roundg ((nd e e.length k).length + 1 - (t + 1))
          case measure => have := HR.out.2.2.2.2.2.2.2.2.2.1; have := HM.out.2.2.2.2.2.2; omega
          case rel => exact HF.out _ _
    · have htm' : ¬ ((t : Int) < (m : Int)) := by omega
      have HF := Lib.hid (show ∀ u, Below wo.heap.size wo u → WtPost w0 (some ⟨ga, oa, none⟩) n c p bo g cg e f K BL Af cf F w col k (.returned (.tuple #[.int .i64 0, .bool false])) u from fun u hu => ⟨0, false, t, q, rfl, h1.turn hu, ht1.trans (Hq.Trn.ofBelow hu KA col) ka0, hpa, (fun h => by cases h), fun _ => past_done hpa (by rw [HM.out.2.2.2.2.2.2]; omega)⟩)
      clear h1 ht1 hpa d2 d3 d4 e0 e1 hgk
      go_upto_region 2 with fail
      go_quiet (fail)
      go_wp2_with fail
      go_ret2
      exact HF.out _ (below_drewN (Below.refl _ _) _)
end Go.Proofs.Ytpalmnjapiijaaa.Gr
