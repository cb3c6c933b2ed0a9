/-
  codec.List of any items: the item, in memory of the call's own.
-/
import Derived.Test.YtccbkpdkmdnmfaaCodListMem
import Derived.Deep.LoopGhost
namespace Go.Proofs.Ytccbkpdkmdnmfaa
open Go.RowKit Mem Cod

theorem info23 : (Try.prog.info? 35).map (fun i => (i.zero, i.size, i.bytes)) = some (some (.slice none 0 0), 1, 24) := by kernel_rfl

/-- A row that is still to be gone through. -/
structure Ent where
  A : Option Addr
  n : Nat
  c : Nat
  l : List It
def Ent.val (e : Ent) : Value := .slice e.A e.n e.c
def ld : List Ent → Nat
  | [] => 0
  | e :: r => wts e.l + 1 + ld r
theorem ld_append (a b : List Ent) : ld (a ++ b) = ld a + ld b := by
  induction a with
  | nil => simp [ld]
  | cons e a ih => simp [ld, ih]; omega
theorem length_ld (es : List Ent) : es.length ≤ ld es := by
  induction es with
  | nil => simp
  | cons e a ih => simp [ld]; omega

/-- The rows that are still to be gone through, as they lie in 'work'. -/
structure Work (T : Nat → Prop) (B : Nat) (w : World) (es : List Ent) (Wv : Option Addr) (cw : Nat) : Prop where
  own : w.ownsRow (B + 1) 35 1 (.slice Wv es.length cw) es.length (es.map Ent.val)
  fine : ∀ e ∈ es, Fine T B w e.A e.n e.c e.l

/-- The answer's own cells, as they are laid. -/
def zero25 : Obj := .cells #[.int .i64 0, .int .u64 0, .string ⟨#[]⟩, .slice none 0 0] 37
def OutRel (S : Nat → Prop) (w : World) (V : Option Addr) (n c : Nat) (l : List It) (K : Nat) (work : Value) (wr : World) : Prop :=
  ∃ (es : List Ent) (Wv : Option Addr) (cw : Nat), work = .slice Wv es.length cw ∧ Work S w.heap.size wr es Wv cw ∧ ld es ≤ K ∧ K ≤ 200001 ∧ Fine S w.heap.size wr V n c l ∧ Below (w.heap.size + 1) (w.alloc zero25) wr
def InRel (S : Nat → Prop) (w : World) (V : Option Addr) (n c : Nat) (l : List It) (e : Ent) (K : Nat) (work i : Value) (wr : World) : Prop :=
  ∃ (k : Nat) (es : List Ent) (Wv : Option Addr) (cw : Nat), k ≤ e.n ∧ i = .int .i64 k ∧ work = .slice Wv es.length cw ∧ Work S w.heap.size wr es Wv cw ∧ ld es + wts (e.l.drop k) ≤ K ∧ Fine S w.heap.size wr e.A e.n e.c e.l ∧ Fine S w.heap.size wr V n c l ∧ Below (w.heap.size + 1) (w.alloc zero25) wr

/-- A row that was just copied. -/
theorem fine_clone {T : Nat → Prop} {B : Nat} {w w' : World} {V : Option Addr} {n c : Nat} {hs : List Hung} (ho : w'.ownsRow w.heap.size 37 4 (.slice V n c) n (cells4 hs)) (hb : Below w.heap.size w w') (hB : B < w.heap.size) (hl : ∀ h ∈ hs, Lies w (Itm T B w) h.x h.A h.c) :
    Fine T B w' V n c (hs.map (·.x)) := by
  have hlen : hs.length = n := by have := ho.1; rw [length_cells4] at this; omega
  have hn : n = 0 ∨ 0 < n := by omega
  rcases ho.2 with ⟨e, h0⟩ | ⟨g, cap, cur, e, hg, hh, hnc, hm, hsz, ht⟩
  · injection e with e1 e2 e3
    subst e1; subst e2; subst e3
    exact ⟨Row.of_hung hlen ⟨Nat.le_refl _, by omega, fun _ => rfl⟩ (fun h hh => (hl h hh).keep _ (fun _ hb' hlt => hb'.bel hb hlt) hb.size fun _ _ hp => hb.cell hp) (fun h => by omega), fun h => by omega⟩
  · injection e with e1 e2 e3
    subst e1; subst e3
    unfold maxLen at hm
    have hlt := (Array.getElem?_eq_some_iff.1 hh).1
    exact ⟨Row.of_hung hlen ⟨hnc, by omega, (fun e => by cases e)⟩ (fun h hh => (hl h hh).keep _ (fun _ hb' hlt => hb'.bel hb hlt) hb.size fun _ _ hp => hb.cell hp) (fun _ => ⟨_, rfl, .inr ⟨by show B < g; omega, cur, hh⟩, hlt, ho.cells (g := g) rfl⟩), fun _ => ⟨g, cur, rfl, by omega, hh⟩⟩

/-- .. behind an append onto the rows that are still to be gone through. -/
theorem Fine.pushed {T : Nat → Prop} {B : Nat} {w w' : World} {A : Option Addr} {n c : Nat} {l : List It} {v : Value} {m : Nat} {xs : List Value} (h : Fine T B w A n c l) (ho : w.ownsRow (B + 1) 35 1 v m xs) (hg : w.grownBy w' v.ownBlock) : Fine T B w' A n c l := by
  cases hv : v.ownBlock with
  | none =>
    rw [hv] at hg
    exact h.bel (gr_below hg (Nat.le_refl _) fun b hb => by cases hb)
  | some g =>
    rw [hv] at hg
    refine h.grown hg (ho.lt g hv).1 fun cur hc => own_type_ne ho hc (by decide) hv

set_option maxHeartbeats 4000000 in
theorem list_more (A : Option Addr) (n c : Nat) (S : Nat → Prop) (l : List It) (w : World) (hl : Row w S A n c l) (hS : ∀ b, S b → b < w.heap.size) (hsz : wts l ≤ 100000) :
    Calls Try.prog 33 #[.slice A n c] w fun e w' => ∃ V c', e = .returned (.agg #[.int .i64 2, .int .u64 0, .string ByteArray.empty, .slice V n c']) ∧ Row w' (fun b => b < w'.heap.size ∧ (S b ∨ w.heap.size < b)) V n c' l ∧ Below w.heap.size w w' := by
  obtain ⟨i0, hi, hz0, hz1, hz2⟩ := info_parts info23
  obtain ⟨hs, hhs, hLies, hcell⟩ := Row.hung hl
  have hlen := hl.1
  have hn : n ≤ 100000 := by have := length_wts l; omega
  obtain ⟨hnc, hcm, hA0⟩ := hl.2.1
  have hl4 : (cells4 hs).length = n * 4 := by rw [length_cells4, ← hlen, ← hhs]; simp
  have HHS := Lib.hid hhs
  have HLI := Lib.hid hLies
  have HCE := Lib.hid hcell
  have HL4 := Lib.hid hl4
  have HS := Lib.hid hS
  have HA0 := Lib.hid hA0
  clear hhs hLies hcell hl4 hS hl hlen hA0
  go_enter Try.func33, Try.ntmps33
  go_wp2_with fail
  refine (clone_any A n c (cells4 hs) _ HL4.out (by omega) (fun e => by have := HA0.out e; omega) (cells4_one _) (fun ad e j u hu => (World.cell?_alloc_lt w _ _ (World.block_lt_of_cell? w _ (HCE.out ad e j u hu))).trans (HCE.out ad e j u hu))).mono ?_
  rintro e w1 ⟨V, cv, rfl, hown1, hb1⟩
  have hf1 : Fine S w.heap.size w1 V n cv l := by
    have := fine_clone (T := S) (B := w.heap.size) hown1 hb1 (by rw [size_alloc]; omega) fun h hh => ((HLI.out h hh).alloc _).more fun b hb _ => .inl ⟨HS.out b hb, hb⟩
    rwa [HHS.out] at this
  have hbw1 : Below (w.heap.size + 1) (w.alloc zero25) w1 := by rw [← size_alloc w zero25]; exact hb1
  have hst : OutRel S w V n cv l (wts l + 1) (.slice (some ⟨w1.heap.size, 0, none⟩) 1 1) (w1.alloc (.cells #[.slice V n cv] 35)) := by
    refine ⟨[⟨V, n, cv, l⟩], _, 1, rfl, ⟨World.ownsRow_lit w1 #[.slice V n cv] 1 (by have := hbw1.size; rwa [size_alloc] at this) (by simp [maxLen]) rfl, ?_⟩, by simp [ld], by omega, hf1.bel (bel_alloc (Below.refl _ _) _), hbw1.alloc (by have := hbw1.size; rwa [size_alloc] at this) _⟩
    intro e he
    rw [List.mem_singleton.1 he]
    exact hf1.bel (bel_alloc (Below.refl _ _) _)
  clear hown1 hb1 hf1 hbw1
  go_wp2_with fail
  go_loopg [4] (wts l + 1) (OutRel S w V n cv l)
  case atStart => exact hst
  case round =>
    clear hst
    obtain ⟨es, Wv, cw, rfl, hwk, hld, hK, hfo, hbw⟩ := hrel
    rcases List.eq_nil_or_concat es with rfl | ⟨es', ⟨eA, en, ec, el⟩, rfl⟩
    · have HFO := Lib.hid hfo
      have HBW := Lib.hid hbw
      clear hfo hbw hwk
      simp only [List.length_nil]
      have hblk : Blk wr w.heap.size 37 #[.int .i64 0, .int .u64 0, .string ⟨#[]⟩, .slice none 0 0] := (Blk.new w _ _).below HBW.out (by omega)
      obtain ⟨c0, c1, c2, c3⟩ := blk4 hblk
      have z0 := hblk.soft 0
      have z1 := hblk.soft 1
      have z2 := hblk.soft 2
      have z3 := hblk.soft 3
      go_wp2_with fail
      obtain ⟨hblk2, hgr⟩ := blk4_set hblk (.int .i64 2) (.int .u64 0) (.string ⟨#[]⟩) (.slice V n cv)
      generalize (((wr.setCell ⟨w.heap.size, 0, none⟩ (.int .i64 2)).setCell ⟨w.heap.size, 1, none⟩ (.int .u64 0)).setCell ⟨w.heap.size, 2, none⟩ (.string ⟨#[]⟩)).setCell ⟨w.heap.size, 3, none⟩ (.slice V n cv) = w9 at hblk2 hgr ⊢
      obtain ⟨d0, d1, d2, d3⟩ := blk4 hblk2
      refine bodyPost_ret (v := .agg #[.int .i64 2, .int .u64 0, .string ByteArray.empty, .slice V n cv]) (by simp [results, Try.results33, go_sem, d0, d1, d2, d3]; rfl) rfl ?_
      refine ⟨V, cv, rfl, HFO.out.row.keep (fun b hi hb => ⟨by have := hgr.size; omega, hi.elim (fun h => .inl h.2) (fun h => .inr h.1)⟩) hgr.size fun q hq hlt => World.cell?_of_block (hgr.block _ hlt fun e => ?_), ?_⟩
      · have e' : q.block = w.heap.size := by simpa using e
        rcases hq with hq | ⟨hq, _⟩ <;> omega
      · exact (bel_alloc (Below.refl _ _) zero25).trans ((HBW.out.mono (by omega)).trans (gr_below hgr (by have := HBW.out.size; rw [size_alloc] at this; omega) fun b hb => by cases hb; exact Nat.le_refl _))
    · rw [List.concat_eq_append] at *
      have hes : (es' ++ [(⟨eA, en, ec, el⟩ : Ent)]).length = es'.length + 1 := by simp
      rw [hes]
      have hml : es'.length ≤ 200001 := by have := length_ld (es' ++ [(⟨eA, en, ec, el⟩ : Ent)]); omega
      rw [ld_append] at hld
      simp only [ld] at hld
      have hown := hwk.own
      rw [hes, List.map_append] at hown
      simp only [List.map_cons, List.map_nil] at hown
      have hrd := Rd.own hown
      obtain ⟨ad, u, rfl, _, hu, hcu⟩ := hrd.at_ (k := es'.length) (by omega)
      rw [List.getElem?_append_right (by simp)] at hu
      simp at hu
      subst hu
      have hle := hrd.le
      have hcap := hrd.cap
      unfold maxLen at hcap
      have hwk' : Work S w.heap.size wr es' (some ad) cw := ⟨ownsRow_pop hown, fun e he => hwk.fine e (by simp [he])⟩
      have hfe : Fine S w.heap.size wr eA en ec el := hwk.fine (⟨eA, en, ec, el⟩ : Ent) (by simp)
      have HST := Lib.hid (show InRel S w V n cv l ⟨eA, en, ec, el⟩ (ld es' + wts el) (.slice (some ad) es'.length cw) (.int .i64 0) wr from ⟨0, es', some ad, cw, Nat.zero_le _, rfl, rfl, hwk', by simp, hfe, hfo, hbw⟩)
      have hcu' : wr.cell? (ad.add es'.length) = some (.slice eA en ec) := hcu
      have hen : el.length = en := hfe.row.1
      have hec : en ≤ ec ∧ ec ≤ 9223372036854775807 ∧ (eA = none → ec = 0) := hfe.row.2.1
      have hew : en ≤ 200001 := by have := length_wts el; omega
      have HEN := Lib.hid hen
      clear hes hown hrd hcu hwk hwk' hfe hfo hbw hen
      go_wp2_with fail
      go_loopw [4, 27] (InRel S w V n cv l ⟨eA, en, ec, el⟩ (ld es' + wts el)) (fun _ i _ => en - (intOf i).toNat)
      case atStart => exact HST.out
      case round =>
        clear HST hcu'
        obtain ⟨k, es, Wv, cw2, hk, rfl, rfl, hwk, hld2, hfe, hfo, hbw⟩ := hrel
        replace hk : k ≤ en := hk
        replace hld2 : ld es + wts (el.drop k) ≤ ld es' + wts el := hld2
        replace hfe : Fine S w.heap.size wr eA en ec el := hfe
        have HWK := Lib.hid hwk
        have HFE := Lib.hid hfe
        have HFO := Lib.hid hfo
        have HBW := Lib.hid hbw
        clear hwk hfe hfo hbw
        by_cases hlt : k < en
        · obtain ⟨g, cur, rfl, hBg, hg⟩ := HFE.out.own (by omega)
          have hkl : k < el.length := by have := HEN.out; omega
          obtain ⟨ad', A1, c1, hA', _, hblk, hsp, hy⟩ := HFE.out.row.2.2 k el[k] (List.getElem?_eq_getElem hkl)
          cases hA'
          replace hblk : g < wr.heap.size := hblk
          have hs3 : wr.cell? ⟨g, k * 4 + 3, none⟩ = some (.slice A1 el[k].kids.length c1) := by
            have := (spot_iff wr ⟨g, 0, none⟩ k ⟨el[k], A1, c1⟩).1 hsp 3 _ rfl
            rwa [Addr.add_lit, Nat.zero_add] at this
          obtain ⟨hs1, hhs1, hLi1, hce1⟩ := Row.hung hy.row
          have hlen1 : hs1.length = el[k].kids.length := by rw [← hhs1]; simp
          have hdrop : wts (el.drop k) = wt el[k] + wts (el.drop (k + 1)) := by rw [List.drop_eq_getElem_cons hkl]; simp [wts]
          rw [wt_eq] at hdrop
          have hnl : el[k].kids.length ≤ 200001 := by have := length_wts el[k].kids; omega
          have hbnd := hy.row.2.1
          have HY := Lib.hid hy
          generalize hN1 : el[k].kids.length = n1 at *
          have HN1 := Lib.hid hN1
          have HHS1 := Lib.hid hhs1
          have HLI1 := Lib.hid hLi1
          have HCE1 := Lib.hid hce1
          have HLEN1 := Lib.hid hlen1
          have HDR := Lib.hid hdrop
          have HG := Lib.hid hg
          have HBND := Lib.hid hbnd
          clear hN1 hhs1 hLi1 hce1 hlen1 hdrop hg hbnd hsp hy
          go_wp2_with fail
          refine (clone_any A1 n1 c1 (cells4 hs1) _ (by rw [length_cells4, HLEN1.out]) (by omega) (fun e => by have := HBND.out; have := this.2.2 e; omega) (cells4_one _) HCE1.out).mono ?_
          rintro e1 w2 ⟨V1, c2, rfl, hown2, hb2⟩
          have hbw2 : Below (w.heap.size + 1) (w.alloc zero25) w2 := HBW.out.trans (hb2.mono (by have := HBW.out.size; rw [size_alloc] at this; omega))
          have hB1 : w.heap.size + 1 ≤ wr.heap.size := by have := HBW.out.size; rwa [size_alloc] at this
          have hc2 : w2.cell? ⟨g, k * 4 + 3, none⟩ = some (.slice A1 n1 c1) := (hb2.cell hblk).trans hs3
          have hg2 : w2.heap[g]? = some (.cells cur 37 (0, 0)) := (hb2.block g hblk).trans HG.out
          have hz2' : w2.frozen? ⟨g, k * 4 + 3, none⟩ = false := by simp [World.frozen?, hg2]
          have hnew2 : Fine S w.heap.size w2 V1 n1 c2 el[k].kids := by
            have := fine_clone (T := S) (B := w.heap.size) hown2 hb2 (by omega) fun h hh => HLI1.out h hh
            rwa [HHS1.out] at this
          have hV1 : n1 ≤ c2 ∧ c2 ≤ 9223372036854775807 ∧ (V1 = none → c2 = 0) := hnew2.row.2.1
          have hcl : 0 < n1 → ∃ ad1 ad2, A1 = some ad1 ∧ V1 = some ad2 ∧ Itm S w.heap.size w2 ad2.block ∧ ad2.block < w2.heap.size ∧ ad2.block ≠ g ∧ ∀ k, k < n1 * 4 → w2.cell? (ad2.add k) = w2.cell? (ad1.add k) := by
            intro h0
            rcases hown2.2 with ⟨_, h00⟩ | ⟨g2, cap2, cur2, e2, hge, hh, _⟩
            · omega
            injection e2 with e3 _ e4
            subst e3
            obtain ⟨ad1, f1⟩ : ∃ ad1, A1 = some ad1 := by
              rcases A1 with _ | ad1
              · have := HBND.out.2.2 rfl; have := HBND.out.1; omega
              · exact ⟨ad1, rfl⟩
            refine ⟨ad1, _, f1, rfl, .inr ⟨by show w.heap.size < g2; omega, cur2, hh⟩, (Array.getElem?_eq_some_iff.1 hh).1, by show g2 ≠ g; omega, fun j hj => ?_⟩
            have hj' : j < (cells4 hs1).length := by rw [length_cells4, HLEN1.out]; exact hj
            have q1 := hown2.cells (g := g2) rfl j _ (List.getElem?_eq_getElem hj')
            have q2 := HCE1.out ad1 f1 j _ (List.getElem?_eq_getElem hj')
            rw [q1, hb2.cell (World.block_lt_of_cell? wr _ q2), q2]
          have hcc : (w2.setCell ⟨g, k * 4 + 3, none⟩ (.slice V1 n1 c2)).cell? ⟨g, k * 4 + 3, none⟩ = some (.slice V1 n1 c2) := World.cell?_setCell_same w2 _ _ hc2
          have hgs : w2.grownBy (w2.setCell ⟨g, k * 4 + 3, none⟩ (.slice V1 n1 c2)) (some g) := gr_set (gr_refl _ _) (.inl rfl) _
          have hwo2 := ownsRow_below HWK.out.own hb2
          have hwo3 := hwo2.kept hgs (.inr (own_type_ne hwo2 hg2 (by decide)))
          have sw : ∀ (A : Option Addr) (n c : Nat) (l : List It), Fine S w.heap.size wr A n c l → Fine S w.heap.size (w2.setCell ⟨g, k * 4 + 3, none⟩ (.slice V1 n1 c2)) A n c l := fun _ _ _ _ h => (h.bel hb2).swap hc2 hV1 hcl
          have hnew3 : Fine S w.heap.size (w2.setCell ⟨g, k * 4 + 3, none⟩ (.slice V1 n1 c2)) V1 n1 c2 el[k].kids := hnew2.swap hc2 hV1 hcl
          have hbw3 : Below (w.heap.size + 1) (w.alloc zero25) (w2.setCell ⟨g, k * 4 + 3, none⟩ (.slice V1 n1 c2)) := hbw2.trans (gr_below hgs (by have := hb2.size; omega) fun b hb => by cases hb; omega)
          have hs3' : w.heap.size + 1 ≤ (w2.setCell ⟨g, k * 4 + 3, none⟩ (.slice V1 n1 c2)).heap.size := by have := hgs.size; have := hb2.size; omega
          have hssz : (w2.setCell ⟨g, k * 4 + 3, none⟩ (.slice V1 n1 c2)).heap.size = w2.heap.size := by simp [World.setCell]
          have hnews := cell_one_new (w2.setCell ⟨g, k * 4 + 3, none⟩ (.slice V1 n1 c2)) (.slice V1 n1 c2) 35
          rw [hssz] at hnews hs3'
          have HNEWS := Lib.hid hnews
          have HSSZ := Lib.hid hssz
          have HWO := Lib.hid hwo3
          have HSW := Lib.hid sw
          have HN3 := Lib.hid hnew3
          have HB3 := Lib.hid hbw3
          have HS3 := Lib.hid hs3'
          have HG2 := Lib.hid hg2
          have HGS := Lib.hid hgs
          have HV1 := Lib.hid hV1
          clear hnews hssz hwo2 hwo3 sw hnew3 hbw3 hs3' hcl hnew2 hV1 hbw2 hg2 hgs hown2
          have hel : es.length ≤ 200001 := by have := length_ld es; omega
          by_cases h1 : 0 < n1
          · go_wp2_with (at_builtin; refine wpList_append_lies _ rfl (.tmp 47) (.tmp 53) 78 rfl (w.heap.size + 1) 35 i0 _ 1 24 Try.underlying78 hi hz0 hz1 hz2 rfl (by omega) (.slice Wv es.length cw2) es.length (es.map Ent.val) rfl (HWO.out.alloc _) ⟨w2.heap.size, 0, none⟩ 1 1 [.slice V1 n1 c2] rfl rfl HNEWS.out (by intro u hu; simp at hu; subst hu; rfl) (by omega) (by unfold maxLen; omega) (by omega) (by have := HS3.out; rw [size_alloc, HSSZ.out]; omega) (w2.heap.size + 1) (by rw [size_alloc, HSSZ.out]) ?_; intro g' cap' w7 hown7 hgr7 hat7 hlt7)
            have hes2 : (es ++ [(⟨V1, n1, c2, el[k].kids⟩ : Ent)]).length = es.length + 1 := by simp
            have tr : ∀ (A : Option Addr) (n c : Nat) (l : List It), Fine S w.heap.size (w2.setCell ⟨g, k * 4 + 3, none⟩ (.slice V1 n1 c2)) A n c l → Fine S w.heap.size w7 A n c l := fun A n c l h =>
              (h.bel (bel_alloc (Below.refl _ _) _)).pushed (HWO.out.alloc _) hgr7
            refine ⟨⟨k + 1, es ++ [⟨V1, n1, c2, el[k].kids⟩], some ⟨g', 0, none⟩, cap', by show k + 1 ≤ en; omega, by simp, by rw [hes2], ⟨by rw [hes2, List.map_append]; exact hown7, ?_⟩, ?_, tr _ _ _ _ (HSW.out _ _ _ _ HFE.out), tr _ _ _ _ (HSW.out _ _ _ _ HFO.out), ?_⟩, by simp [intOf]; omega⟩
            · intro e he
              rcases List.mem_append.1 he with he | he
              · exact tr _ _ _ _ (HSW.out _ _ _ _ (HWK.out.fine e he))
              · rw [List.mem_singleton.1 he]
                exact tr _ _ _ _ HN3.out
            · rw [ld_append]
              simp only [ld]
              have := HDR.out
              show ld es + (wts el[k].kids + 1 + 0) + wts (el.drop (k + 1)) ≤ _
              omega
            · refine (HB3.out.alloc (by rw [HSSZ.out]; exact HS3.out) _).trans (gr_below hgr7 (by rw [size_alloc, HSSZ.out]; have := HS3.out; omega) fun b hb => (HWO.out.lt b hb).1)
          · go_wp2_with fail
            refine ⟨⟨k + 1, es, Wv, cw2, by show k + 1 ≤ en; omega, by simp, rfl, ⟨HWO.out, fun e he => HSW.out _ _ _ _ (HWK.out.fine e he)⟩, ?_, HSW.out _ _ _ _ HFE.out, HSW.out _ _ _ _ HFO.out, HB3.out⟩, by simp [intOf]; omega⟩
            have := HDR.out
            show ld es + wts (el.drop (k + 1)) ≤ _
            omega
        · obtain rfl : k = en := by omega
          go_wp2_with fail
          go_roundg (ld es)
          case measure => omega
          case rel => exact ⟨es, Wv, cw2, rfl, HWK.out, Nat.le_refl _, by omega, HFO.out, HBW.out⟩

theorem list_any (A : Option Addr) (n c : Nat) (S : Nat → Prop) (l : List It) (w : World) (hl : Row w S A n c l) (hS : ∀ b, S b → b < w.heap.size) (hsz : wts l ≤ 100000) :
    Calls Try.prog 33 #[.slice A n c] w fun e w' => ∃ V c', e = .returned (.agg #[.int .i64 2, .int .u64 0, .string ByteArray.empty, .slice V n c']) ∧ Row w' (fun b => b < w'.heap.size) V n c' l ∧ Below w.heap.size w w' := by
  refine (list_more A n c S l w hl hS hsz).mono ?_
  rintro e w' ⟨V, c', rfl, hr, hb⟩
  exact ⟨V, c', rfl, hr.more fun _ h _ => h.1, hb⟩
end Go.Proofs.Ytccbkpdkmdnmfaa
