/-
  codec's reader: item: the tree of the item that begins at the place, or a fault that tells the error and its place.
-/
import Derived.Test.YthlhlhihllgfiaaCodRead
import Derived.Test.YthlhlhihllgfiaaCodPlantList
import Derived.Test.YthlhlhihllgfiaaCodPut
namespace Go.Proofs.Ythlhlhihllgfiaa
open Go.RowKit Mem Cod

/-- What item comes to. -/
def Itemed (b : List Nat) (r p g : Nat) (A : Option Addr) (n c : Nat) (w : World) (e : Ending) (w' : World) : Prop :=
  w.grownBy w' (some g) ∧ ((∃ x q v, tk b r p = .ok x q ∧ e = .returned v ∧ IsNode w' (fun bl => w.heap.size ≤ bl) x v ∧ Rdr w' g A n c q) ∨ (∃ er q, tk b r p = .bad er q ∧ e = .panicked (flt er q)))

def ItemRel (w : World) (b : List Nat) (r q0 g : Nat) (A : Option Addr) (n c : Nat) (m : Nat) (parts i : Value) (wr : World) : Prop :=
  ∃ (k : Nat) (V : Option Addr) (cv : Nat) (us : List Value) (xs : List It) (q : Nat), k ≤ m ∧ i = .int .u64 k ∧ parts = .slice V k cv ∧ wr.ownsRow w.heap.size 54 1 (.slice V k cv) k us ∧ rows (tk b r) k q0 = .ok xs q ∧
    xs.length = k ∧ q ≤ n ∧ Rdr wr g A n c q ∧ w.grownBy wr (some g) ∧
    ∀ (j : Nat) (y : It) (u : Value), xs[j]? = some y → us[j]? = some u → IsNode wr (fun b => w.heap.size ≤ b ∧ some b ≠ (Value.slice V k cv).ownBlock) y u

theorem tk_end {b : List Nat} {r p : Nat} (h : b.length ≤ p) : tk b r p = .bad 2 p := by
  cases r <;> rw [tk, if_pos h]
theorem tk_deep {b : List Nat} {p : Nat} (h : p < b.length) : tk b 0 p = .bad 12 p := by rw [tk, if_neg (by omega)]
theorem tk_kind {b : List Nat} {r p : Nat} (h : p < b.length) (hk : 2 < b.getD p 0) : tk b (r + 1) p = .bad 4 p := by rw [tk, if_neg (by omega), one, if_pos hk]
theorem tk_num {b : List Nat} {r p : Nat} (h : p < b.length) (hk : b.getD p 0 ≤ 2) (hn : (Num.take (b.drop (p + 1))).2.2 ≠ 0) : tk b (r + 1) p = .bad (Num.take (b.drop (p + 1))).2.2 (p + 1) := by
  rw [tk, if_neg (by omega), one, if_neg (by omega), if_pos hn]
theorem tk_body {b : List Nat} {r p : Nat} (h : p < b.length) (hk : b.getD p 0 ≤ 2) (hn : (Num.take (b.drop (p + 1))).2.2 = 0) :
    tk b (r + 1) p = body b (tk b r) (b.getD p 0) (Num.take (b.drop (p + 1))).1 (p + 1 + (Num.take (b.drop (p + 1))).2.1) := by
  rw [tk, if_neg (by omega), one, if_neg (by omega), if_neg (by simpa using hn)]

theorem rd_grown0 {w w' : World} {A : Option Addr} {n c : Nat} {xs : List Value} {r : Option Nat} (h : Rd w A n c xs) (hg : w.grownBy w' r) (hr : 0 < n → ∀ ad, A = some ad → some ad.block ≠ r) : Rd w' A n c xs :=
  ⟨h.len, h.le, h.cap, h.nil, fun hn => by
    obtain ⟨ad, e, hb, hc⟩ := h.spot hn
    exact ⟨ad, e, by have := hg.size; omega, fun j u hu => (World.cell?_of_block (by rw [add_block]; exact hg.block _ hb (hr hn ad e))).trans (hc j u hu)⟩⟩

/-- s[p:q] at a slice of one-cell elements. -/
theorem run_mid {P : Program} (t : TypeId) (ht : P.underlying t = some (.slice (P.elem t))) (hsz : ∀ w : World, (sizeOf (P.elem t)).run P w = .ok 1 w) (A : Option Addr) (n c p q : Nat) (hp : p ≤ q) (hq : q ≤ n) (hn : n ≤ c) (w : World) :
    (Instr.slice t (.slice A n c) (some (.int .i64 (p : Int))) (some (.int .i64 (q : Int))) none).run P w = .ok (.slice (cutA A c p) (q - p) (c - p)) w := by
  rw [run_slice_lh w t A n c ht .i64 .i64 (p : Int) (q : Int) (by omega) (by omega) (by omega), hsz]
  simp [Result.andThen, sliced, cutA]

set_option maxRecDepth 100000 in
set_option maxHeartbeats 4000000 in
theorem item_step (b : List Nat) (r d p g : Nat) (A : Option Addr) (n c : Nat) (w : World) (hrd : r + d = 16) (h : Rdr w g A n c p) (hr : Rd w A n c (cs b)) (hA : 0 < n → ∀ ad, A = some ad → ad.block ≠ g) (hb : ∀ x ∈ b, x < 256) (hp : p ≤ n) (hn : n ≤ 2000000)
    (ih : ∀ (r' : Nat) (p : Nat) (w : World), r = r' + 1 → Rdr w g A n c p → Rd w A n c (cs b) → p ≤ n →
      Calls Try.prog 31 #[.pointer (some ⟨g, 0, none⟩), .int .i64 ((d : Int) + 1)] w (Itemed b r' p g A n c w)) :
    Calls Try.prog 31 #[.pointer (some ⟨g, 0, none⟩), .int .i64 (d : Int)] w (Itemed b r p g A n c w) := by
  obtain ⟨i0, hi, hz0, hz1, hz2⟩ := info_parts info54
  have hlb := hr.len
  rw [length_cs] at hlb
  have hcap := hr.le
  have hcm := hr.cap
  unfold maxLen at hcm
  have H := Lib.hid h
  have HR := Lib.hid hr
  have HA := Lib.hid hA
  have HB := Lib.hid hb
  have IH := Lib.hid ih
  have HLB := Lib.hid hlb
  clear h hr hA hb ih hlb
  go_enter Try.func31, Try.ntmps31
  go_wp2_with fail
  refine (kind_any b d p g A n c w H.out HR.out HB.out hp hn (by omega)).mono ?_
  rintro e w1 ⟨hg1, ⟨hpn, hd15, hk2, rfl, hr1⟩ | ⟨hnp, rfl⟩ | ⟨hpn, hd, rfl⟩ | ⟨hpn, hd15, hk, rfl⟩⟩
  · obtain ⟨r', rfl⟩ : ∃ r', r = r' + 1 := ⟨r - 1, by omega⟩
    have hrd1 := rd_grown0 HR.out hg1 fun h0 ad e => by have := HA.out h0 ad e; simpa using this
    have HG1 := Lib.hid hg1
    have HRD1 := Lib.hid hrd1
    clear hg1 hrd1
    have hlen : p < b.length := by have := HLB.out; omega
    have HTN := Lib.hid (tk_num (r := r') hlen hk2)
    have HTB := Lib.hid (tk_body (r := r') hlen hk2)
    generalize b.getD p 0 = kb at hk2 HTB ⊢
    have hkk : kb = 0 ∨ kb = 1 ∨ kb = 2 := by omega
    clear hlen
    have hok := take_ok (b.drop (p + 1)) (fun x hx => HB.out x (List.mem_of_mem_drop hx))
    have HOK := Lib.hid hok
    clear hok
    go_wp2_with fail
    refine (number_any b (p + 1) g A n c w1 hr1 HRD1.out HB.out (by omega) hn).mono ?_
    rintro e w2 ⟨hg2, hcase⟩
    have hgw2 : w.grownBy w2 (some g) := HG1.out.trans hg2
    have hrd2 := rd_grown0 HRD1.out hg2 fun h0 ad e => by have := HA.out h0 ad e; simpa using this
    rcases ht : Num.take (b.drop (p + 1)) with ⟨v, m, er⟩
    rw [ht] at hcase
    have hok := HOK.out
    have htn := HTN.out
    have htb := HTB.out
    rw [ht] at hok htn htb
    simp only at hcase hok htn htb
    clear HOK HTN HTB ht HG1 HRD1 hg2
    rcases hcase with ⟨rfl, rfl, hr2⟩ | ⟨he, rfl⟩
    · obtain ⟨_, o2, o3, o4⟩ := hok rfl
      have hq : p + 1 + m ≤ n := by rw [List.length_drop] at o3; have := HLB.out; omega
      have htb' := htb rfl
      have HTB := Lib.hid htb'
      have HG2 := Lib.hid hgw2
      have HRD2 := Lib.hid hrd2
      have HR2 := Lib.hid hr2
      clear htb htb' htn hok o2 o3 hgw2 hrd2 hr2
      generalize p + 1 + m = q at hq HTB HR2
      rcases hkk with rfl | rfl | rfl
      · rw [show (((0 : Nat) : Nat) : Int) = 0 by rfl]
        go_wp2_with fail
        go_ret
        refine ⟨HG2.out, .inl ⟨.mk 0 v ByteArray.empty [], q, _, by rw [HTB.out, body, if_pos rfl], rfl, ?_, HR2.out⟩⟩
        rw [node_eq]
        exact ⟨.inl ⟨rfl, by show v ≤ _; omega, rfl⟩, fun i hi => by simp [It.kids] at hi⟩
      · rw [show (((1 : Nat) : Nat) : Int) = 1 by rfl]
        go_wp2_with fail
        refine (left_any g A n c q w2 HR2.out hq hn).mono ?_
        rintro e w3 ⟨rfl, q3, rfl⟩
        have c1 : w2.cell? ⟨g, 1, none⟩ = some (.int .i64 (q : Int)) := Blk.cell HR2.out 1
        have c0 : w2.cell? ⟨g, 0, none⟩ = some (.slice A n c) := Blk.cell HR2.out 0
        have z1 : w2.frozen? ⟨g, 1, none⟩ = false := Blk.soft HR2.out 1
        by_cases hv : (n : Int) - q < v
        · go_wp2_with fail
          refine (fail_2p q _).mono ?_
          rintro en w4 ⟨rfl, rfl⟩
          refine ⟨rfl, gr_drewN HG2.out _, .inr ⟨2, q, ?_, rfl⟩⟩
          rw [HTB.out, body, if_neg (by omega), if_pos (by have := HLB.out; omega)]
        · have hvn : v ≤ 2000000 := by omega
          have hcut := run_mid (P := Try.prog) 28 Try.underlying28 (fun w => by kernel_rfl) A n c q (q + v) (by omega) (by omega) hcap
          rw [show q + v - q = v by omega, show ((q + v : Nat) : Int) = (q : Int) + v by omega] at hcut
          have hrt : Rd w2 (cutA A c q) v (c - q) (cs ((b.drop q).take v)) := by
            have := (HRD2.out.cut hq).take (k := v) (by omega)
            rwa [cs_drop, cs_take] at this
          have hcv : ∀ k : Nat, (convert 28 76 (.slice (cutA A c q) v (c - q))).run Try.prog (w2.drewN k) = .ok (.string (txt ((b.drop q).take v))) (w2.drewN k) := fun k =>
            run_text 28 76 5 Try.underlying28 Try.underlying5 Try.underlying76 (hrt.drewN k)
          have hwr : IntKind.i64.wrap ((q : Int) + v) = (q : Int) + v := IntWalk.i64_in _ (by omega)
          have hwc : IntKind.i64.wrap (v : Int) = (v : Int) := IntWalk.i64_in _ (by omega)
          clear hrt
          go_wp2_with fail
          go_quiet (fail)
          go_wp2_with fail
          go_ret
          refine ⟨gr_set (gr_drewN HG2.out _) (.inl rfl) _, .inl ⟨.mk 1 0 (txt ((b.drop q).take v)) [], q + v, _, ?_, rfl, ?_, ?_⟩⟩
          · rw [HTB.out, body, if_neg (by omega), if_neg (by have := HLB.out; omega), if_pos rfl]
          · rw [node_eq]
            refine ⟨.inr (.inl ⟨rfl, ?_, rfl⟩), fun i hi => by simp [It.kids] at hi⟩
            show (txt ((b.drop q).take v)).size ≤ _
            rw [size_txt, List.length_take]
            omega
          · have := (HR2.out.drewN (q3 + nq)).put 1 (.int .i64 ((q : Int) + v))
            simpa [Rdr] using this
      · rw [show (((2 : Nat) : Nat) : Int) = 2 by rfl]
        go_wp2_with fail
        refine (left_any g A n c q w2 HR2.out hq hn).mono ?_
        rintro e w3 ⟨rfl, q3, rfl⟩
        have c1 : w2.cell? ⟨g, 1, none⟩ = some (.int .i64 (q : Int)) := Blk.cell HR2.out 1
        by_cases hv : (n : Int) - q < v
        · go_wp2_with fail
          refine (fail_2p q _).mono ?_
          rintro en w4 ⟨rfl, rfl⟩
          refine ⟨rfl, gr_drewN HG2.out _, .inr ⟨2, q, ?_, rfl⟩⟩
          rw [HTB.out, body, if_neg (by omega), if_pos (by have := HLB.out; omega)]
        · have hvn : v ≤ 2000000 := by omega
          have hvb : decide ((n : Int) - q < v) = false := by simpa using hv
          have HBO := Lib.hid (show ∀ xs q', rows (tk b r') v q = .ok xs q' → tk b (r' + 1) p = .ok (.mk 2 0 ByteArray.empty xs) q' from fun xs q' hh => by
            rw [HTB.out, body, if_neg (by omega), if_neg (by have := HLB.out; omega), if_neg (by omega), hh])
          have HBN := Lib.hid (show ∀ er q', rows (tk b r') v q = .bad er q' → tk b (r' + 1) p = .bad er q' from fun er q' hh => by
            rw [HTB.out, body, if_neg (by omega), if_neg (by have := HLB.out; omega), if_neg (by omega), hh])
          have hgl := Blk.lt H.out
          go_wp2_with fail
          have hst : ItemRel w b r' q g A n c v (.slice none 0 0) (.int .u64 0) (w2.drewN q3) :=
            ⟨0, none, 0, [], [], q, Nat.zero_le _, rfl, rfl, ⟨rfl, .inl ⟨rfl, rfl⟩⟩, rfl, rfl, hq, HR2.out.drewN q3, gr_drewN HG2.out q3, fun j y u h => by simp at h⟩
          go_loopw [8, 58] (ItemRel w b r' q g A n c v) (fun _ i _ => v - (intOf i).toNat)
          case atStart => exact hst
          case round =>
            clear hst c1
            obtain ⟨k, V, cv, us, xs, q1, hk, rfl, rfl, hown, hrow, hxl, hq1, hrr, hgr, hnod⟩ := hrel
            have HO := Lib.hid hown
            have HROW := Lib.hid hrow
            have HXL := Lib.hid hxl
            have HRR := Lib.hid hrr
            have HGR := Lib.hid hgr
            have HN := Lib.hid hnod
            clear hown hrow hxl hrr hgr hnod
            by_cases hlt : k < v
            · go_wp2_with fail
              refine (IH.out r' q1 wr rfl HRR.out (rd_grown0 HR.out HGR.out fun h0 ad e => by have := HA.out h0 ad e; simpa using this) hq1).mono ?_
              rintro e w5 ⟨hg5, ⟨y, q2, u, hty, rfl, hnu, hru⟩ | ⟨er, qe, hty, rfl⟩⟩
              · have hgood := tk_good HB.out (by have := HLB.out; omega) r' q1 y q2 (by omega) hty
                have hq2 : q2 ≤ n := by have := hgood.2.2.2.1; have := HLB.out; omega
                have HTY := Lib.hid hty
                have HG5 := Lib.hid hg5
                obtain ⟨ut, up, rfl⟩ := hnu.iface
                have HNU := Lib.hid hnu
                have HRU := Lib.hid hru
                clear hty hg5 hnu hru hgood
                have hs5 : w.heap.size ≤ w5.heap.size := by have := HG5.out.size; have := HGR.out.size; omega
                have hog : (Value.slice V k cv).ownBlock ≠ some g := fun e => by have := (HO.out.lt g e).1; omega
                have hown5 : w5.ownsRow w.heap.size 54 1 (.slice V k cv) k us := HO.out.kept HG5.out (.inr hog)
                go_wp2_with (at_builtin; refine wpList_append_lies _ rfl (.tmp 60) (.tmp 65) 78 rfl w.heap.size 54 i0 _ 1 16 Try.underlying78 hi hz0 hz1 hz2 rfl (by omega) (.slice V k cv) k us rfl (hown5.alloc _) ⟨w5.heap.size, 0, none⟩ 1 1 [.iface ut up] rfl rfl (cell_one_new _ _ _) (by intro u hu; simp at hu; subst hu; rfl) (by omega) (by unfold maxLen; omega) (by omega) (by rw [size_alloc]; omega) _ rfl ?_; intro g' cap' w7 hown7 hgr7 hat7 hlt7)
                have hsz5 : wr.heap.size ≤ w5.heap.size := HG5.out.size
                refine ⟨⟨k + 1, _, cap', us ++ [.iface ut up], xs ++ [y], q2, by omega, by simp, rfl, hown7, by rw [rows, HROW.out]; simp only [HTY.out], by simp [HXL.out], hq2, (HRU.out.alloc _).grown hgr7 (fun e => hog e.symm), ?_, ?_⟩, by simp [intOf]; omega⟩
                · refine gr_step (gr_alloc (HGR.out.trans HG5.out) _) hgr7 fun b hb => .inl (HO.out.lt b hb).1
                · intro j y' u' hy hu
                  have hlen := HO.out.1
                  rw [Nat.mul_one] at hlen
                  have hxl := HXL.out
                  have hg'5 : ∀ b, b < wr.heap.size → some b ≠ (Value.slice V k cv).ownBlock → some b ≠ (Value.slice (some ⟨g', 0, none⟩) (k + 1) cap').ownBlock := by
                    intro b hb hne e
                    have e' : b = g' := by simpa [Value.ownBlock] using e
                    rcases hat7 with h | h
                    · exact hne (by rw [h, e'])
                    · rw [size_alloc] at h; omega
                  rcases Nat.lt_or_ge j k with hj | hj
                  · rw [List.getElem?_append_left (by omega)] at hu hy
                    have hn' := HN.out j y' u' hy hu
                    refine IsNode.grown (S' := fun b => w.heap.size ≤ b ∧ b < wr.heap.size ∧ some b ≠ (Value.slice V k cv).ownBlock) hn' HG5.out ?_ |>.keep y' (S' := _) ?_ ?_ ?_
                    · intro b hb hlt'
                      refine ⟨fun e => ?_, hb.1, hlt', hb.2⟩
                      have : b = g := by simpa using e
                      omega
                    · rintro b ⟨h1, h2, h3⟩ _
                      exact ⟨h1, hg'5 b h2 h3⟩
                    · have := hgr7.size
                      rw [size_alloc] at this
                      omega
                    · rintro b ⟨h1, h2, h3⟩ h4
                      exact (hgr7.block b (by rw [size_alloc]; omega) h3).trans (Below.heap_alloc _ _ b h4)
                  · have hj2 : j = k := by
                      have := (List.getElem?_eq_some_iff.1 hu).1
                      simp at this
                      omega
                    subst hj2
                    rw [List.getElem?_append_right (by omega), hlen, Nat.sub_self] at hu
                    rw [List.getElem?_append_right (by omega), hxl, Nat.sub_self] at hy
                    simp at hu hy
                    subst hu
                    subst hy
                    refine HNU.out.keep _ ?_ ?_ ?_
                    · intro b hb h4
                      refine ⟨by have := HGR.out.size; omega, fun e => ?_⟩
                      have e' : b = g' := by simpa [Value.ownBlock] using e
                      rcases hat7 with h | h
                      · have := (HO.out.lt _ h).2; omega
                      · rw [size_alloc] at h; omega
                    · have := hgr7.size
                      rw [size_alloc] at this
                      omega
                    · intro b hb h4
                      exact (hgr7.block b (by rw [size_alloc]; omega) (fun e => by have := (HO.out.lt b e.symm).2; omega)).trans (Below.heap_alloc _ _ b h4)
              · have hfin : ([] : List Deferred) = [] ∧ Itemed b (r' + 1) p g A n c w (.panicked (flt er qe)) w5 := by
                  refine ⟨rfl, HGR.out.trans hg5, .inr ⟨er, qe, ?_, rfl⟩⟩
                  have h1 : rows (tk b r') (k + 1) q = .bad er qe := by rw [rows, HROW.out]; simp only [hty]
                  have h2 := rows_bad _ _ _ _ _ h1 (v - (k + 1))
                  rw [show k + 1 + (v - (k + 1)) = v by omega] at h2
                  exact HBN.out _ _ h2
                exact hfin
            · obtain rfl : k = v := by omega
              go_wp2_with fail
              go_ret
              refine ⟨HGR.out, .inl ⟨.mk 2 0 ByteArray.empty xs, q1, _, HBO.out _ _ HROW.out, rfl, ?_, HRR.out⟩⟩
              have hxl := HXL.out
              subst hxl
              obtain ⟨A2, c2, e2, hr2⟩ := Rd.of_own HO.out
              cases e2
              rw [node_eq]
              refine ⟨.inr (.inr ⟨rfl, _, _, rfl, hr2.le, hr2.cap, hr2.nil⟩), fun i hi => ?_⟩
              simp only [It.kids] at hi ⊢
              obtain ⟨ad, u, rfl, hb, hu, hcl⟩ := hr2.at_ hi
              refine ⟨ad, _, u, rfl, (HO.out.lt ad.block rfl).1, hb, hcl, ?_⟩
              exact (HN.out i _ u (List.getElem?_eq_getElem hi) hu).keep _ (fun b hb _ => hb.1) (Nat.le_refl _) fun _ _ _ => rfl
    · exact ⟨rfl, hgw2, .inr ⟨er, p + 1, htn he, rfl⟩⟩
  · exact ⟨rfl, hg1, .inr ⟨2, p, tk_end (by have := HLB.out; omega), rfl⟩⟩
  · obtain rfl : r = 0 := by omega
    exact ⟨rfl, hg1, .inr ⟨12, p, tk_deep (by have := HLB.out; omega), rfl⟩⟩
  · obtain ⟨r', rfl⟩ : ∃ r', r = r' + 1 := ⟨r - 1, by omega⟩
    exact ⟨rfl, hg1, .inr ⟨4, p, tk_kind (by have := HLB.out; omega) hk, rfl⟩⟩

theorem item_any (b : List Nat) (g : Nat) (A : Option Addr) (n c : Nat) (hA : 0 < n → ∀ ad, A = some ad → ad.block ≠ g) (hb : ∀ x ∈ b, x < 256) (hn : n ≤ 2000000) : ∀ (r d p : Nat) (w : World), r + d = 16 → Rdr w g A n c p → Rd w A n c (cs b) → p ≤ n →
    Calls Try.prog 31 #[.pointer (some ⟨g, 0, none⟩), .int .i64 (d : Int)] w (Itemed b r p g A n c w) := by
  intro r
  induction r with
  | zero => exact fun d p w hrd h hr hp => item_step b 0 d p g A n c w hrd h hr hA hb hp hn fun r' _ _ e => by omega
  | succ r ih =>
    intro d p w hrd h hr hp
    refine item_step b (r + 1) d p g A n c w hrd h hr hA hb hp hn fun r' p w e h hr hp => ?_
    obtain rfl : r = r' := by omega
    have := ih (d + 1) p w (by omega) h hr hp
    rwa [show ((d + 1 : Nat) : Int) = (d : Int) + 1 by omega] at this
end Go.Proofs.Ythlhlhihllgfiaa
