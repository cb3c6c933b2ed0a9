/-
  Texts of earlier layers, as one.
-/
import Derived.Test.YtgnpnjfoenmfbaaBagOut
import Derived.Defers
import Derived.Recover
import Derived.BigRegion
/- slices.Clone of entries; the program's Filter, with the law's question: those to another one stay. -/
namespace Go.Proofs.Ytgnpnjfoenmfbaa.Bg
open Go.RowKit Mem Dsk Go.Maps

theorem info_entry3 : (Try.prog.info? 50).map (fun i => (i.zero, i.size, i.bytes)) = some (some (.agg #[.int .i64 0, .int .i64 0, .int .i64 0, .slice none 0 0]), 4, 48) := by kernel_rfl
theorem call_gone (args : Array Value) (W : World) : (callFunc 25 args).run Try.prog W = .ok (.enter 25 args) W := by kernel_rfl
set_option maxRecDepth 20000 in
set_option maxHeartbeats 4000000 in
theorem eclone_any (A : Option Addr) (n c : Nat) (es : List Pe) (w : World) (hr : Rw LP w A n c es) (hn : n ≤ 1000000) :
    Calls Try.prog 24 #[.slice A n c] w (fun e w' => ∃ A' c', e = .returned (.slice A' n c') ∧ w'.ownsRow w.heap.size 50 LP.s (.slice A' n c') n (LP.flat es) ∧ Below w.heap.size w w') := by
  obtain ⟨i0, hi, hz0, hz1, hz2⟩ := info_parts info_entry3
  have hnil := fun (u : World) (A : Option Addr) (n c : Nat) => Lib.run_eql_slice_nil (P := Try.prog) u 45 50 A n c 0 0 Try.underlying45
  cases A with
  | none =>
    have hc : c = 0 := hr.nil rfl
    have hn0 : n = 0 := by have := hr.le; omega
    subst hc
    subst hn0
    have hes : es = [] := List.eq_nil_of_length_eq_zero hr.len
    subst hes
    clear hr hn
    go_enter Try.func24, Try.ntmps24
    go_wp2_with fail
    go_ret
    exact ⟨none, 0, rfl, World.ownsRow_nil _ _ _ _, Below.refl _ _⟩
  | some ad =>
    have HR := Lib.hid (hr.alloc (.cells #[] 50))
    have HO := Lib.hid (show (w.alloc (.cells #[] 50)).ownsRow w.heap.size 50 LP.s (.slice (some ⟨w.heap.size, 0, none⟩) 0 0) 0 (LP.flat []) from ⟨rfl, .inr ⟨w.heap.size, 0, #[], rfl, Nat.le_refl _, heap_alloc_new w _, Nat.le_refl _, by unfold maxLen; omega, rfl, rfl⟩⟩)
    have HW := Lib.hid (bel_alloc (Below.refl w.heap.size w) (.cells #[] 50))
    clear hr
    go_enter Try.func24, Try.ntmps24
    go_wp2_with (first
      | (at_builtin; refine wpList_append_rw rfl (.tmp 5) (.tmp 6) 45 rfl w.heap.size 50 i0 _ 48 Try.underlying45 hi hz0 hz1 hz2 rfl (some ⟨w.heap.size, 0, none⟩) 0 0 [] (by rfl) HO.out (some ad) n c es (by rfl) HR.out (by unfold maxLen; omega) (by omega) HW.out.size ?_; intro V' c' w' hown hg hb)
      | fail)
    have HO2 := Lib.hid hown
    have HB2 := Lib.hid hb
    clear hown hb hg
    go_wp2_with fail
    go_ret
    have h := HO2.out
    rw [List.nil_append, Nat.zero_add] at h
    exact ⟨V', c', by simp, h, HW.out.trans HB2.out⟩
theorem rec_idle (w : World) :
    CallsD Try.prog 23 #[] .returning w fun en u' w' => en = .returned (.tuple #[]) ∧ u' = .returning ∧ w' = w := by
  refine callsD_of_wpS Try.func23 rfl fun c₀ cs hu => ?_
  apply wpS_region
  simp [wpOpsS, go_sem, recoverD, hu, Try.ntmps23]
  cases c₀
  simp_all [bodyPostS, results, Try.results23]
theorem wf64 {x : Int} (h : 0 ≤ x) (h' : x ≤ 1000000) : (Lit.int .i64 x).wf = true := by
  simp [Lit.wf, IntKind.min, IntKind.max, IntKind.signed, IntKind.bits]
  omega
theorem keep_list {es : List Pe} {nx to : Int} (h : Up es nx) : es.filter (fun z => !decide (z.k ∈ (es.filter fun y => decide (y.e.t = to)).map (·.k))) = es.filter (fun z => !decide (z.e.t = to)) := by
  refine List.filter_congr fun z hz => ?_
  congr 1
  refine decide_eq_decide.2 ⟨fun hm => ?_, fun ht => List.mem_map.2 ⟨z, List.mem_filter.2 ⟨hz, by simpa using ht⟩, rfl⟩⟩
  obtain ⟨y, hy, e⟩ := List.mem_map.1 hm
  obtain ⟨hy1, hy2⟩ := List.mem_filter.1 hy
  obtain ⟨i, hi⟩ := List.getElem?_of_mem hz
  obtain ⟨j, hj⟩ := List.getElem?_of_mem hy1
  have hij := h.one hj hi e
  subst hij
  rw [hi] at hj
  injection hj with hj
  subst hj
  simpa using hy2
def FilRel (es : List Pe) (to : Int) (A2 : Option Addr) (c2 m : Nat) (w : World) (v : Value) (wr : World) : Prop :=
  ∃ (k : Nat) (D : DataW Value), v = .int .i64 (k : Int) ∧ k ≤ es.length ∧ wr.ownsMap Try.prog 3 unitElem m k D ∧ Gone D (((es.take k).filter fun y => decide (y.e.t = to)).map (·.k)) ∧ Blk wr (m + 1) 54 #[.map (some m)] ∧
    wr.ownsRow (m + 2) 50 LP.s (.slice A2 es.length c2) es.length (LP.flat es) ∧ Below w.heap.size w wr ∧ m + 2 ≤ wr.heap.size
theorem map_more {w : World} {m n n' : Nat} {D : DataW Value} (h : w.ownsMap Try.prog 3 unitElem m n D) (hn : n ≤ n') : w.ownsMap Try.prog 3 unitElem m n' D := by
  obtain ⟨es, clock, hb, F, hs, rfl⟩ := h
  exact ⟨es, clock, hb, F, by omega, rfl⟩
theorem map_keep {w w' : World} {m n : Nat} {D : DataW Value} (h : w.ownsMap Try.prog 3 unitElem m n D) (hs : w'.heap[m]? = w.heap[m]?) : w'.ownsMap Try.prog 3 unitElem m n D := by
  obtain ⟨es, clock, hb, r⟩ := h
  exact ⟨es, clock, hs.trans hb, r⟩
theorem map_lt {w : World} {m n : Nat} {D : DataW Value} (h : w.ownsMap Try.prog 3 unitElem m n D) : m < w.heap.size := by
  obtain ⟨es, clock, hb, r⟩ := h
  exact (Array.getElem?_eq_some_iff.1 hb).1
set_option maxRecDepth 20000 in
set_option maxHeartbeats 8000000 in
theorem filter_any (p : Nat) (S : Nat → Prop) (b : Bag) (to : Int) (w : World) (h : BI w S p b) (hf : Fine b) :
    Calls Try.prog 14 #[ptr p, .func (.func 15) #[.agg #[.int .i64 to]] #[]] w (fun e w' =>
      e = .returned (.int .i64 ((b.xs.length : Int) - ((keepB to b).xs.length : Int))) ∧ BI w' S p (keepB to b) ∧ Keeps S w w') := by
  have hmk := @run_makeMap Try.prog
  have hmf : ∀ (fn : Fn) (first cap : Array Value) (w : World), (Instr.makeFunc fn first cap).run Try.prog w = .ok (.func fn first cap) w := fun _ _ _ _ => rfl
  obtain ⟨A, c, es, ho, he⟩ := h
  have hml : (keepB to b).xs = (es.filter fun z => !decide (z.e.t = to)).map (·.e) := by
    unfold keepB
    rw [← he, List.filter_map]
    rfl
  have hle : es.length = b.xs.length := by rw [← he, List.length_map]
  have hlk : (keepB to b).xs.length = (es.filter fun z => !decide (z.e.t = to)).length := by rw [hml, List.length_map]
  rw [hlk, ← hle]
  have hn5 : es.length ≤ 100000 := by rw [hle]; exact hf.1
  have hsm : ∀ y ∈ es, y.e.bs.length ≤ 1000 ∧ (Lit.int .i64 y.k).wf = true := fun y hy => ⟨hf.2.2.2 _ (by rw [← he]; exact List.mem_map.2 ⟨y, hy, rfl⟩), wf64 (ho.up.2 y hy).1 (by have := (ho.up.2 y hy).2; have := hf.2.2.1; omega)⟩
  have hown0 := (World.ownsMap_made (H := Value) w Try.prog 3 unitElem).alloc (.cells #[.map (some w.heap.size)] 54)
  have hk0 := Blk.new (w.alloc (.map #[] 0)) 54 #[.map (some w.heap.size)]
  rw [size_alloc] at hk0
  have hb0 := bel_alloc (bel_alloc (Below.refl w.heap.size w) (.map #[] 0)) (.cells #[.map (some w.heap.size)] 54)
  obtain ⟨W, hW⟩ : ∃ W, (w.alloc (.map #[] 0)).alloc (.cells #[.map (some w.heap.size)] 54) = W := ⟨_, rfl⟩
  have hs0 : W.heap.size = w.heap.size + 2 := by rw [← hW]; simp
  rw [hW] at hown0 hk0 hb0
  have hoW := ho.below hb0
  obtain ⟨d0, _, _⟩ := hoW.cells
  have hcl := eclone_any A es.length c es W hoW.rw_ (by omega)
  have HO := Lib.hid (And.intro ho (And.intro hml hsm))
  have HW := Lib.hid (And.intro hW hs0)
  have H0 := Lib.hid (And.intro hown0 (And.intro hk0 hb0))
  obtain ⟨n, hn⟩ : ∃ n, es.length = n := ⟨_, rfl⟩
  rw [hn] at hcl d0 hn5 ⊢
  have HC := Lib.hid hcl
  have HN := Lib.hid hn
  clear ho he hml hle hlk hf hsm hown0 hk0 hb0 hW hs0 hoW hcl hn
  unfold ptr
  go_enter_defers Try.func14, Try.ntmps14
  go_upto_region 3 with fail
  rw [HW.out.1]
  go_wp2_with fail
  refine HC.out.mono ?_
  rintro e u ⟨A2, c2, rfl, hrow, hb⟩
  have HU := Lib.hid (And.intro hrow hb)
  have hlim := And.intro (Rw.own hrow).le (Rw.own hrow).cap
  unfold maxLen at hlim
  clear hrow hb HC d0
  go_wp2_with fail
  go_loopw [15] (FilRel es to A2 c2 w.heap.size w) (fun v _ => n - (intOf v).toNat)
  case atStart => 
    have hz := HU.out.2.size
    have h2 := HW.out.2
    exact ⟨0, .map [], rfl, Nat.zero_le _, map_keep H0.out.1 (HU.out.2.block _ (by omega)), Gone.nil, H0.out.2.1.bel HU.out.2, by rw [HN.out, ← h2]; exact HU.out.1, H0.out.2.2.trans (HU.out.2.mono H0.out.2.2.size), by omega⟩
  case round =>
    obtain ⟨k, D, rfl, hk, hmap, hD, hbx, hrow, hbw, hsz⟩ := hrel
    rw [HN.out] at hk hrow
    have HM := Lib.hid (And.intro hmap (And.intro hD (And.intro hbx (And.intro hrow (And.intro hbw hsz)))))
    clear hmap hD hbx hrow hbw hsz
    by_cases hlt : k < n
    · obtain ⟨g, o, y, rfl, hg, hy, hrng⟩ := (Rw.own HM.out.2.2.2.1).at_ hlt
      obtain ⟨c0, c1, c2', c3⟩ := four hrng
      rw [show o + k * LP.s = o + k * 4 from rfl] at c0 c1 c2' c3
      have hmy := List.mem_of_getElem? hy
      have hsy := HO.out.2.2 y hmy
      have hrd := (HO.out.1.byt y hmy).1
      have HY := Lib.hid hy
      obtain ⟨yk, ⟨yf, yt, yb⟩, yA, yc⟩ := y
      simp only at c0 c1 c2' c3 hsy hrd
      have hb1 := bel_alloc HM.out.2.2.2.2.1 (.cells #[.int .i64 yk, .int .i64 yf, .int .i64 yt, .slice yA yb.length yc] 50)
      have hk1 := Blk.new wr 50 #[.int .i64 yk, .int .i64 yf, .int .i64 yt, .slice yA yb.length yc]
      obtain ⟨V, hV⟩ : ∃ V, wr.alloc (.cells #[.int .i64 yk, .int .i64 yf, .int .i64 yt, .slice yA yb.length yc] 50) = V := ⟨_, rfl⟩
      have hba := bel_alloc (Below.refl wr.heap.size wr) (.cells #[.int .i64 yk, .int .i64 yf, .int .i64 yt, .slice yA yb.length yc] 50)
      rw [hV] at hb1 hk1 hba
      have hcop := copied_any ⟨yf, yt, yb⟩ yA yc V (hrd.below hb1) (by show yb.length ≤ 1000000; omega)
      unfold Copies at hcop
      simp only at hcop
      obtain ⟨m, hm⟩ : ∃ m, yb.length = m := ⟨_, rfl⟩
      rw [hm] at hcop c3 hk1 hV
      obtain ⟨f0, f1, f2, f3⟩ := blk4 hk1
      have HCOP := Lib.hid hcop
      have HKP := Lib.hid (fun A' c' W' => keeps_any ⟨yf, yt, yb⟩ to A' m c' W')
      have HV := Lib.hid (And.intro hV (And.intro hk1 (And.intro hba hsy.2)))
      clear hy hmy hsy hrd hb1 hk1 hba hcop hm hV hrng
      by_cases hto : yt = to
      · have hkp := HKP.out
        simp only [hto, decide_true, Bool.not_true] at hkp
        have HT := Lib.hid hto
        have HKQ := Lib.hid hkp
        clear hkp hto
        go_upto_region 6 with fail
        rw [HV.out.1]
        clear c0 c1 c2' c3
        go_wp2_with fail
        refine HCOP.out.mono ?_
        rintro e u2 ⟨B, d, rfl, _, hb2⟩
        have HB2 := Lib.hid (HV.out.2.2.1.trans (hb2.mono HV.out.2.2.1.size))
        have HK2 := Lib.hid (HV.out.2.1.bel hb2)
        clear hb2 HCOP f0 f1 f2 f3
        rw [HT.out]
        go_wp2_with fail
        refine (HKQ.out _ _ _).mono ?_
        rintro e u3 ⟨rfl, hb3⟩
        have hbr := HB2.out.trans (hb3.mono HB2.out.size)
        obtain ⟨f0, _, _, _⟩ := blk4 (HK2.out.bel hb3)
        have hbx3 := HM.out.2.2.1.bel hbr
        have e0 := hbx3.cell 0
        simp only [List.getElem?_toArray, List.getElem?_cons_zero] at e0
        have hmap3 := map_keep HM.out.1 (hbr.block _ (map_lt HM.out.1))
        obtain ⟨u4, hrun, hown4, hgr⟩ := hmap3.update int_law (t := 54) Try.underlying54 (by unfold maxLen; omega) (keyOf_int_mk Try.underlying3 HV.out.2.2.2) unitElem_mk
        have HB3 := Lib.hid (And.intro hbr (And.intro hbx3 (And.intro hown4 hgr)))
        clear hbr hbx3 hmap3 hown4 hgr hb3
        go_wp2_with fail
        go_roundw
        case rel =>
          have hgr := HB3.out.2.2.2
          have hz := HM.out.2.2.2.2.1.size
          have hz2 := HB3.out.1.size
          have hz3 := hgr.size
          have hz4 := HM.out.2.2.2.2.2
          refine ⟨k + 1, _, by simp, by rw [HN.out]; omega, HB3.out.2.2.1, ?_, HB3.out.2.1.grown hgr (by simp), ?_, ?_, by omega⟩
          · rw [filter_yes HY.out (by simpa using HT.out), List.map_append]
            exact HM.out.2.1.put HV.out.2.2.2
          · rw [HN.out]
            exact (ownsRow_below HM.out.2.2.2.1 HB3.out.1).kept hgr (.inr fun e => by have := (HM.out.2.2.2.1.lt _ e).1; omega)
          · exact (HM.out.2.2.2.2.1.trans (HB3.out.1.mono hz)).grown hgr (by omega) fun j e => by injection e with e; omega
        case measure =>
          simp [intOf]
          omega
      · have hkp := HKP.out
        have hd : decide (yt = to) = false := decide_eq_false hto
        simp only [hd, Bool.not_false] at hkp
        have HT := Lib.hid hto
        have HKQ := Lib.hid hkp
        clear hkp hto hd
        go_upto_region 6 with fail
        rw [HV.out.1]
        clear c0 c1 c2' c3
        go_wp2_with fail
        refine HCOP.out.mono ?_
        rintro e u2 ⟨B, d, rfl, _, hb2⟩
        have HB2 := Lib.hid (HV.out.2.2.1.trans (hb2.mono HV.out.2.2.1.size))
        clear hb2 HCOP f0 f1 f2 f3
        go_wp2_with fail
        refine (HKQ.out _ _ _).mono ?_
        rintro e u3 ⟨rfl, hb3⟩
        have HB3 := Lib.hid (HB2.out.trans (hb3.mono HB2.out.size))
        clear hb3
        go_wp2_with fail
        go_roundw
        case rel =>
          have hz := HM.out.2.2.2.2.1.size
          have hz2 := HB3.out.size
          have hz4 := HM.out.2.2.2.2.2
          refine ⟨k + 1, D, by simp, by rw [HN.out]; omega, map_more (map_keep HM.out.1 (HB3.out.block _ (map_lt HM.out.1))) (by omega), ?_, HM.out.2.2.1.bel HB3.out, by rw [HN.out]; exact ownsRow_below HM.out.2.2.2.1 HB3.out, HM.out.2.2.2.2.1.trans (HB3.out.mono hz), by omega⟩
          rw [filter_no HY.out (by simpa using HT.out)]
          exact HM.out.2.1
        case measure =>
          simp [intOf]
          omega
    · have hkn : k = n := by omega
      subst hkn
      have hD := HM.out.2.1
      rw [← HN.out, List.take_length] at hD
      have hoR := HO.out.1.below HM.out.2.2.2.2.1
      have hlt' := HO.out.1.lt
      have hto := takeout_any 25 (.pointer (some ⟨w.heap.size + 1, 0, none⟩)) (fun z => decide (z.k ∈ (es.filter fun y => decide (y.e.t = to)).map (·.k))) p S A c es b.r b.nx wr hoR call_gone (fun v z hz hkk => by
        have hnr : ∀ j, w.heap.size ≤ j → ¬ Row A j := fun j hj hr => by have := hlt' _ (HO.out.1.sr _ hr); omega
        have h4 := HM.out.2.2.2.2.2
        refine gone_any z (w.heap.size + 1) w.heap.size _ D _ v ((hkk.block _ (by omega) (hnr _ (by omega))).trans HM.out.2.2.1) (map_keep HM.out.1 (hkk.block _ (by omega) (hnr _ (Nat.le_refl _)))) hD (HO.out.2.2 z hz).2)
      rw [keep_list HO.out.1.up, HN.out] at hto
      unfold ptr at hto
      obtain ⟨R, hR⟩ : ∃ R : Int, (k : Int) - ((es.filter fun z => !decide (z.e.t = to)).length : Int) = R := ⟨_, rfl⟩
      rw [hR] at hto
      have HR := Lib.hid hR
      have HTO := Lib.hid hto
      clear hD hoR hlt' hto hR
      go_wp2_with fail
      refine HTO.out.mono ?_
      rintro e u ⟨rfl, hou, hku⟩
      have HF := Lib.hid (And.intro hou hku)
      clear hou hku HTO
      go_wp2_with fail
      refine leaves_cons (f := 23) (args := #[]) (by simp) (by simp [go_sem]) ?_
      refine (rec_idle _).mono ?_
      rintro e u' w2 ⟨rfl, rfl, rfl⟩
      simp [Leaves, settle, results, Try.results14, go_sem]
      exact ⟨HR.out.symm, ⟨A, c, _, HF.out.1, HO.out.2.1.symm⟩, (Keeps.ofBelow HM.out.2.2.2.2.1).trans HF.out.2 (Grew.refl S w)⟩
end Go.Proofs.Ytgnpnjfoenmfbaa.Bg
