/-
  Texts of earlier layers, as one.
-/
import Derived.Test.YtgnpnjfoenmfbaaBagSmall
import Derived.Deep.Cut
/- slices.IndexFunc, DeleteFunc and Clone of entries: with whatever question. -/
namespace Go.Proofs.Ytgnpnjfoenmfbaa.Bg
open Go.RowKit Mem Dsk

/-- Where the question is first answered so. -/
def Firsts (l : List Pe) (q : Pe → Bool) (r : Int) : Prop := (r = -1 ∧ ∀ y ∈ l, q y = false) ∨ ∃ (k : Nat) (x : Pe), r = k ∧ l[k]? = some x ∧ q x = true ∧ ∀ y ∈ l.take k, q y = false
def IdxRel (l : List Pe) (q : Pe → Bool) (w : World) (v : Value) (wr : World) : Prop := ∃ k : Nat, v = .int .i64 (k : Int) ∧ k ≤ l.length ∧ (∀ y ∈ l.take k, q y = false) ∧ Below w.heap.size w wr
theorem no_snoc {l : List Pe} {q : Pe → Bool} {k : Nat} {x : Pe} (hx : l[k]? = some x) (h : ∀ y ∈ l.take k, q y = false) (hq : q x = false) : ∀ y ∈ l.take (k + 1), q y = false := by
  intro y hy
  rw [List.take_add_one, hx] at hy
  rcases List.mem_append.1 hy with hy | hy
  · exact h y hy
  · simp at hy
    rw [hy]
    exact hq
set_option maxRecDepth 20000 in
set_option maxHeartbeats 4000000 in
theorem index_any (F : Nat) (cap : Value) (q : Pe → Bool) (l : List Pe) (A : Option Addr) (n c : Nat) (w : World) (ha : Rw LP w A n c l) (hF : ∀ args W, (callFunc F args).run Try.prog W = .ok (.enter F args) W)
    (hq : ∀ u x, x ∈ l → Below w.heap.size w u → Calls Try.prog F #[valP x, cap] u (Tells (q x) u)) :
    Calls Try.prog 28 #[.slice A n c, .func (.func F) #[] #[cap]] w (fun e w' => ∃ r, e = .returned (.int .i64 r) ∧ Firsts l q r ∧ Below w.heap.size w w') := by
  have hla := ha.len
  have HA := Lib.hid ha
  have HQ := Lib.hid hq
  have hca := And.intro ha.le ha.cap
  unfold maxLen at hca
  clear ha hq
  go_enter Try.func28, Try.ntmps28
  go_wp2_with fail
  go_loopw [8] (IdxRel l q w) (fun v _ => n - (intOf v).toNat)
  case atStart => exact ⟨0, rfl, Nat.zero_le _, by simp, Below.refl _ _⟩
  case round =>
    obtain ⟨k, rfl, hk, hno, hbw⟩ := hrel
    by_cases hlt : k < n
    · obtain ⟨g, o, x, rfl, hg, hx, hcx⟩ := (HA.out.below hbw).at_ hlt
      obtain ⟨c0, c1, c2, c3⟩ := four hcx
      have hqx := HQ.out wr x (List.mem_of_getElem? hx) hbw
      unfold valP at hqx
      have HX := Lib.hid hx
      have HBW := Lib.hid hbw
      have HI := Lib.hid hno
      clear hx hbw hno hcx
      rw [show o + k * LP.s = o + k * 4 from rfl] at c0 c1 c2 c3
      obtain ⟨xk, ⟨xf, xt, xb⟩, xA, xc⟩ := x
      obtain ⟨t, ht⟩ : ∃ t, q ⟨xk, ⟨xf, xt, xb⟩, xA, xc⟩ = t := ⟨_, rfl⟩
      rw [ht] at hqx
      simp only at c0 c1 c2 c3 hqx
      have HT := Lib.hid ht
      have HQX := Lib.hid hqx
      clear hqx ht
      cases t with
      | true =>
        go_wp2_with fail
        refine HQX.out.mono ?_
        rintro e w2 ⟨rfl, hb2⟩
        have HB2 := Lib.hid hb2
        clear hb2
        go_wp2_with fail
        go_ret
        exact ⟨_, rfl, .inr ⟨k, _, rfl, HX.out, HT.out, HI.out⟩, bel_trans HBW.out HB2.out⟩
      | false =>
        go_wp2_with fail
        refine HQX.out.mono ?_
        rintro e w2 ⟨rfl, hb2⟩
        have HB2 := Lib.hid hb2
        clear hb2
        go_wp2_with fail
        go_roundw
        case rel => exact ⟨k + 1, by simp, by omega, no_snoc HX.out HI.out HT.out, bel_trans HBW.out HB2.out⟩
        case measure =>
          simp [intOf]
          omega
    · have HBW := Lib.hid hbw
      have HI := Lib.hid hno
      clear hbw hno
      go_wp2_with fail
      go_ret
      refine ⟨_, rfl, .inl ⟨rfl, ?_⟩, HBW.out⟩
      have := HI.out
      rwa [List.take_of_length_le (by omega)] at this

/-- Leaving entries out, on the way: the first p of d have been looked at; the row holds dk. -/
structure Left (d : List Pe) (q : Pe → Bool) (p kk : Nat) (dk : List Pe) : Prop where
  len : dk.length = d.length
  num : ((d.take p).filter fun y => !q y).length = kk
  low : dk.take kk = (d.take p).filter fun y => !q y
  high : ∀ i, p ≤ i → dk[i]? = d[i]?
  lt : kk < p
theorem filter_yes {d : List Pe} {f : Pe → Bool} {p : Nat} {y : Pe} (hy : d[p]? = some y) (h : f y = true) : (d.take (p + 1)).filter f = (d.take p).filter f ++ [y] := by rw [List.take_add_one, hy]; simp [h]
theorem filter_no {d : List Pe} {f : Pe → Bool} {p : Nat} {y : Pe} (hy : d[p]? = some y) (h : f y = false) : (d.take (p + 1)).filter f = (d.take p).filter f := by rw [List.take_add_one, hy]; simp [h]
theorem filter_all {l : List Pe} {q : Pe → Bool} (h : ∀ y ∈ l, q y = false) : (l.filter fun y => !q y) = l := List.filter_eq_self.2 fun y hy => by simp [h y hy]
theorem Left.start {d : List Pe} {q : Pe → Bool} {x : Pe} {k : Nat} (hx : d[k]? = some x) (hq : q x = true) (h : ∀ y ∈ d.take k, q y = false) : Left d q (k + 1) k d := by
  have hlt : k < d.length := (List.getElem?_eq_some_iff.1 hx).1
  have e : ((d.take (k + 1)).filter fun y => !q y) = d.take k := by
    rw [filter_no hx (by simp [hq]), filter_all h]
  exact ⟨rfl, by rw [e, List.length_take]; omega, e.symm, fun _ _ => rfl, by omega⟩
theorem Left.skip {d dk : List Pe} {q : Pe → Bool} {y : Pe} {p kk : Nat} (h : Left d q p kk dk) (hy : d[p]? = some y) (hq : q y = true) : Left d q (p + 1) kk dk := by
  have h0 := h.lt
  have e := filter_no (f := fun y => !q y) hy (by simp [hq])
  exact ⟨h.len, by rw [e]; exact h.num, by rw [e]; exact h.low, fun i hi => h.high i (by omega), by omega⟩
theorem Left.more {d dk : List Pe} {q : Pe → Bool} {y : Pe} {p kk : Nat} (h : Left d q p kk dk) (hy : d[p]? = some y) (hq : q y = false) : Left d q (p + 1) (kk + 1) (dk.set kk y) := by
  have h0 := h.lt
  have hlt : p < d.length := (List.getElem?_eq_some_iff.1 hy).1
  have hl := h.len
  have e := filter_yes (f := fun y => !q y) hy (by simp [hq])
  refine ⟨by rw [List.length_set, h.len], by rw [e, List.length_append, h.num]; rfl, ?_, fun i hi => ?_, by omega⟩
  · rw [e, ← h.low, List.take_add_one, List.getElem?_set_self (by omega)]
    congr 1
    rw [List.take_set_of_le (Nat.le_refl _)]
  · rw [List.getElem?_set_ne (by omega)]
    exact h.high i (by omega)
theorem Left.stop {d dk : List Pe} {q : Pe → Bool} {kk : Nat} (h : Left d q d.length kk dk) : dk.take kk = (d.filter fun y => !q y) ∧ kk = (d.filter fun y => !q y).length := by
  have h1 := h.low
  have h2 := h.num
  rw [List.take_length] at h1 h2
  exact ⟨h1, h2.symm⟩
def DelRel (d : List Pe) (q : Pe → Bool) (g c : Nat) (w : World) (v5 v6 : Value) (wr : World) : Prop :=
  ∃ (kk j : Nat) (dk : List Pe), v5 = .int .i64 kk ∧ v6 = .int .i64 j ∧ j ≤ d.length ∧ Hdr LP wr g 50 c dk ∧ Left d q j kk dk ∧ Keeps (fun k => k = g) w wr
def zeroP : List Value := [.int .i64 0, .int .i64 0, .int .i64 0, .slice none 0 0]
theorem keeps_below {S : Nat → Prop} {w w1 w2 : World} (h : Keeps S w w1) (hb : Below w1.heap.size w1 w2) : Keeps S w w2 := h.trans (Keeps.ofBelow hb) (Grew.refl S w)
theorem info_entry : (Try.prog.info? 50).map (·.size) = some 4 := by kernel_rfl
theorem zeros_one (z : Array Value) (m : Nat) (h : ∀ v ∈ z.toList, v.oneCell' = true) : ∀ u ∈ (Builtin.zeroCells z m).toList, u.oneCell' = true := by
  intro u hu
  obtain ⟨i, hi⟩ := List.getElem?_of_mem hu
  have hlt := (List.getElem?_eq_some_iff.1 hi).1
  simp [Builtin.zeroCells] at hlt
  have hz : 0 < z.size := by
    rcases Nat.eq_zero_or_pos z.size with h0 | h0
    · rw [h0] at hlt; omega
    · exact h0
  simp [Builtin.zeroCells, hlt] at hi
  have hm : i % z.size < z.size := Nat.mod_lt _ hz
  rw [← hi]
  first
    | (rw [getElem!_pos z _ hm]; exact h _ (by simp))
    | (rw [Array.getElem?_eq_getElem hm]; exact h _ (by simp))
set_option maxRecDepth 20000 in
set_option maxHeartbeats 8000000 in
theorem delete_row (F : Nat) (cap : Value) (q : Pe → Bool) (d : List Pe) (g n c : Nat) (w : World) (hd : Hdr LP w g 50 c d) (hn : d.length = n) (hF : ∀ args W, (callFunc F args).run Try.prog W = .ok (.enter F args) W)
    (hq : ∀ u x, x ∈ d → Keeps (fun k => k = g) w u → Calls Try.prog F #[valP x, cap] u (Tells (q x) u)) :
    Calls Try.prog 27 #[.slice (some ⟨g, 0, none⟩) n c, .func (.func F) #[] #[cap]] w (fun e w' =>
      e = .returned (.slice (some ⟨g, 0, none⟩) (d.filter fun y => !q y).length c) ∧ Hdr LP w' g 50 c (d.filter fun y => !q y) ∧ Keeps (fun k => k = g) w w') := by
  have HI := Lib.hid (index_any F cap q d _ n c w (hd.rw_ hn) hF (fun u x hx hb => hq u x hx (Keeps.ofBelow hb)))
  obtain ⟨hcm, hlc⟩ : c ≤ maxLen ∧ d.length ≤ c := by obtain ⟨vs, _, _, h3, h4, _⟩ := hd; exact ⟨h3, h4⟩
  unfold maxLen at hcm
  have HD := Lib.hid hd
  have HN := Lib.hid hn
  have HQ := Lib.hid hq
  have hglt := hd.lt
  rw [hn] at hlc
  clear hd hq
  go_enter Try.func27, Try.ntmps27
  go_wp2_with fail
  refine HI.out.mono ?_
  rintro e w1 ⟨r, rfl, hfirst, hb1⟩
  have HB1 := Lib.hid hb1
  have hs1 := hb1.size
  clear hb1
  rcases hfirst with ⟨rfl, hno⟩ | ⟨k, x, rfl, hkx, hqx, hno⟩
  · have hfil := filter_all hno
    have HF := Lib.hid hfil
    clear hfil hno
    go_wp2_with fail
    go_ret
    refine ⟨?_, ?_, Keeps.ofBelow HB1.out⟩
    · rw [HF.out, HN.out]; rfl
    · rw [HF.out]; exact HD.out.bel HB1.out
  · have hkn : k < n := by rw [← hn]; exact (List.getElem?_eq_some_iff.1 hkx).1
    have HST := Lib.hid (Left.start hkx hqx hno)
    have hk1 : ((k : Int) == -1) = false := by
      rw [beq_eq_false_iff_ne]
      omega
    clear hkx hqx hno
    go_wp2_with fail
    go_loopw [5, 6] (DelRel d q g c w) (fun _ v _ => n - (intOf v).toNat)
    case atStart => exact ⟨k, k + 1, d, rfl, by simp, by omega, HD.out.bel HB1.out, HST.out, Keeps.ofBelow HB1.out⟩
    case round =>
      obtain ⟨kk, j, dk, rfl, rfl, hj, hh, hI, hbw⟩ := hrel
      have hkk := hI.lt
      have hlen := hI.len
      have hsr := hbw.size
      have HH := Lib.hid hh
      have HO := Lib.hid hI
      have HBW := Lib.hid hbw
      clear hI hbw
      by_cases hlt : j < n
      · obtain ⟨y, hy⟩ : ∃ x, d[j]? = some x := ⟨_, List.getElem?_eq_getElem (by omega)⟩
        obtain ⟨c0, c1, c2, c3⟩ := four (hh.at_ ((HO.out.high j (Nat.le_refl _)).trans hy))
        rw [show j * LP.s = j * 4 from rfl] at c0 c1 c2 c3
        have hqy := fun W (hb : Below wr.heap.size wr W) => HQ.out W y (List.mem_of_getElem? hy) (keeps_below HBW.out hb)
        unfold valP at hqy
        have HY := Lib.hid hy
        have hkkn : kk < n := by omega
        have hgr := hh.lt
        clear hy hh
        obtain ⟨yk, ⟨yf, yt, yb⟩, yA, yc⟩ := y
        obtain ⟨t, ht⟩ : ∃ t, q ⟨yk, ⟨yf, yt, yb⟩, yA, yc⟩ = t := ⟨_, rfl⟩
        rw [ht] at hqy
        simp only at c0 c1 c2 c3 hqy
        have HT := Lib.hid ht
        have HQY := Lib.hid hqy
        have HBX := Lib.hid (Blk.new wr 50 #[.int .i64 yk, .int .i64 yf, .int .i64 yt, .slice yA yb.length yc])
        have HBA := Lib.hid (bel_alloc (Below.refl wr.heap.size wr) (.cells #[.int .i64 yk, .int .i64 yf, .int .i64 yt, .slice yA yb.length yc] 50))
        clear hqy ht
        cases t with
        | true =>
          go_wp2_with fail
          refine (HQY.out _ HBA.out).mono ?_
          rintro e w2 ⟨rfl, hb2⟩
          have HB2 := Lib.hid (HBA.out.trans (hb2.mono HBA.out.size))
          clear hb2
          go_wp2_with fail
          go_roundw
          case rel => exact ⟨kk, j + 1, dk, rfl, by simp, by omega, HH.out.bel HB2.out, HO.out.skip HY.out HT.out, keeps_below HBW.out HB2.out⟩
          case measure =>
            simp [intOf]
            omega
        | false =>
          go_wp2_with fail
          refine (HQY.out _ HBA.out).mono ?_
          rintro e w2 ⟨rfl, hb2⟩
          obtain ⟨f0, f1, f2, f3⟩ := blk4 (HBX.out.bel hb2)
          have hb2' := HBA.out.trans (hb2.mono HBA.out.size)
          have hh2 := HH.out.bel hb2'
          have hth := hh2.there (o := kk * 4) (n := 4) (show kk * 4 + 4 ≤ c * 4 by omega)
          have hput := hh2.put (k := kk) (show kk < dk.length by omega) ⟨yk, ⟨yf, yt, yb⟩, yA, yc⟩
          have HB2 := Lib.hid (keeps_below HBW.out hb2')
          have HTH := Lib.hid (show w2.there g (kk * 4) (#[.int .i64 yk, .int .i64 yf, .int .i64 yt, .slice yA yb.length yc] : Array Value).size from hth)
          have HPT := Lib.hid (show Hdr LP (w2.setCells g (kk * 4) (#[.int .i64 yk, .int .i64 yf, .int .i64 yt, .slice yA yb.length yc] : Array Value).toList) g 50 c (dk.set kk ⟨yk, ⟨yf, yt, yb⟩, yA, yc⟩) from hput)
          clear hb2 hb2' hh2 hth hput
          go_upto_region 10 with (with_reducible refine wpList_store_mid rfl 50 (.tmp 33) (.tmp 32) rfl g (kk * 4) #[.int .i64 yk, .int .i64 yf, .int .i64 yt, .slice yA yb.length yc] rfl rfl HTH.out (by kernel_rfl) (by kernel_rfl) ?_)
          obtain ⟨W3, hW3⟩ : ∃ v, w2.setCells g (kk * 4) (#[.int .i64 yk, .int .i64 yf, .int .i64 yt, .slice yA yb.length yc] : Array Value).toList = v := ⟨_, rfl⟩
          have HK3 := Lib.hid (show Keeps (fun k => k = g) w W3 from hW3 ▸ HB2.out.trans (keeps_cells _ _ _) (Grew.refl _ _))
          rw [hW3] at HPT ⊢
          clear hW3 f0 f1 f2 f3
          go_wp2_with fail
          go_roundw
          case rel => exact ⟨kk + 1, j + 1, _, by simp, by simp, by omega, HPT.out, HO.out.more HY.out HT.out, HK3.out⟩
          case measure =>
            simp [intOf]
            omega
      · have hend : j = n := by omega
        have hkkn : kk < n := by omega
        obtain ⟨zs, hzs⟩ : ∃ zs, (Builtin.zeroCells (Value.agg #[.int .i64 0, .int .i64 0, .int .i64 0, .slice none 0 0]).cells (n - kk)).toList = zs := ⟨_, rfl⟩
        have hzl : zs.length = (n - kk) * 4 := by rw [← hzs, Array.length_toList, size_zeroCells]; rfl
        have hz1 : ∀ u ∈ zs, u.oneCell' = true := hzs ▸ zeros_one _ _ (by decide)
        have hfit : kk * 4 + zs.length ≤ c * 4 := by rw [hzl]; omega
        have hclr : ∀ ty, (Builtin.clear_ #[45] ty #[.slice (some ⟨g, kk * 4, none⟩) (n - kk) (c - kk)]).run Try.prog wr = .ok (.tuple #[]) (wr.setCells g (kk * 4) zs) := fun ty =>
          run_clear_row wr 45 50 ty g (kk * 4) (n - kk) (c - kk) _ zs Try.underlying45 (Try.zeroValue50) (by omega) hzs (HH.out.there hfit) hz1
        have hlow := HH.out.low zs hfit
        have HLOW := Lib.hid hlow
        clear hh hzs hzl hz1 hfit hlow
        go_wp2_with fail
        go_ret
        have hstop := HO.out
        rw [hend, ← HN.out] at hstop
        obtain ⟨s1, s2⟩ := hstop.stop
        have hl := HLOW.out
        rw [s1] at hl
        refine ⟨?_, hl, HBW.out.trans (keeps_cells _ _ _) (Grew.refl _ _)⟩
        rw [← s2]; rfl
/-- What DeleteFunc makes of a row. -/
def DelIs (q : Pe → Bool) (d : List Pe) (A : Option Addr) (c : Nat) (w : World) (e : Ending) (w' : World) : Prop :=
  e = .returned (.slice A (d.filter fun y => !q y).length c) ∧ w'.ownsRow 0 50 LP.s (.slice A (d.filter fun y => !q y).length c) (d.filter fun y => !q y).length (LP.flat (d.filter fun y => !q y)) ∧ Keeps (Row A) w w'
set_option maxRecDepth 20000 in
set_option maxHeartbeats 4000000 in
theorem delete_any (F : Nat) (cap : Value) (q : Pe → Bool) (d : List Pe) (A : Option Addr) (c : Nat) (w : World) (ho : w.ownsRow 0 50 LP.s (.slice A d.length c) d.length (LP.flat d)) (hF : ∀ args W, (callFunc F args).run Try.prog W = .ok (.enter F args) W)
    (hq : ∀ u x, x ∈ d → Keeps (Row A) w u → Calls Try.prog F #[valP x, cap] u (Tells (q x) u)) :
    Calls Try.prog 27 #[.slice A d.length c, .func (.func F) #[] #[cap]] w (DelIs q d A c w) := by
  rcases Nat.eq_zero_or_pos d.length with h0 | h0
  · have hd : d = [] := List.eq_nil_of_length_eq_zero h0
    subst hd
    have HI := Lib.hid (index_any F cap q [] A 0 c w (Rw.own ho) hF (fun u x hx => by cases hx))
    have HO := Lib.hid ho
    clear ho hq h0
    simp only [List.length_nil]
    go_enter Try.func27, Try.ntmps27
    go_wp2_with fail
    refine HI.out.mono ?_
    rintro e w1 ⟨r, rfl, hfirst, hb1⟩
    have HB1 := Lib.hid hb1
    clear hb1
    rcases hfirst with ⟨rfl, _⟩ | ⟨k, x, rfl, hkx, _⟩
    · go_wp2_with fail
      go_ret
      exact ⟨rfl, ownsRow_below HO.out HB1.out, Keeps.ofBelow HB1.out⟩
    · simp at hkx
  · obtain ⟨g, c', e, _, hl, hlc, hh⟩ := Hdr.of_own ho h0
    injection e with e1 e2 e3
    subst e1
    subst e3
    have hrow : ∀ k, Row (some ⟨g, 0, none⟩) k ↔ k = g := fun k => ⟨fun h => h.eq.symm, fun h => by rw [h]; exact Row.mk g 0⟩
    have hkr : ∀ {u : World}, Keeps (fun k => k = g) w u → Keeps (Row (some ⟨g, 0, none⟩)) w u := fun {u} h => ⟨h.os, h.tape, h.output, h.size, fun k hk hn => h.block k hk fun e => hn ((hrow k).2 e)⟩
    refine (delete_row F cap q d g d.length c w hh rfl hF fun u x hx hk => hq u x hx (hkr hk)).mono fun e w' ⟨h1, h2, h3⟩ => ⟨h1, h2.own rfl 0 (Nat.zero_le _), hkr h3⟩
end Go.Proofs.Ytgnpnjfoenmfbaa.Bg
