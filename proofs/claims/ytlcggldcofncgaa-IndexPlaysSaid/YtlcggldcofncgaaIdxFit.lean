/-
  Texts of earlier layers, as one.
-/
import Derived.Test.YtlcggldcofncgaaIdxOwn
import Derived.Test.YtlcggldcofncgaaRRun
/- The program's fitting, for texts and for ints as keys, with near's own questions. -/
namespace Go.Proofs.Ytlcggldcofncgaa.Ix
open Go.RowKit Mem Dsk Go.Maps Ky Cmd Run

/-- The cells of groups. -/
def gs (os : List (Option Nat)) : List Value := os.map mapE
theorem gs_one (os : List (Option Nat)) : ∀ u ∈ gs os, u.oneCell' = true := by
  intro u hu
  obtain ⟨_, _, rfl⟩ := List.mem_map.1 hu
  rfl
/-- What fitting comes to. -/
def Fitted (w : World) (N : Nat) (G : Nat → Prop) (need : Option Nat → Prop) (e : Ending) (w' : World) : Prop := ∃ (V : Option Addr) (n c : Nat) (os : List (Option Nat)), e = .returned (.slice V n c) ∧ w'.ownsRow w.heap.size 58 1 (.slice V n c) n (gs os) ∧ os.length = n ∧ n ≤ N ∧
  (∀ o ∈ os, ∃ g, o = some g ∧ G g) ∧ (∀ o, need o → o ∈ os) ∧ Below w.heap.size w w'
/-- 'append(v, x...)', v the call's own: where it is turned, too. -/
theorem wpList_append_rdg {P : Program} {w : World} {ops : Array Oper} {rest : List Oper} {o : Oper} {a : Act} {Q : Exit → Act → World → Prop} (hgd : o.guard = none) (s x : Operand) (t : TypeId)
    (ho : o.op = .call { callee := .builtin .append, args := #[s, x], argTypes := #[t, t] })
    (base : Nat) (e : TypeId) (i : TypeInfo) (z : Value) (bytes : Nat) (ht : P.underlying t = some (.slice e)) (hi : P.info? e = some i) (hz : i.zero = some z)
    (hsize : i.size = 1) (hby : i.bytes = bytes) (hzs : z.cells.size = 1)
    (V : Option Addr) (n cv : Nat) (xs : List Value) (hs : a.eval s = .slice V n cv) (hown : w.ownsRow base e 1 (.slice V n cv) n xs)
    (A : Option Addr) (m c : Nat) (news : List Value) (hx : a.eval x = .slice A m c) (hr : Rd w A m c news) (h1 : ∀ u ∈ news, u.oneCell' = true)
    (h63 : n + m ≤ maxLen) (hbytes : (n + m) * bytes ≤ 140737488355328) (hbase : base ≤ w.heap.size)
    (h : ∀ V' c' w', w'.ownsRow base e 1 (.slice V' (n + m) c') (n + m) (xs ++ news) → w.grownBy w' (Value.slice V n cv).ownBlock → Below base w w' → wpList P ops Q rest (a.put o.dst (.slice V' (n + m) c')) w') : wpList P ops Q (o :: rest) a w := by
  rcases A with _ | ad
  · have hc : c = 0 := hr.nil rfl
    have hm : m = 0 := by have := hr.le; omega
    subst hc; subst hm
    have hn : news = [] := List.eq_nil_of_length_eq_zero hr.len
    subst hn
    refine wpList_append_own_none hgd s x t ho base e i 1 ht hi _ n xs hs hown hx ?_
    exact h V cv w (by simpa using hown) (World.grownBy.refl _ _) (Below.refl _ _)
  · refine wpList_append_own w hgd s x t ho base e i z 1 bytes ht hi hz hsize hby hzs (by omega) _ n xs hs hown ad m c news hx (by rw [hr.len, Nat.mul_one]) (hr.cells _ rfl) h1 h63 hbytes hbase
      fun v' w' hown' hg _ => ?_
    obtain ⟨V', c', rfl, _⟩ := Rd.of_own hown'
    exact h V' c' w' hown' hg ((Below.refl _ _).grown hg hbase fun k hk => (hown.lt k hk).1)
theorem near1_any (k : Int) (w : World) : Calls Try.prog 52 #[.int .i64 k] w (fun e w' => e = .returned (.bool true) ∧ w' = w) := by
  go_enter Try.func52, Try.ntmps52
  go_wp2_with fail
  go_ret
  exact ⟨rfl, rfl⟩
theorem near2_any (k ck : ByteArray) (b : Nat) (w : World) (hc : w.cell? ⟨b, 3, none⟩ = some (.string ck)) : Calls Try.prog 54 #[.string k, .pointer (some ⟨b, 0, none⟩)] w (fun e w' => e = .returned (.bool (decide (bts ck <+: bts k))) ∧ w' = w) := by
  have HB := Lib.hid (begins_any k ck w)
  go_enter Try.func54, Try.ntmps54
  go_wp2_with fail
  refine HB.out.mono ?_
  rintro e u ⟨rfl, rfl⟩
  go_wp2_with fail
  go_ret
  exact ⟨rfl, rfl⟩

def FitRel_str (ck : ByteArray) (g2 r N : Nat) (fk : ByteArray → Option (Option Nat)) (G : Nat → Prop) (w : World) (v : Value) (wr : World) : Prop := ∃ (V : Option Addr) (n c : Nat) (os : List (Option Nat)) (left : ByteArray → Bool) (cnt : Nat), v = .slice V n c ∧ wr.ownsRow w.heap.size 58 1 (.slice V n c) n (gs os) ∧ os.length = n ∧ n + cnt ≤ N ∧
  Rg strK mapE wr (some g2) r fk left cnt ∧ (∀ o ∈ os, ∃ g, o = some g ∧ G g) ∧ (∀ k o, fk k = some o → decide (bts ck <+: bts k) = true → left k = false → o ∈ os) ∧ Below w.heap.size w wr
set_option maxRecDepth 20000 in
set_option maxHeartbeats 4000000 in
theorem fit_str {g2 N : Nat} {fk : ByteArray → Option (Option Nat)} {G : Nat → Prop} (ck : ByteArray) (bb : Nat) (w : World) (hk : Mp strK mapE w g2 N fk) (hL : Leads fk G) (hN : N ≤ 1073741824) (hc : w.cell? ⟨bb, 3, none⟩ = some (.string ck)) (hbb : bb < w.heap.size) :
    Calls Try.prog 53 #[.map (some g2), .func (.func 54) #[] #[.pointer (some ⟨bb, 0, none⟩)]] w (Fitted w N G fun o => ∃ k, fk k = some o ∧ decide (bts ck <+: bts k) = true) := by
  obtain ⟨i0, hi, hz0, hz1, hz2⟩ := info_parts (show (Try.prog.info? 58).map (fun i => (i.zero, i.size, i.bytes)) = some (some (.map none), 1, 8) by kernel_rfl)
  have hF : ∀ args W, (callFunc 54 args).run Try.prog W = .ok (.enter 54 args) W := fun args W => by kernel_rfl
  have hlt := hk.lt
  have HC := Lib.hid (And.intro hc hbb)
  clear hc hbb
  have HL := Lib.hid hL
  have HK := Lib.hid (show MpO strK mapE w (some g2) N fk from hk)
  have HO := Lib.hid (World.ownsRow_nil w w.heap.size 58 1)
  have HN := Lib.hid hN
  have HLT := Lib.hid hlt
  clear hk hL hN hlt
  go_enter Try.func53, Try.ntmps53
  go_wp2_with (at_range; refine wpList_range_rg rfl (.tmp 8) 55 rfl 58 strK Try.underlying55 mapE (some g2) N fk rfl HK.out ?_; intro w0 hrg0 hg0 hs0)
  try go_frame
  have HB0 := Lib.hid (show Below w.heap.size w w0 from (Below.refl _ w).grown hg0 (Nat.le_refl _) fun k e => by cases e)
  have HR0 := Lib.hid hrg0
  have HO0 := Lib.hid (ownsRow_below HO.out HB0.out)
  obtain ⟨r, hr⟩ : ∃ r, w.heap.size = r := ⟨_, rfl⟩
  have HRW := Lib.hid hr
  rw [hr] at HR0 ⊢
  clear hrg0 hg0 hs0 hr
  go_loopw [5] (FitRel_str ck g2 r N fk G w) (fun _ wr => meas wr (some g2) r)
  case atStart => exact ⟨none, 0, 0, [], _, N, rfl, HO0.out, rfl, by omega, HR0.out, (fun o ho => by cases ho), (fun k o h1 _ h2 => by rw [h1] at h2; cases h2), HB0.out⟩
  case round =>
    obtain ⟨V, n, c, os, left, cnt, rfl, hown, hon, hcn, hrg, hos, hall, hbl⟩ := hrel
    have HBL := Lib.hid hbl
    have HOWN := Lib.hid hown
    have HOS := Lib.hid (And.intro hos (And.intro hall (And.intro hon hcn)))
    have HRG := Lib.hid hrg
    clear hbl hown hos hall hon hcn hrg
    go_wp2_with (at_next; refine wpList_next_rg rfl (.tmp 9) rfl strK mapE Value.string Value.map rfl rfl mapE_inj (some g2) r fk left cnt rfl HRG.out ?_ ?_)
    · intro hl0
      go_wp2_with fail
      go_ret
      obtain ⟨hos, hall, hon, hcn⟩ := HOS.out
      exact ⟨V, n, c, os, rfl, HOWN.out, hon, by omega, hos, fun o ⟨k, h1, h2⟩ => hall k o h1 h2 (hl0 k), HBL.out⟩
    · intro x oo w2 cnt2 hx hlk hfx hrg2 hlt2 hg2 hs2 hen
      have hbr : Below w.heap.size w w2 := HBL.out.grown hg2 HBL.out.size fun k e => by injection e with e; rw [HRW.out, e]; exact Nat.le_refl _
      have hown2 := own_keep (w' := w2) HOWN.out fun k h1 h2 => hg2.block k h2 fun e => own_ne_iter HOWN.out HRG.out.iter (by rw [h1]; exact e)
      have hask := near2_any x ck bb w2 ((hbr.cell HC.out.2).trans HC.out.1)
      obtain ⟨g, rfl, hgG⟩ := HL.out x oo hfx
      have HOWN2 := Lib.hid hown2
      have HBR := Lib.hid hbr
      have HRG2 := Lib.hid hrg2
      have HLT2 := Lib.hid hlt2
      have HFX := Lib.hid (And.intro hfx (And.intro hgG (And.intro hlk hx)))
      have HA := Lib.hid hask
      clear hown2 hbr hrg2 hlt2 hfx hgG hlk hx hask hg2 hs2
      obtain ⟨b, hb⟩ : ∃ b, decide (bts ck <+: bts x) = b := ⟨_, rfl⟩
      rw [hb] at HA
      have HBB := Lib.hid hb
      clear hb
      cases b with
      | false =>
        go_wp2_with fail
        (with_reducible refine HA.out.mono ?_)
        rintro e w3 ⟨rfl, rfl⟩
        go_wp2_with fail
        go_roundw
        case rel =>
          obtain ⟨hos, hall, hon, hcn⟩ := HOS.out
          have hlt2 := HLT2.out
          refine ⟨V, n, c, os, _, cnt2, rfl, HOWN2.out, hon, by omega, HRG2.out, hos, fun k o h1 h2 h3 => ?_, HBR.out⟩
          by_cases e : k = x
          · subst e
            have h4 := HBB.out
            rw [h2] at h4
            cases h4
          · exact hall k o h1 (by first | exact h2 | trivial) (by simpa [e] using h3)
        case measure => rw [HRG2.out.meas, HRG.out.meas]; exact HLT2.out
      | true =>
        go_wp2_with fail
        (with_reducible refine HA.out.mono ?_)
        rintro e w3 ⟨rfl, rfl⟩
        obtain ⟨hos, hall, hon, hcn⟩ := HOS.out
        have hlt2 := HLT2.out
        have hN := HN.out
        have HOA := Lib.hid (ownsRow_below HOWN2.out (bel_alloc (Below.refl _ _) (.cells #[.map (some g)] 58)))
        have HRA := Lib.hid (Rd.one w3 (.map (some g)) 58)
        have HSZ := Lib.hid HBR.out.size
        go_wp2_with (at_builtin; refine wpList_append_rdg rfl (.tmp 18) (.tmp 20) 74 rfl w.heap.size 58 i0 _ 8 Try.underlying74 hi hz0 hz1 hz2 rfl V n c (gs os) rfl HOA.out (some ⟨w3.heap.size, 0, none⟩) 1 1 [.map (some g)] rfl HRA.out (by simp [Value.oneCell']) (by unfold maxLen; omega) (by omega) (by have := HSZ.out; simp; omega) ?_; intro V' c' w4 hown4 hg4 hb4)
        go_roundw
        case rel =>
          have hb5 : Below w.heap.size w3 w4 := (bel_alloc (Below.refl w3.heap.size w3) (.cells #[.map (some g)] 58)).mono HSZ.out |>.trans hb4
          have hr3 : Rg strK mapE w4 (some g2) r fk (fun y => left y && !decide (y = x)) cnt2 := HRG2.out.keep
            (fun b hb => by
              injection hb with hb
              subst hb
              have hm := HRG2.out.map
              obtain ⟨es, clock, hm'⟩ := hm
              have hl := (Array.getElem?_eq_some_iff.1 hm').1
              rw [hg4.block g2 (by simp; omega) (fun e => own_ne_map HOWN2.out ⟨es, clock, hm'⟩ e.symm), heap_alloc_old _ _ hl])
            (by
              have hl := HRG2.out.lt
              rw [hg4.block r (by simp; omega) (fun e => own_ne_iter HOWN2.out HRG2.out.iter e.symm), heap_alloc_old _ _ hl])
          refine ⟨V', n + 1, c', os ++ [some g], _, cnt2, rfl, by rw [gs, List.map_append]; exact hown4, by simp [hon], by omega, hr3, fun o ho => ?_, fun k o h1 h2 h3 => ?_, HBR.out.trans hb5⟩
          · rcases List.mem_append.1 ho with ho | ho
            · exact hos o ho
            · rw [List.mem_singleton.1 ho]
              exact ⟨g, rfl, HFX.out.2.1⟩
          · by_cases e : k = x
            · subst e
              rw [HFX.out.1] at h1
              rw [← Option.some.inj h1]
              simp
            · exact List.mem_append_left _ (hall k o h1 (by first | exact h2 | trivial) (by simpa [e] using h3))
        case measure =>
          have hr3 : Rg strK mapE w4 (some g2) r fk (fun y => left y && !decide (y = x)) cnt2 := HRG2.out.keep
            (fun b hb => by
              injection hb with hb
              subst hb
              have hm := HRG2.out.map
              obtain ⟨es, clock, hm'⟩ := hm
              have hl := (Array.getElem?_eq_some_iff.1 hm').1
              rw [hg4.block g2 (by simp; omega) (fun e => own_ne_map HOWN2.out ⟨es, clock, hm'⟩ e.symm), heap_alloc_old _ _ hl])
            (by
              have hl := HRG2.out.lt
              rw [hg4.block r (by simp; omega) (fun e => own_ne_iter HOWN2.out HRG2.out.iter e.symm), heap_alloc_old _ _ hl])
          rw [hr3.meas, HRG.out.meas]
          exact HLT2.out

def FitRel_int (g2 r N : Nat) (fk : Int → Option (Option Nat)) (G : Nat → Prop) (w : World) (v : Value) (wr : World) : Prop := ∃ (V : Option Addr) (n c : Nat) (os : List (Option Nat)) (left : Int → Bool) (cnt : Nat), v = .slice V n c ∧ wr.ownsRow w.heap.size 58 1 (.slice V n c) n (gs os) ∧ os.length = n ∧ n + cnt ≤ N ∧
  Rg intK mapE wr (some g2) r fk left cnt ∧ (∀ o ∈ os, ∃ g, o = some g ∧ G g) ∧ (∀ k o, fk k = some o → true = true → left k = false → o ∈ os) ∧ Below w.heap.size w wr
set_option maxRecDepth 20000 in
set_option maxHeartbeats 4000000 in
theorem fit_int {g2 N : Nat} {fk : Int → Option (Option Nat)} {G : Nat → Prop} (w : World) (hk : Mp intK mapE w g2 N fk) (hL : Leads fk G) (hN : N ≤ 1073741824) :
    Calls Try.prog 51 #[.map (some g2), .func (.func 52) #[] #[]] w (Fitted w N G fun o => ∃ k, fk k = some o ∧ true = true) := by
  obtain ⟨i0, hi, hz0, hz1, hz2⟩ := info_parts (show (Try.prog.info? 58).map (fun i => (i.zero, i.size, i.bytes)) = some (some (.map none), 1, 8) by kernel_rfl)
  have hF : ∀ args W, (callFunc 52 args).run Try.prog W = .ok (.enter 52 args) W := fun args W => by kernel_rfl
  have hlt := hk.lt
  have HL := Lib.hid hL
  have HK := Lib.hid (show MpO intK mapE w (some g2) N fk from hk)
  have HO := Lib.hid (World.ownsRow_nil w w.heap.size 58 1)
  have HN := Lib.hid hN
  have HLT := Lib.hid hlt
  clear hk hL hN hlt
  go_enter Try.func51, Try.ntmps51
  go_wp2_with (at_range; refine wpList_range_rg rfl (.tmp 8) 56 rfl 58 intK Try.underlying56 mapE (some g2) N fk rfl HK.out ?_; intro w0 hrg0 hg0 hs0)
  try go_frame
  have HB0 := Lib.hid (show Below w.heap.size w w0 from (Below.refl _ w).grown hg0 (Nat.le_refl _) fun k e => by cases e)
  have HR0 := Lib.hid hrg0
  have HO0 := Lib.hid (ownsRow_below HO.out HB0.out)
  obtain ⟨r, hr⟩ : ∃ r, w.heap.size = r := ⟨_, rfl⟩
  have HRW := Lib.hid hr
  rw [hr] at HR0 ⊢
  clear hrg0 hg0 hs0 hr
  go_loopw [5] (FitRel_int g2 r N fk G w) (fun _ wr => meas wr (some g2) r)
  case atStart => exact ⟨none, 0, 0, [], _, N, rfl, HO0.out, rfl, by omega, HR0.out, (fun o ho => by cases ho), (fun k o h1 _ h2 => by rw [h1] at h2; cases h2), HB0.out⟩
  case round =>
    obtain ⟨V, n, c, os, left, cnt, rfl, hown, hon, hcn, hrg, hos, hall, hbl⟩ := hrel
    have HBL := Lib.hid hbl
    have HOWN := Lib.hid hown
    have HOS := Lib.hid (And.intro hos (And.intro hall (And.intro hon hcn)))
    have HRG := Lib.hid hrg
    clear hbl hown hos hall hon hcn hrg
    go_wp2_with (at_next; refine wpList_next_rg rfl (.tmp 9) rfl intK mapE (Value.int .i64) Value.map rfl rfl mapE_inj (some g2) r fk left cnt rfl HRG.out ?_ ?_)
    · intro hl0
      go_wp2_with fail
      go_ret
      obtain ⟨hos, hall, hon, hcn⟩ := HOS.out
      exact ⟨V, n, c, os, rfl, HOWN.out, hon, by omega, hos, fun o ⟨k, h1, h2⟩ => hall k o h1 h2 (hl0 k), HBL.out⟩
    · intro x oo w2 cnt2 hx hlk hfx hrg2 hlt2 hg2 hs2 hen
      have hbr : Below w.heap.size w w2 := HBL.out.grown hg2 HBL.out.size fun k e => by injection e with e; rw [HRW.out, e]; exact Nat.le_refl _
      have hown2 := own_keep (w' := w2) HOWN.out fun k h1 h2 => hg2.block k h2 fun e => own_ne_iter HOWN.out HRG.out.iter (by rw [h1]; exact e)
      have hask := near1_any x w2
      obtain ⟨g, rfl, hgG⟩ := HL.out x oo hfx
      have HOWN2 := Lib.hid hown2
      have HBR := Lib.hid hbr
      have HRG2 := Lib.hid hrg2
      have HLT2 := Lib.hid hlt2
      have HFX := Lib.hid (And.intro hfx (And.intro hgG (And.intro hlk hx)))
      have HA := Lib.hid hask
      clear hown2 hbr hrg2 hlt2 hfx hgG hlk hx hask hg2 hs2
      obtain ⟨b, hb⟩ : ∃ b, true = b := ⟨_, rfl⟩
      rw [hb] at HA
      have HBB := Lib.hid hb
      clear hb
      cases b with
      | false =>
        go_wp2_with fail
        (with_reducible refine HA.out.mono ?_)
        rintro e w3 ⟨rfl, rfl⟩
        go_wp2_with fail
        go_roundw
        case rel =>
          obtain ⟨hos, hall, hon, hcn⟩ := HOS.out
          have hlt2 := HLT2.out
          refine ⟨V, n, c, os, _, cnt2, rfl, HOWN2.out, hon, by omega, HRG2.out, hos, fun k o h1 h2 h3 => ?_, HBR.out⟩
          by_cases e : k = x
          · subst e
            have h4 := HBB.out
            rw [h2] at h4
            cases h4
          · exact hall k o h1 (by first | exact h2 | trivial) (by simpa [e] using h3)
        case measure => rw [HRG2.out.meas, HRG.out.meas]; exact HLT2.out
      | true =>
        go_wp2_with fail
        (with_reducible refine HA.out.mono ?_)
        rintro e w3 ⟨rfl, rfl⟩
        obtain ⟨hos, hall, hon, hcn⟩ := HOS.out
        have hlt2 := HLT2.out
        have hN := HN.out
        have HOA := Lib.hid (ownsRow_below HOWN2.out (bel_alloc (Below.refl _ _) (.cells #[.map (some g)] 58)))
        have HRA := Lib.hid (Rd.one w3 (.map (some g)) 58)
        have HSZ := Lib.hid HBR.out.size
        go_wp2_with (at_builtin; refine wpList_append_rdg rfl (.tmp 18) (.tmp 20) 74 rfl w.heap.size 58 i0 _ 8 Try.underlying74 hi hz0 hz1 hz2 rfl V n c (gs os) rfl HOA.out (some ⟨w3.heap.size, 0, none⟩) 1 1 [.map (some g)] rfl HRA.out (by simp [Value.oneCell']) (by unfold maxLen; omega) (by omega) (by have := HSZ.out; simp; omega) ?_; intro V' c' w4 hown4 hg4 hb4)
        go_roundw
        case rel =>
          have hb5 : Below w.heap.size w3 w4 := (bel_alloc (Below.refl w3.heap.size w3) (.cells #[.map (some g)] 58)).mono HSZ.out |>.trans hb4
          have hr3 : Rg intK mapE w4 (some g2) r fk (fun y => left y && !decide (y = x)) cnt2 := HRG2.out.keep
            (fun b hb => by
              injection hb with hb
              subst hb
              have hm := HRG2.out.map
              obtain ⟨es, clock, hm'⟩ := hm
              have hl := (Array.getElem?_eq_some_iff.1 hm').1
              rw [hg4.block g2 (by simp; omega) (fun e => own_ne_map HOWN2.out ⟨es, clock, hm'⟩ e.symm), heap_alloc_old _ _ hl])
            (by
              have hl := HRG2.out.lt
              rw [hg4.block r (by simp; omega) (fun e => own_ne_iter HOWN2.out HRG2.out.iter e.symm), heap_alloc_old _ _ hl])
          refine ⟨V', n + 1, c', os ++ [some g], _, cnt2, rfl, by rw [gs, List.map_append]; exact hown4, by simp [hon], by omega, hr3, fun o ho => ?_, fun k o h1 h2 h3 => ?_, HBR.out.trans hb5⟩
          · rcases List.mem_append.1 ho with ho | ho
            · exact hos o ho
            · rw [List.mem_singleton.1 ho]
              exact ⟨g, rfl, HFX.out.2.1⟩
          · by_cases e : k = x
            · subst e
              rw [HFX.out.1] at h1
              rw [← Option.some.inj h1]
              simp
            · exact List.mem_append_left _ (hall k o h1 (by first | exact h2 | trivial) (by simpa [e] using h3))
        case measure =>
          have hr3 : Rg intK mapE w4 (some g2) r fk (fun y => left y && !decide (y = x)) cnt2 := HRG2.out.keep
            (fun b hb => by
              injection hb with hb
              subst hb
              have hm := HRG2.out.map
              obtain ⟨es, clock, hm'⟩ := hm
              have hl := (Array.getElem?_eq_some_iff.1 hm').1
              rw [hg4.block g2 (by simp; omega) (fun e => own_ne_map HOWN2.out ⟨es, clock, hm'⟩ e.symm), heap_alloc_old _ _ hl])
            (by
              have hl := HRG2.out.lt
              rw [hg4.block r (by simp; omega) (fun e => own_ne_iter HOWN2.out HRG2.out.iter e.symm), heap_alloc_old _ _ hl])
          rw [hr3.meas, HRG.out.meas]
          exact HLT2.out
end Go.Proofs.Ytlcggldcofncgaa.Ix
