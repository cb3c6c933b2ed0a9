/-
  Texts of earlier layers, as one.
-/
import Derived.Test.YtpalmnjapiijaaaCompWaits
import Derived.Test.YtpalmnjapiijaaaCompHave
import Derived.Deep.LoopGhost
/- The program's Leads. -/
namespace Go.Proofs.Ytpalmnjapiijaaa.Gr
open Go.RowKit Mem Dsk

/-- Who was led to, and who is still to be asked; of i the edges ahead of q were gone along. -/
structure DF (e : Graph) (v : Nat) (led : Nat → Bool) (op : List Nat) (ct i q : Nat) : Prop where
  root : led v = true
  snd : ∀ j, led j = true → lead e v j = true
  opl : ∀ j ∈ op, led j = true
  cls : ∀ x, led x = true → x ∉ op → x ≠ i → ∀ j : Nat, (j : Int) ∈ e.getD x [] → j < e.length → led j = true
  cur : ∀ j : Nat, (j : Int) ∈ (e.getD i []).take q → j < e.length → led j = true
  cnt : ((List.range e.length).filter led).length = ct
  few : op.length ≤ ct
section
variable {e : Graph} {v : Nat} {led : Nat → Bool} {op : List Nat} {ct i q : Nat}
theorem DF.le (h : DF e v led op ct i q) : ct ≤ e.length := by
  rw [← h.cnt]
  have := List.length_filter_le led (List.range e.length)
  rwa [List.length_range] at this
theorem DF.next (h : DF e v led op ct i q) {z : Int} (hz : (e.getD i [])[q]? = some z) (hk : ∀ j : Nat, z = (j : Int) → j < e.length → led j = true) : DF e v led op ct i (q + 1) := by
  refine { h with cur := fun j hj hl => ?_ }
  rw [List.take_add_one, hz] at hj
  rcases List.mem_append.1 hj with hj | hj
  · exact h.cur j hj hl
  · simp at hj
    exact hk j hj.symm hl
theorem DF.found (h : DF e v led op ct i q) {j : Nat} (hz : (e.getD i [])[q]? = some (j : Int)) (hj : j < e.length) (hi : led i = true) (hn : led j = false) : DF e v (upd led j true) (op ++ [j]) (ct + 1) i (q + 1) := by
  have hm : ∀ x, led x = true → upd led j true x = true := fun x hx => by
    by_cases e1 : x = j
    · rw [e1, upd_same]
    · rw [upd_other e1]; exact hx
  have hm2 : ∀ x, upd led j true x = true → led x = true ∨ x = j := fun x hx => by
    by_cases e1 : x = j
    · exact .inr e1
    · rw [upd_other e1] at hx; exact .inl hx
  refine ⟨hm _ h.root, fun x hx => ?_, fun x hx => ?_, fun x hx hxo hxi k hk hkl => ?_, fun k hk hkl => ?_, ?_, ?_⟩
  · rcases hm2 x hx with hx | rfl
    · exact h.snd x hx
    · exact lead_trans (h.snd i hi) (lead_edge (lead_lt (h.snd i hi)).2 hj (List.mem_of_getElem? hz))
  · rcases List.mem_append.1 hx with hx | hx
    · exact hm _ (h.opl x hx)
    · rw [List.mem_singleton.1 hx, upd_same]
  · rcases hm2 x hx with hx' | rfl
    · exact hm _ (h.cls x hx' (fun hm => hxo (List.mem_append_left _ hm)) hxi k hk hkl)
    · exact absurd (List.mem_append_right _ (List.mem_singleton.2 rfl)) hxo
  · rw [List.take_add_one, hz] at hk
    rcases List.mem_append.1 hk with hk | hk
    · exact hm _ (h.cur k hk hkl)
    · simp at hk
      have : k = j := by omega
      rw [this, upd_same]
  · rw [← h.cnt]
    refine filter_one hj hn (upd_same ..) fun y hy => ?_
    rw [upd_other hy]
  · rw [List.length_append, List.length_singleton]
    have := h.few
    omega
/-- The next one is asked. -/
theorem DF.pick {Q : List Nat} {x : Nat} (h : DF e v led (Q ++ [x]) ct i q) (hd : (e.getD i []).length ≤ q ∨ led i = false ∨ i = x) : DF e v led Q ct x 0 := by
  refine ⟨h.root, h.snd, fun j hj => h.opl j (List.mem_append_left _ hj), fun y hy hyQ hyx j hj hjl => ?_, fun j hj => by simp at hj, h.cnt, by have := h.few; rw [List.length_append] at this; omega⟩
  by_cases e1 : y = i
  · subst e1
    rcases hd with hd | hd | hd
    · refine h.cur j ?_ hjl
      rw [List.take_of_length_le hd]
      exact hj
    · rw [hd] at hy; cases hy
    · exact absurd hd hyx
  · refine h.cls y hy (fun hm => ?_) e1 j hj hjl
    rcases List.mem_append.1 hm with hm | hm
    · exact hyQ hm
    · exact hyx (List.mem_singleton.1 hm)
theorem DF.end_ (h : DF e v led [] ct i q) (hd : (e.getD i []).length ≤ q ∨ led i = false) : ∀ j, led j = lead e v j := fun j => by
  rw [Bool.eq_iff_iff]
  refine ⟨h.snd j, fun hj => ?_⟩
  have key : ∀ a b, lead e a b = true → led a = true → led b = true := lead_ind _ (fun a b hab ha => by
    obtain ⟨hal, hbl, hab⟩ := base_iff.1 hab
    rcases hab with rfl | hab
    · exact ha
    · by_cases e1 : a = i
      · subst e1
        rcases hd with hd | hd
        · refine h.cur b ?_ hbl
          rw [List.take_of_length_le hd]
          exact hab
        · rw [hd] at ha; cases ha
      · exact h.cls a ha (by simp) e1 b hab hbl) fun a b c h1 h2 ha => h2 (h1 ha)
  exact key v j hj h.root
end
/-- Leads's own memory. -/
structure LM (w wr : World) (col : Nat → Nat) (b5 n : Nat) (led : Nat → Bool) (A7 : Option Addr) (c7 : Nat) (op : List Nat) : Prop where
  bel : Below w.heap.size w wr
  lo : Lo w.heap.size wr col
  bc : col b5 = 2
  row : wr.rowIs b5 4 n (fun j => .bool (led j))
  opn : Own1 wr w.heap.size col 3 A7 op.length c7 (toZ op)
section
variable {w wr w' : World} {col col' : Nat → Nat} {b5 n : Nat} {led : Nat → Bool} {A7 : Option Addr} {c7 : Nat} {op : List Nat}
theorem LM.set (h : LM w wr col b5 n led A7 c7 op) (j : Nat) : LM w (wr.setCell ⟨b5, j, none⟩ (.bool true)) col b5 n (upd led j true) A7 c7 op := by
  have t : Turns 2 wr col _ col := Turns.set (w := wr) (i := j) h.bc (.bool true)
  refine ⟨t.below h.bel h.lo (by omega), t.lo h.lo h.bel.size, h.bc, (h.row.set j _).congr fun x _ => ?_, t.own h.opn (by omega) (by omega)⟩
  unfold upd
  by_cases e : x = j
  · rw [if_pos e, if_pos e]
  · rw [if_neg e, if_neg e]
theorem LM.put {V : Option Addr} {c' : Nat} {op' : List Nat} (h : LM w wr col b5 n led A7 c7 op) (t : Turns 3 wr col w' col') (ho : Own1 w' w.heap.size col' 3 V op'.length c' (toZ op')) : LM w w' col' b5 n led V c' op' :=
  ⟨t.below h.bel h.lo (by omega), t.lo h.lo h.bel.size, t.cl h.bc (by omega), t.row h.row h.bc (by omega), ho⟩
end
def LdoRel (w : World) (b5 n : Nat) (e : Graph) (v : Nat) (k : Nat) (v6 v7 _ _ : Value) (wr : World) : Prop := ∃ (led : Nat → Bool) (op : List Nat) (ct i q : Nat) (col : Nat → Nat) (A7 : Option Addr) (c7 : Nat), v6 = .int .i64 (ct : Int) ∧ v7 = .slice A7 op.length c7 ∧ 2 * (n - ct) + op.length ≤ k ∧ DF e v led op ct i q ∧ ((e.getD i []).length ≤ q ∨ led i = false) ∧ LM w wr col b5 n led A7 c7 op
def LdiRel (w : World) (b5 n : Nat) (e : Graph) (v ko i rn : Nat) (k : Nat) (v6 v7 _ v45 : Value) (wr : World) : Prop := ∃ (led : Nat → Bool) (op : List Nat) (ct q : Nat) (col : Nat → Nat) (A7 : Option Addr) (c7 : Nat), v45 = .int .i64 (q : Int) ∧ rn - q ≤ k ∧ q ≤ rn ∧ led i = true ∧ v6 = .int .i64 (ct : Int) ∧ v7 = .slice A7 op.length c7 ∧ 2 * (n - ct) + op.length + 1 ≤ ko ∧ DF e v led op ct i q ∧ LM w wr col b5 n led A7 c7 op
/-- The last loop. -/
def LdeRel (w : World) (b5 n : Nat) (e : Graph) (v : Nat) (v11 _ _ v73 : Value) (wr : World) : Prop := ∃ (k m : Nat) (V : Option Addr) (c' : Nat), v11 = .slice V m c' ∧ v73 = .int .i64 (k : Int) ∧ k ≤ n ∧ ((List.range k).filter (lead e v)).length = m ∧ m ≤ k ∧
  wr.ownsRow w.heap.size 3 LN.s (.slice V m c') m (LN.flat (toZ ((List.range k).filter (lead e v)))) ∧ wr.rowIs b5 4 n (fun j => .bool (lead e v j)) ∧ (Value.slice V m c').ownBlock ≠ some b5 ∧ Below w.heap.size w wr
set_option maxRecDepth 20000 in
set_option maxHeartbeats 16000000 in
theorem has_leads : HasLeads := by
  intro A n c e v w h hn hz hwf
  have hln := h.len
  by_cases hv : v < 0 ∨ (n : Int) ≤ v
  · have HT := Lib.hid (there_no A n c v w hv)
    have hL : leadsZ e v = [] := by unfold leadsZ; rw [if_neg (by omega)]
    have HN := Lib.hid (show NewInts w (leadsZ e v) (.returned (.slice none 0 0)) w from by rw [hL]; exact ⟨none, 0, rfl, ⟨rfl, .inl ⟨rfl, rfl⟩⟩, Below.refl _ _⟩)
    clear h hz hwf hv hL
    go_enter Try.func13, Try.ntmps13
    go_wp2_with fail
    (with_reducible refine HT.out.mono ?_)
    rintro r u ⟨rfl, rfl⟩
    go_wp2_with fail
    go_ret
    exact HN.out
  · obtain ⟨x, rfl⟩ := Int.eq_ofNat_of_zero_le (show 0 ≤ v by omega)
    have hx : x < n := by omega
    have HT := Lib.hid (there_yes A n c (x : Int) w (by omega) (by omega))
    have hLx : leadsZ e x = toZ (leads e x) := by
      unfold leadsZ
      rw [if_pos (by omega)]
      rfl
    obtain ⟨ga, oa, rfl⟩ := mat_some h (by omega)
    have hmk := run_make_row' (P := Try.prog) 41 4 (.bool false) 1 Try.underlying41 info_bool rfl .i64 .i64 n (by omega) (by omega)
    have HM := Lib.hid (And.intro h (And.intro hz (And.intro hln hLx)))
    clear h hz hwf hv hLx
    go_enter Try.func13, Try.ntmps13
    go_wp2_with fail
    (with_reducible refine HT.out.mono ?_)
    rintro r u ⟨rfl, rfl⟩
    clear HT
    go_upto_region 4 with fail
    obtain ⟨W1, hW1⟩ : ∃ y, w.alloc (.cells (madeCells #[.bool false] n) 4) = y := ⟨_, rfl⟩
    obtain ⟨b5, hb5⟩ : ∃ y, w.heap.size = y := ⟨_, rfl⟩
    have hb1 : Below w.heap.size w W1 := by rw [← hW1]; exact bel_alloc (Below.refl _ _) _
    have hr1 : W1.rowIs b5 4 n (fun j => .bool ((fun _ : Nat => false) j)) := by rw [← hW1, ← hb5]; exact World.rowIs_made w (.bool false) n 4
    have hs1 : W1.heap.size = b5 + 1 := by rw [← hW1, ← hb5]; simp
    have c0 := hr1.cell hx
    have f0 := hr1.frozen x
    have hr2 : (W1.setCell ⟨b5, x, none⟩ (.bool true)).rowIs b5 4 n (fun j => .bool (upd (fun _ : Nat => false) x true j)) := (hr1.set x (.bool true)).congr fun j _ => by
      unfold upd
      by_cases e1 : j = x
      · rw [if_pos e1, if_pos e1]
      · rw [if_neg e1, if_neg e1]
    have HW := Lib.hid (And.intro hb1 (And.intro hr2 (And.intro hs1 hb5)))
    rw [hW1, hb5]
    clear hW1 hb1 hr1 hs1 hr2 hmk hb5
    go_upto_region 6 with fail
    obtain ⟨W2, hW2⟩ : ∃ y, W1.setCell ⟨b5, x, none⟩ (.bool true) = y := ⟨_, rfl⟩
    have hw := HW.out
    have hb2 : Below w.heap.size w W2 := by rw [← hW2]; exact hw.1.setCell (p := ⟨b5, x, none⟩) (Nat.le_of_eq hw.2.2.2) _
    have hs2 : W2.heap.size = b5 + 1 := by rw [← hW2, ← hw.2.2.1]; simp
    have hr2 := hw.2.1
    have hb5 := hw.2.2.2
    rw [hW2] at hr2 ⊢
    clear hW2 hw c0 f0 HW
    have hLM : LM w (W2.alloc (.cells #[.int .i64 (x : Int)] 3)) (upd (upd (fun _ => 0) b5 2) (b5 + 1) 3) b5 n (upd (fun _ => false) x true) (some ⟨b5 + 1, 0, none⟩) 1 [x] := by
      refine ⟨bel_alloc hb2 _, fun b hb => ?_, by rw [upd_other (by omega), upd_same], hr2.alloc _, ⟨⟨rfl, .inr ⟨b5 + 1, 1, #[.int .i64 (x : Int)], rfl, by omega, by rw [← hs2]; exact heap_alloc_new W2 _, Nat.le_refl _, by simp [maxLen], rfl, rfl⟩⟩, fun b hb => ?_⟩⟩
      · rw [size_alloc, hs2]
        by_cases e1 : b = b5 + 1
        · omega
        · rw [upd_other e1] at hb
          by_cases e2 : b = b5
          · omega
          · rw [upd_other e2] at hb
            exact absurd rfl hb
      · have : b5 + 1 = b := by injection hb
        rw [← this, upd_same]
    have hDF : DF e x (upd (fun _ => false) x true) [x] 1 n 0 := by
      have h1 : ∀ y, upd (fun _ : Nat => false) x true y = true → y = x := fun y hy => by
        by_cases e1 : y = x
        · exact e1
        · rw [upd_other e1] at hy; cases hy
      refine ⟨upd_same .., fun j hj => by rw [h1 j hj]; exact lead_refl (by have := HM.out.2.2; omega), fun j hj => by rw [List.mem_singleton.1 hj, upd_same], fun y hy hyo _ => absurd (List.mem_singleton.2 (h1 y hy)) hyo, fun j hj => by simp at hj, ?_, Nat.le_refl _⟩
      have := filter_one (p := fun _ => false) (q := upd (fun _ : Nat => false) x true) (x := x) (n := e.length) (by have := HM.out.2.2; omega) rfl (upd_same ..) fun y hy => upd_other hy
      rw [this]
      simp
    have HI := Lib.hid (show LdoRel w b5 n e x (2 * n + 1) (.int .i64 1) (.slice (some ⟨b5 + 1, 0, none⟩) 1 1) undef undef (W2.alloc (.cells #[.int .i64 (x : Int)] 3)) from ⟨_, [x], 1, n, 0, _, _, 1, rfl, rfl, by simp; omega, hDF, .inl (by rw [List.getD, List.getElem?_eq_none (by have := HM.out.2.2; omega)]; exact Nat.le_refl _), hLM⟩)
    have HS2 := Lib.hid (And.intro hs2 hb5)
    clear hLM hDF hr2 hb2 hs2 hb5
    go_upto_region 7 with fail
    rw [HS2.out.1]
    go_wp2_with fail
    go_loopg [6, 7, 8, 10] (2 * n + 1) (LdoRel w b5 n e x)
    case atStart => exact HI.out
    case round =>
      rename World => wo
      obtain ⟨led, op, ct, i, q, col, A7, c7, rfl, rfl, hgk, hD, hdn, hL⟩ := hrel
      clear HI
      obtain ⟨ko, rfl⟩ : ∃ y, y = gk := ⟨_, rfl⟩
      have hctn := hD.le
      rcases path_or op with rfl | ⟨Q, y, rfl⟩
      · have hall := hD.end_ hdn
        have hled : led = lead e x := funext hall
        subst hled
        have hmkc : ∀ W : World, (Instr.makeSlice 27 (.int .i64 0) (.int .i64 (ct : Int))).run Try.prog W = .ok (.slice (some ⟨W.heap.size, 0, none⟩) 0 ct) (W.alloc (.cells (madeCells #[.int .i64 0] ct) 3)) := fun W => by
          obtain ⟨i0, hi0, hz0, hz1, hz2⟩ := info_parts info_int
          have hcl := HM.out.2.2.1
          have := run_make (P := Try.prog) W 27 3 i0 (.int .i64 0) Try.underlying27 hi0 hz0 .i64 .i64 0 (ct : Int) (by omega) (by omega) (by rw [hz2]; omega) (by omega)
          rw [hz1] at this
          simpa [Value.cells] using this
        have hcl := HM.out.2.2.1
        have hbl := hL.row.lt
        have HE := Lib.hid (show ∀ a b, LdeRel w b5 n e x (.slice (some ⟨wo.heap.size, 0, none⟩) 0 ct) a b (.int .i64 ((0 : Nat) : Int)) (wo.alloc (.cells (madeCells #[.int .i64 0] ct) 3)) from fun _ _ => ⟨0, 0, _, ct, rfl, rfl, Nat.zero_le _, rfl, Nat.le_refl _, ⟨rfl, .inr ⟨wo.heap.size, ct, madeCells #[.int .i64 0] ct, rfl, hL.bel.size, heap_alloc_new wo _, Nat.zero_le _, by unfold maxLen; omega, by simp [madeCells, LN], by simp [Lay.flat, toZ]⟩⟩, hL.row.alloc _, fun h => by
          have : wo.heap.size = b5 := by injection h
          omega, bel_alloc hL.bel _⟩)
        have hct0 : ¬ (0 : Int) < ((([] : List Nat).length : Nat) : Int) := by simp
        clear hD hdn hL hall hgk hctn hbl hcl
        go_upto_region 19 with fail
        obtain ⟨W5, hW5⟩ : ∃ y, wo.alloc (.cells (madeCells #[.int .i64 0] ct) 3) = y := ⟨_, rfl⟩
        obtain ⟨A11, hA11⟩ : ∃ y, (some ⟨wo.heap.size, 0, none⟩ : Option Addr) = y := ⟨_, rfl⟩
        have hE := HE.out
        rw [hW5, hA11] at hE ⊢
        have HE2 := Lib.hid hE
        clear hE HE hW5 hA11 hmkc hct0
        go_wp2_with fail
        go_loopw [11, 12, 13, 73] (LdeRel w b5 n e x) (fun _ _ _ v _ => n - (intOf v).toNat)
        case atStart => simpa using HE2.out _ _
        case round =>
          rename World => wr
          obtain ⟨k, m, V, c', rfl, rfl, hk, hm, hmk, hown, hrow, hne, hbr⟩ := hrel
          clear HE2
          by_cases hlt : k < n
          · have q3 := hrow.cell hlt
            have hwk : IntKind.i64.wrap ((k : Int) + 1) = (k : Int) + 1 := wr64 (by omega) (by omega)
            have HX := Lib.hid (And.intro hm (And.intro hown (And.intro hbr (And.intro hrow hne))))
            clear hm hown hbr hrow hne
            have hsn := filter_snoc (lead e x) k
            obtain ⟨t, ht⟩ : ∃ t, lead e x k = t := ⟨_, rfl⟩
            rw [ht] at q3 hsn
            cases t with
            | false =>
              have HFI := Lib.hid (show ∀ a b, LdeRel w b5 n e x (.slice V m c') a b (.int .i64 ((k + 1 : Nat) : Int)) wr from fun _ _ => by
                rw [if_neg (by simp), List.append_nil] at hsn
                exact ⟨k + 1, m, V, c', rfl, rfl, by omega, by rw [hsn]; exact HX.out.1, by omega, by rw [hsn]; exact HX.out.2.1, HX.out.2.2.2.1, HX.out.2.2.2.2, HX.out.2.2.1⟩)
              clear hsn ht
              go_wp2_with fail
              go_roundw
              case rel => simpa using HFI.out _ _
              case measure =>
                simp [intOf]
                omega
            | true =>
              rw [if_pos rfl] at hsn
              have hbl : Below wr.heap.size wr (wr.alloc (.cells #[.int .i64 (k : Int)] 3)) := bel_alloc (Below.refl _ _) _
              have hlit : Rw LN (wr.alloc (.cells #[.int .i64 (k : Int)] 3)) (some ⟨wr.heap.size, 0, none⟩) 1 1 [(k : Int)] := Rw.lit (L := LN) wr (k : Int) 3
              obtain ⟨i0, hi, hz0, hz1, hz2⟩ := info_parts info_int
              have hsz := hbl.size
              have hs1 := HX.out.2.2.1.size
              obtain ⟨V1, c1x, u3, hrun, hown, hgrw, hloc⟩ := run_append_rw (L := LN) (ty := 27) (bytes := 8) Try.underlying27 hi hz0 hz1 hz2 rfl (ownsRow_below HX.out.2.1 hbl) hlit (by unfold maxLen; omega) (by omega) (by omega)
              have hb5l := HX.out.2.2.2.1.lt
              have HFI := Lib.hid (show ∀ a b, LdeRel w b5 n e x (.slice V1 (m + 1) c1x) a b (.int .i64 ((k + 1 : Nat) : Int)) u3 from fun _ _ => ⟨k + 1, m + 1, V1, c1x, rfl, rfl, by omega, by rw [hsn, List.length_append, HX.out.1]; rfl, by omega, by
                rw [hsn, toZ_append]
                exact hown, (HX.out.2.2.2.1.of_block (hbl.block b5 hb5l)).of_block (hgrw.block b5 (by omega) fun e => HX.out.2.2.2.2 e.symm), (by
                  rcases hloc with h1 | h1
                  · rw [h1]; exact HX.out.2.2.2.2
                  · rw [h1, size_alloc]
                    intro e
                    injection e with e
                    omega), (bel_trans HX.out.2.2.1 hbl).grown hgrw (by omega) fun j e => (HX.out.2.1.lt j e).1⟩)
              have HRUN := Lib.hid hrun
              clear hbl hlit hi hz0 hz1 hz2 hsz hs1 hrun hown hgrw hloc hsn ht hb5l
              go_wp2_with (at_builtin; refine wpList_append_row rfl (.tmp 79) (.tmp 81) rfl HRUN.out ?_)
              go_roundw
              case rel =>
                have hq := HFI.out (.int .i64 (k : Int)) (.bool true)
                simp
                exact ⟨_, _, _, _, hq, rfl, rfl, rfl, rfl⟩
              case measure =>
                simp [intOf]
                omega
          · have hkn : k = n := by omega
            have hkn' : ¬ ((k : Int) < (n : Int)) := by omega
            have hfin : NewInts w (leadsZ e x) (.returned (.slice V m c')) wr := by
              have e1 : (toZ ((List.range k).filter (lead e x))) = leadsZ e x := by rw [HM.out.2.2.2, hkn, ← HM.out.2.2.1]; rfl
              rw [e1] at hown
              have e2 : (leadsZ e x).length = m := by rw [← e1, toZ_length, hm]
              refine ⟨V, c', by rw [e2], ?_, hbr⟩
              rw [e2]
              exact hown
            have HFI := Lib.hid hfin
            clear hm hown hbr hfin hrow hne hkn
            go_wp2_with fail
            go_ret
            exact HFI.out
      · have hyl := hD.opl y (by simp)
        have hyn : y < n := by rw [← HM.out.2.2.1]; exact (lead_lt (hD.snd y hyl)).2
        have hD2 := hD.pick (hdn.imp id .inl)
        have hLo := hL.opn
        have hlen : (Q ++ [y]).length = Q.length + 1 := by simp
        obtain ⟨_, hcap, g7, o7, hA7, _, e7⟩ := hLo.last
        subst hA7
        have ht7 := hLo.take (m := Q.length) (by omega)
        rw [toZ_take] at ht7
        have hL2 := hL.put (op' := Q) (Turns.refl 3 wo col) ht7
        obtain ⟨m, hm⟩ : ∃ y, Q.length = y := ⟨_, rfl⟩
        have hmn : m + 1 ≤ ct := by have := hD.few; rw [hlen, hm] at this; exact this
        have hwm : IntKind.i64.wrap ((m : Int) + 1 - 1) = (m : Int) := by rw [show (m : Int) + 1 - 1 = (m : Int) by omega]; exact wr64 (by have := HM.out; omega) (by have := HM.out; omega)
        have hwm' : wrap64 (m : Int) = (m : Int) := by unfold wrap64; have := HM.out; omega
        have hcl := HM.out.2.2.1
        rw [hlen, hm] at hcap hgk ⊢
        rw [hm] at e7
        have hmc : m ≤ c7 := Nat.le_of_succ_le hcap
        obtain ⟨R, rn, rc, l, hgw, hl, o1, hr0⟩ := mat_at HM.out.1 hyn
        have hrn : rn ≤ 17592186044416 := by have := HM.out.2.1 l (List.mem_of_getElem? hl); have := hr0.len; omega
        have hlD : e.getD y [] = l := getD_at hl
        have o1w := (hL.bel.cell hgw).trans o1
        have HI := Lib.hid (show ∀ a, LdiRel w b5 n e x ko y rn rn (.int .i64 (ct : Int)) (.slice (some ⟨g7, o7, none⟩) m c7) a (.int .i64 ((0 : Nat) : Int)) wo from fun _ => ⟨led, Q, ct, 0, col, _, c7, rfl, Nat.sub_le _ _, Nat.zero_le _, hyl, rfl, by rw [hm], by rw [hm]; exact hgk, hD2, hL2⟩)
        have HR := Lib.hid (And.intro hr0 (And.intro hrn (And.intro hlD hgk)))
        clear hD hdn hL hD2 hLo hlen hcap ht7 hL2 hm hgk hgw hl o1 hr0 hrn hlD hyl hctn hmn hcl
        go_wp2_with fail
        clear hwm hwm' hmc e7 o1w
        go_loopg [6, 7, 10, 45] rn (LdiRel w b5 n e x ko y rn)
        case atStart => simpa using HI.out _
        case round =>
          rename World => wi
          obtain ⟨led, op, ct, q, col, A7, c7, rfl, hgk2, hqr, hyl, rfl, rfl, hko, hD, hL⟩ := hrel
          clear HI
          have hctn := hD.le
          by_cases hlt : q < rn
          · obtain ⟨g2, o2, z, hR, hg2, hz, e3⟩ := int_at HR.out.1 hlt
            subst hR
            have e3w := (hL.bel.cell (p := ⟨g2, o2 + q, none⟩) hg2).trans e3
            have hzq : (e.getD y [])[q]? = some z := by rw [HR.out.2.2.1]; exact hz
            have hwq : IntKind.i64.wrap ((q : Int) + 1) = (q : Int) + 1 := wr64 (by have := HR.out.2.1; omega) (by have := HR.out.2.1; omega)
            by_cases hzn : z < 0 ∨ (n : Int) ≤ z
            · have HT := Lib.hid (there_no (some ⟨ga, oa, none⟩) n c z wi hzn)
              have HF := Lib.hid (And.intro (show ∀ a, LdiRel w b5 n e x ko y rn (rn - (q + 1)) (.int .i64 (ct : Int)) (.slice A7 op.length c7) a (.int .i64 ((q + 1 : Nat) : Int)) wi from fun _ => ⟨led, op, ct, q + 1, col, A7, c7, rfl, Nat.le_refl _, hlt, hyl, rfl, rfl, hko, hD.next hzq fun j h2 h3 => by have := HM.out.2.2.1; omega, hL⟩) hgk2)
              clear hD hL hzq hzn hg2 hz e3 hgk2 hko hctn hyl
              go_wp2_with fail
              (with_reducible refine HT.out.mono ?_)
              rintro r u ⟨rfl, rfl⟩
              go_wp2_with fail
              go_roundg (rn - (q + 1))
              case measure => have := HF.out.2; omega
              case rel => simpa using HF.out.1 _
            · obtain ⟨j, rfl⟩ := Int.eq_ofNat_of_zero_le (show 0 ≤ z by omega)
              have hjn : j < n := by omega
              have HT := Lib.hid (there_yes (some ⟨ga, oa, none⟩) n c (j : Int) wi (by omega) (by omega))
              have q5 := hL.row.cell hjn
              obtain ⟨b, hb⟩ : ∃ b, led j = b := ⟨_, rfl⟩
              rw [hb] at q5
              cases b with
              | true =>
                have HF := Lib.hid (And.intro (show ∀ a, LdiRel w b5 n e x ko y rn (rn - (q + 1)) (.int .i64 (ct : Int)) (.slice A7 op.length c7) a (.int .i64 ((q + 1 : Nat) : Int)) wi from fun _ => ⟨led, op, ct, q + 1, col, A7, c7, rfl, Nat.le_refl _, hlt, hyl, rfl, rfl, hko, hD.next hzq fun j' h2 h3 => by
                  have : j = j' := by omega
                  subst this
                  exact hb, hL⟩) hgk2)
                clear hD hL hzq hzn hg2 hz e3 hgk2 hko hctn hyl hb
                go_wp2_with fail
                (with_reducible refine HT.out.mono ?_)
                rintro r u ⟨rfl, rfl⟩
                go_wp2_with fail
                go_roundg (rn - (q + 1))
                case measure => have := HF.out.2; omega
                case rel => simpa using HF.out.1 _
              | false =>
                have hjl : j < e.length := by rw [HM.out.2.2.1]; exact hjn
                have hDf := hD.found hzq hjl hyl hb
                have hctn2 := hDf.le
                have hL2 := hL.set j
                obtain ⟨W7, hW7⟩ : ∃ y, wi.setCell ⟨b5, j, none⟩ (.bool true) = y := ⟨_, rfl⟩
                rw [hW7] at hL2
                obtain ⟨V, c', u3, col3, hrun, ht3, hr3⟩ := push_run (t := 27) Try.underlying27 hL2.opn hL2.lo hL2.bel.size (by have := hD.few; have := HM.out.2.2.1; omega) 27 j
                have hL3 := hL2.put (op' := op ++ [j]) ht3 (by rw [List.length_append]; exact hr3)
                have f5 := hL.row.frozen j
                obtain ⟨m, hm⟩ : ∃ y, op.length = y := ⟨_, rfl⟩
                have hwc : IntKind.i64.wrap ((ct : Int) + 1) = (ct : Int) + 1 := wr64 (by have := HM.out.2.2.1; omega) (by have := HM.out.2.2.1; omega)
                have HF := Lib.hid (And.intro (show ∀ a, LdiRel w b5 n e x ko y rn (rn - (q + 1)) (.int .i64 ((ct + 1 : Nat) : Int)) (.slice V (m + 1) c') a (.int .i64 ((q + 1 : Nat) : Int)) u3 from fun _ => ⟨_, op ++ [j], ct + 1, q + 1, col3, V, c', rfl, Nat.le_refl _, hlt, by
                  by_cases e1 : y = j
                  · rw [e1, upd_same]
                  · rw [upd_other e1]; exact hyl, rfl, by rw [List.length_append, hm]; rfl, by
                  have := HM.out.2.2.1
                  rw [List.length_append, List.length_singleton]
                  omega, hDf, hL3⟩) hgk2)
                rw [hm] at hrun ⊢
                have HRUN := Lib.hid hrun
                have HW7 := Lib.hid hW7
                clear hD hL hzq hzn hg2 hz e3 hgk2 hko hctn hyl hb hDf hL2 hrun ht3 hr3 hL3 hm hctn2 hjl hW7
                go_wp2_with fail
                (with_reducible refine HT.out.mono ?_)
                rintro r u ⟨rfl, rfl⟩
                go_upto_region 16 with fail
                rw [HW7.out]
                go_wp2_with (at_builtin; refine wpList_append_row rfl (.tmp 64) (.tmp 66) rfl HRUN.out ?_)
                go_roundg (rn - (q + 1))
                case measure => have := HF.out.2; omega
                case rel => simpa using HF.out.1 _
          · have hqn : ¬ ((q : Int) < (rn : Int)) := by omega
            have HF := Lib.hid (show ∀ a b, LdoRel w b5 n e x (2 * (n - ct) + op.length) (.int .i64 (ct : Int)) (.slice A7 op.length c7) a b wi from fun _ _ => ⟨led, op, ct, y, q, col, A7, c7, rfl, rfl, Nat.le_refl _, hD, .inl (by rw [HR.out.2.2.1]; have := HR.out.1.len; omega), hL⟩)
            have HK := Lib.hid hko
            clear hD hL hgk2 hko hctn hyl
            go_wp2_with fail
            go_roundg (2 * (n - ct) + op.length)
            case measure => have := HK.out; omega
            case rel => simpa using HF.out _ _
end Go.Proofs.Ytpalmnjapiijaaa.Gr
