/-
  ids.Equal, ids.Has: whether two lists are the same; whether an id is in a set.
-/
import Derived.Test.YtccbkpdkmdnmfaaIdsRefEq
import Derived.Test.YtccbkpdkmdnmfaaShelf
import Derived.Shelf.SlSortCmp.QuietGrown
namespace Go.Proofs.Ytccbkpdkmdnmfaa
open Go.RowKit Mem Ids Go.Sort Go.Shelf

set_option maxHeartbeats 2000000 in
theorem seq_any (a b : List (Int × Int)) (A B : Option Addr) (n c m d : Nat) (w : World) (ha : Rs w A n c a) (hb : Rs w B m d b) :
    Calls Try.prog 53 #[.slice A n c, .slice B m d] w (Tells (decide (a = b)) w) := by
  obtain ⟨t, ht⟩ : ∃ t, decide (a = b) = t := ⟨_, rfl⟩
  rw [ht]
  have hla := ha.len
  have hlb := hb.len
  have HA := Lib.hid ha
  have HB := Lib.hid hb
  have hca := And.intro ha.le ha.cap
  have hcb := And.intro hb.le hb.cap
  unfold maxLen at hca hcb
  have HT := Lib.hid ht
  clear ht ha hb
  go_enter Try.func53, Try.ntmps53
  by_cases hnm : n = m
  · subst hnm
    go_wp2_with fail
    go_loopw [13] (EqRel a b w) (fun v _ => n - (intOf v).toNat)
    case atStart => exact ⟨0, rfl, Nat.zero_le _, by simp, Below.refl _ _⟩
    case round =>
      obtain ⟨k, rfl, hk, hiff, hbw⟩ := hrel
      by_cases hlt : k < n
      · obtain ⟨g, o, x, rfl, hg, hx, c1, c2⟩ := (HA.out.below hbw).at_ hlt
        obtain ⟨g', o', y, rfl, hg', hy, d1, d2⟩ := (HB.out.below hbw).at_ hlt
        have hneq := neq_id x y
        have HX := Lib.hid (And.intro hx hy)
        have HBW := Lib.hid hbw
        have HI := Lib.hid hiff
        clear hx hy hbw hiff
        by_cases hxy : x = y
        · rw [decide_eq_true hxy] at hneq
          have HE := Lib.hid hxy
          clear hxy
          obtain ⟨x1, x2⟩ := x
          obtain ⟨y1, y2⟩ := y
          simp only at hneq c1 c2 d1 d2
          go_wp2_with fail
          go_quiet (fail)
          go_wp2_with fail
          go_roundw
          case rel =>
            refine ⟨k + 1, by simp, by omega, HI.out.trans ?_, below_drewN HBW.out _⟩
            have e := HE.out
            have h1 := HX.out.1
            have h2 := HX.out.2
            rw [← e] at h2
            refine ⟨fun h => ?_, take_eq_drop h1 h2⟩
            have := congrArg (List.drop 1) h
            simpa [List.drop_drop, Nat.add_comm] using this
          case measure =>
            simp [intOf]
            omega
        · rw [decide_eq_false hxy] at hneq
          have HE := Lib.hid hxy
          clear hxy
          obtain ⟨x1, x2⟩ := x
          obtain ⟨y1, y2⟩ := y
          simp only at hneq c1 c2 d1 d2
          go_wp2_with fail
          go_quiet (fail)
          go_wp2_with fail
          go_ret
          have htf : t = false := by
            rw [← HT.out]
            refine decide_eq_false fun e => ?_
            have h1 := HX.out.1
            have h2 := HX.out.2
            rw [e, h2] at h1
            injection h1 with h1
            exact HE.out h1.symm
          exact ⟨by rw [htf]; rfl, below_drewN HBW.out _⟩
      · have HBW := Lib.hid hbw
        have HI := Lib.hid hiff
        clear hbw hiff
        go_wp2_with fail
        go_ret
        have htt : t = true := by
          rw [← HT.out]
          refine decide_eq_true (HI.out.2 ?_)
          rw [List.drop_eq_nil_of_le (by omega), List.drop_eq_nil_of_le (by omega)]
        exact ⟨by rw [htt]; rfl, HBW.out⟩
  · go_wp2_with fail
    go_ret
    have htf : t = false := by
      rw [← HT.out]
      refine decide_eq_false fun e => ?_
      rw [e] at hla
      omega
    exact ⟨by rw [htf]; rfl, Below.refl _ _⟩

theorem equal_any (a b : List (Int × Int)) (A B : Option Addr) (n c m d : Nat) (w : World) (ha : Rs w A n c a) (hb : Rs w B m d b) :
    Calls Try.prog 31 #[.slice A n c, .slice B m d] w (Tells (decide (a = b)) w) := by
  have HS := Lib.hid (seq_any a b A B n c m d w ha hb)
  clear ha hb
  go_enter Try.func31, Try.ntmps31
  go_wp2_with fail
  refine HS.out.mono ?_
  rintro e w' ⟨rfl, hb⟩
  have HB := Lib.hid hb
  clear hb
  go_wp2_with fail
  go_ret
  exact ⟨rfl, HB.out⟩

/-- The question that sort.Search asks: is the id at this place not ahead? -/
theorem asks_grew (l : List (Int × Int)) (i : Int × Int) (A : Option Addr) (n c b : Nat) (k : Nat) (hk : k < n) (w : World) (hA : w.cell? ⟨b, 0, none⟩ = some (.slice A n c)) (hi0 : w.cell? ⟨b + 1, 0, none⟩ = some (.int .i64 i.1)) (hi1 : w.cell? ⟨b + 1, 1, none⟩ = some (.int .i64 i.2)) (hb : b + 1 < w.heap.size) (hr : Rs w A n c l) (x : Int × Int) (hx : l[k]? = some x) :
    Calls Try.prog 46 #[.int .i64 (k : Int), .pointer (some ⟨b, 0, none⟩), .pointer (some ⟨b + 1, 0, none⟩)] w fun e w' => e = .returned (.bool (!lt x i)) ∧ Grew w w' := by
  obtain ⟨g, o, x', rfl, hg, hx', c1, c2⟩ := hr.at_ hk
  rw [hx] at hx'
  injection hx' with hx'
  subst hx'
  have hca := And.intro hr.le hr.cap
  unfold maxLen at hca
  have a0 := fun q os => cell_grown (w := w) (a := ⟨b, 0, none⟩) (show b < w.heap.size by omega) hA q os
  have a1 := fun q os => cell_grown (w := w) (a := ⟨b + 1, 0, none⟩) hb hi0 q os
  have a2 := fun q os => cell_grown (w := w) (a := ⟨b + 1, 1, none⟩) hb hi1 q os
  have a3 := fun q os => cell_grown (w := w) (a := ⟨g, o + k * 2, none⟩) hg c1 q os
  have a4 := fun q os => cell_grown (w := w) (a := ⟨g, o + k * 2 + 1, none⟩) hg c2 q os
  have HL := Lib.hid (fun W => less_grew x i W)
  generalize lt x i = t at HL ⊢
  obtain ⟨x1, x2⟩ := x
  obtain ⟨i1, i2⟩ := i
  simp only at a1 a2 a3 a4
  clear hr hx hA hi0 hi1 c1 c2
  go_enter Try.func46, Try.ntmps46
  go_wp2_with fail
  refine wp_region_quiet_grown (by kernel_rfl) (by kernel_rfl) ?_
  repeat (first | ((with_reducible refine wpQuiet_skip ?_ ?_); (focus rfl); simp only [Act.put, List.setIfInBounds_toArray, List.set_cons_zero, List.set_cons_succ]) | ((with_reducible refine wpQuiet_step (fun K hK => ?_)); go_simp; first | ((with_reducible refine hK _ ?_); clear hK K) | (apply Exists.intro; refine ⟨fun _ => ?_, hK _ ?_⟩; exact Calls.grown_of (HL.out _); clear hK K)))
  with_reducible refine wpQuiet_nil ?_
  intro _ hw'
  obtain ⟨⟨nq, osq⟩, hw''⟩ := hw'
  subst hw''
  go_wp2_with fail
  go_ret
  exact ⟨rfl, nq, osq, rfl⟩

/-- What is answered at each place. -/
def ask (l : List (Int × Int)) (i : Int × Int) (k : Nat) : Bool := match l[k]? with
  | some x => !lt x i
  | none => true
theorem ask_at {l : List (Int × Int)} {i : Int × Int} {k : Nat} {x : Int × Int} (h : l[k]? = some x) : ask l i k = !lt x i := by
  unfold ask
  rw [h]
theorem count_ask (i : Int × Int) : ∀ l : List (Int × Int), (List.range l.length).countP (fun k => !ask l i k) = l.countP (fun x => lt x i)
  | [] => rfl
  | a :: l => by
    have ih := count_ask i l
    rw [List.length_cons, List.range_succ_eq_map, List.countP_cons, List.countP_map, List.countP_cons, ← ih]
    congr 1
    rw [ask_at (show (a :: l)[0]? = some a from rfl), Bool.not_not]
theorem ask_mono {l : List (Int × Int)} (h : Up l) (i : Int × Int) (a b : Nat) (hab : a ≤ b) (hb : b < l.length) (hp : ask l i a = true) : ask l i b = true := by
  have ha' : l[a]? = some l[a] := List.getElem?_eq_getElem (by omega)
  have hb' : l[b]? = some l[b] := List.getElem?_eq_getElem hb
  rw [ask_at ha'] at hp
  rw [ask_at hb', count_mono h i a b hab _ _ ha' hb' (by simpa using hp)]
  rfl

set_option maxHeartbeats 2000000 in
theorem has_any (l : List (Int × Int)) (i : Int × Int) (A : Option Addr) (n c : Nat) (w : World) (ha : Rs w A n c l) (hup : Up l) (hn : n ≤ 1073741824) :
    Calls Try.prog 24 #[.slice A n c, .agg #[.int .i64 i.1, .int .i64 i.2]] w (Tells (decide (i ∈ l)) w) := by
  obtain ⟨t, ht⟩ : ∃ t, decide (i ∈ l) = t := ⟨_, rfl⟩
  rw [ht]
  have hla := ha.len
  have hca := And.intro ha.le ha.cap
  unfold maxLen at hca
  obtain ⟨W0, hW0⟩ : ∃ W0, W0 = (w.alloc (.cells #[.slice A n c] 22)).alloc (.cells #[.int .i64 i.1, .int .i64 i.2] 48) := ⟨_, rfl⟩
  have hsize : W0.heap.size = w.heap.size + 1 + 1 := by rw [hW0]; simp
  have hbl : Below w.heap.size w W0 := by rw [hW0]; exact bel_alloc (bel_alloc (Below.refl _ _) _) _
  have k1 : Blk W0 w.heap.size 22 #[.slice A n c] := by rw [hW0]; exact (Blk.new w _ _).alloc _
  have k2 : Blk W0 (w.heap.size + 1) 48 #[.int .i64 i.1, .int .i64 i.2] := by
    have := Blk.new (w.alloc (.cells #[.slice A n c] 22)) 48 #[.int .i64 i.1, .int .i64 i.2]
    rw [size_alloc] at this
    rw [hW0]
    exact this
  have hrs := ha.below hbl
  have hsr := Any.sort_Search Try.searchAny 46 #[.pointer (some ⟨w.heap.size, 0, none⟩), .pointer (some ⟨w.heap.size + 1, 0, none⟩)] n (ask l i) W0 (enters_of Try.func46 (by kernel_rfl) rfl) (by omega)
    (fun m os k hk => by
      have hgw : Grew W0 (grow (W0.drewN m) os) := ⟨m, os, rfl⟩
      obtain ⟨x, hx⟩ : ∃ x, l[k]? = some x := ⟨_, List.getElem?_eq_getElem (by omega)⟩
      rw [ask_at hx]
      exact asks_grew l i A n c w.heap.size k hk _ ((k1.bel hgw.bel).cell 0) ((k2.bel hgw.bel).cell 0) ((k2.bel hgw.bel).cell 1) (by have := hgw.bel.size; omega) (hrs.below hgw.bel) x hx)
    (fun a b hab hb hp => ask_mono hup i a b hab (by omega) hp)
  change Calls Try.prog 45 _ _ _ at hsr
  rw [← hla, count_ask i l, hla] at hsr
  obtain ⟨K, hK⟩ : ∃ K, l.countP (fun x => lt x i) = K := ⟨_, rfl⟩
  rw [hK] at hsr
  have hat := count_at hup i K hK
  have hKn : K ≤ n := by rw [← hK, ← hla]; exact List.countP_le_length
  have HS := Lib.hid hsr
  have HAT := Lib.hid hat
  have HT := Lib.hid ht
  have HK1 := Lib.hid k1
  have HK2 := Lib.hid k2
  have HR := Lib.hid hrs
  have HBL := Lib.hid hbl
  clear ha hup hsr hat ht k1 k2 hrs hK hbl
  go_enter Try.func24, Try.ntmps24
  go_wp2_with fail
  rw [← hW0]
  refine HS.out.mono ?_
  rintro e w2 ⟨rfl, q2, os2, hw2⟩
  have hgw : Grew W0 w2 := ⟨q2, os2, hw2⟩
  clear hw2 hW0
  have b0 := (HK1.out.bel hgw.bel).cell 0
  have b1 := (HK2.out.bel hgw.bel).cell 0
  have b2 := (HK2.out.bel hgw.bel).cell 1
  have hr2 := HR.out.below hgw.bel
  have HB2 := Lib.hid (HBL.out.trans (hgw.bel.mono (by omega)))
  clear hgw
  simp at b0 b1 b2
  by_cases hlt : K < n
  · obtain ⟨g, o, x, rfl, hg, hx, c1, c2⟩ := hr2.at_ hlt
    have heq := eql_id x i
    have HX := Lib.hid hx
    clear hx hr2
    by_cases hxi : x = i
    · rw [decide_eq_true hxi] at heq
      have HE := Lib.hid hxi
      clear hxi
      obtain ⟨x1, x2⟩ := x
      obtain ⟨i1, i2⟩ := i
      simp only at heq c1 c2 b1 b2
      go_wp2_with fail
      go_quiet (fail)
      go_wp2_with fail
      go_ret
      have htt : t = true := by
        rw [← HT.out]
        exact decide_eq_true (HAT.out.2 (by rw [HX.out, HE.out]))
      exact ⟨by rw [htt]; rfl, below_drewN HB2.out _⟩
    · rw [decide_eq_false hxi] at heq
      have HE := Lib.hid hxi
      clear hxi
      obtain ⟨x1, x2⟩ := x
      obtain ⟨i1, i2⟩ := i
      simp only at heq c1 c2 b1 b2
      go_wp2_with fail
      go_quiet (fail)
      go_wp2_with fail
      go_ret
      have htf : t = false := by
        rw [← HT.out]
        refine decide_eq_false fun h => HE.out ?_
        have := HAT.out.1 h
        rw [HX.out] at this
        injection this
      exact ⟨by rw [htf]; rfl, below_drewN HB2.out _⟩
  · clear hr2
    go_wp2_with fail
    go_quiet (fail)
    go_wp2_with fail
    go_ret
    have htf : t = false := by
      rw [← HT.out]
      refine decide_eq_false fun h => ?_
      have := HAT.out.1 h
      rw [List.getElem?_eq_none (by omega)] at this
      cases this
    exact ⟨by rw [htf]; rfl, below_drewN HB2.out _⟩
end Go.Proofs.Ytccbkpdkmdnmfaa
