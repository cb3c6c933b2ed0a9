/-
  Texts of earlier layers, as one.
-/
import Derived.Test.YtlcggldcofncgaaRIds
import Derived.Shelf.SlSortCmp.QuietGrown
/- The document's add, Set, Join of ids. -/
namespace Go.Proofs.Ytlcggldcofncgaa
open Go.RowKit Mem Ids Go.Sort

/-- On the way through add: done or not, what is out. -/
def addOut (x : Int × Int) (l : List (Int × Int)) (done : Bool) : List (Int × Int) := if done = true then ins x l else l
def AddRel (l : List (Int × Int)) (x : Int × Int) (B : Nat) (w : World) (v5 v6 v7 : Value) (wr : World) : Prop :=
  ∃ (k : Nat) (V : Option Addr) (m c : Nat) (d : Bool), v5 = .slice V m c ∧ v6 = .bool d ∧ v7 = .int .i64 k ∧ k ≤ l.length ∧ (l.take k).any (lt x) = d ∧ (addOut x (l.take k) d).length = m ∧ m ≤ k + 1 ∧ wr.ownsRow B 26 2 (.slice V m c) m (cells (addOut x (l.take k) d)) ∧ Below w.heap.size w wr

theorem add_done {l : List (Int × Int)} {k : Nat} {x y : Int × Int} (hy : l[k]? = some y) (h : (l.take k).any (lt x) = true) : (l.take (k + 1)).any (lt x) = true ∧ addOut x (l.take (k + 1)) true = addOut x (l.take k) true ++ [y] := by
  rw [List.take_add_one, hy]
  refine ⟨by rw [List.any_append, h]; rfl, ?_⟩
  show ins x (l.take k ++ [y]) = ins x (l.take k) ++ [y]
  rw [ins_snoc, if_pos h]
theorem add_now {l : List (Int × Int)} {k : Nat} {x y : Int × Int} (hy : l[k]? = some y) (h : (l.take k).any (lt x) = false) (hl : lt x y = true) : (l.take (k + 1)).any (lt x) = true ∧ addOut x (l.take (k + 1)) true = addOut x (l.take k) false ++ [x] ++ [y] := by
  rw [List.take_add_one, hy]
  refine ⟨by rw [List.any_append, h]; simp [hl], ?_⟩
  show ins x (l.take k ++ [y]) = l.take k ++ [x] ++ [y]
  rw [ins_snoc, if_neg (by rw [h]; simp), if_pos hl]
  simp
theorem add_later {l : List (Int × Int)} {k : Nat} {x y : Int × Int} (hy : l[k]? = some y) (h : (l.take k).any (lt x) = false) (hl : lt x y = false) : (l.take (k + 1)).any (lt x) = false ∧ addOut x (l.take (k + 1)) false = addOut x (l.take k) false ++ [y] := by
  rw [List.take_add_one, hy]
  refine ⟨by rw [List.any_append, h]; simp [hl], ?_⟩
  rfl

set_option maxHeartbeats 4000000 in
theorem refadd_any (l : List (Int × Int)) (x : Int × Int) (A : Option Addr) (n c : Nat) (w : World) (ha : Rs w A n c l) (hn : n ≤ 1073741824) :
    Calls Try.prog 39 #[.slice A n c, .agg #[.int .i64 x.1, .int .i64 x.2]] w (Makes w (ins x l)) := by
  obtain ⟨i0, hi, hz0, hz1, hz2⟩ := info_parts infoId
  have hla := ha.len
  have HA := Lib.hid ha
  have hca := And.intro ha.le ha.cap
  unfold maxLen at hca
  clear ha
  go_enter Try.func39, Try.ntmps39
  go_wp2_with fail
  have HW := Lib.hid (bel_alloc (Below.refl w.heap.size w) (.cells #[.int .i64 x.1, .int .i64 x.2] 26))
  have HB0 := Lib.hid (Blk.new w 26 #[.int .i64 x.1, .int .i64 x.2])
  have hs0 := size_alloc w (.cells #[.int .i64 x.1, .int .i64 x.2] 26)
  have HA1 := Lib.hid (HA.out.alloc (.cells #[.int .i64 x.1, .int .i64 x.2] 26))
  generalize w.alloc (.cells #[.int .i64 x.1, .int .i64 x.2] 26) = w1 at HW HB0 hs0 HA1 ⊢
  go_loopw [5, 6, 7] (AddRel l x w1.heap.size w1) (fun _ _ v _ => n - (intOf v).toNat)
  case atStart => exact ⟨0, none, 0, 0, false, rfl, rfl, rfl, Nat.zero_le _, by simp, rfl, by omega, ⟨rfl, .inl ⟨rfl, rfl⟩⟩, Below.refl _ _⟩
  case round =>
    obtain ⟨k, V, m, cv, d, rfl, rfl, rfl, hk, hany, hm, hmk, hown, hbw⟩ := hrel
    have hsz := hbw.size
    by_cases hlt : k < n
    · obtain ⟨g, o, y, rfl, hg, hy, c1, c2⟩ := (HA1.out.below hbw).at_ hlt
      have hblk := HB0.out.bel hbw
      have HBW := Lib.hid hbw
      have HO := Lib.hid hown
      have HM := Lib.hid hm
      have HY := Lib.hid hy
      clear hbw hown hm
      cases d with
      | true =>
        have HS := Lib.hid (add_done hy hany)
        clear hy hany hblk
        obtain ⟨y1, y2⟩ := y
        simp only at c1 c2
        go_wp2_with fail
        go_quiet (fail)
        go_wp2_with (at_builtin; refine wpList_append_rs rfl _ _ 42 rfl w1.heap.size 26 i0 _ Try.underlying42 hi hz0 hz1 hz2 rfl V m cv _ rfl (World.ownsRow.alloc HO.out _) _ 1 1 [(y1, y2)] rfl (Rs.lit _ [(y1, y2)] _ _ 1 rfl rfl (by simp [maxLen])) (by omega) (by simp; omega) ?_; intro V3 c3 w3 hown3 _ hb3)
        have HO3 := Lib.hid hown3
        have HB3 := Lib.hid hb3
        clear hown3 hb3
        go_roundw
        case rel =>
          refine ⟨k + 1, V3, m + 1, c3, true, rfl, rfl, by simp, by omega, HS.out.1, ?_, by omega, ?_, ?_⟩
          · rw [HS.out.2, List.length_append, HM.out]; rfl
          · rw [HS.out.2]; exact HO3.out
          · exact ((below_drewN HBW.out _).alloc hsz _).trans HB3.out
        case measure =>
          simp [intOf]
          omega
      | false =>
        have hc1 := fun q os => cell_grown (w := wr) (a := ⟨g, o + k * 2, none⟩) hg c1 q os
        have hc2 := fun q os => cell_grown (w := wr) (a := ⟨g, o + k * 2 + 1, none⟩) hg c2 q os
        have hd0 := fun q os => cell_grown (w := wr) (a := ⟨w.heap.size, 0, none⟩) hblk.lt (hblk.cell 0) q os
        have hd1 := fun q os => cell_grown (w := wr) (a := ⟨w.heap.size, 1, none⟩) hblk.lt (hblk.cell 1) q os
        have hls := fun W => refless_grew x y W
        cases hxy : lt x y with
        | true =>
          have HS := Lib.hid (add_now hy hany hxy)
          rw [hxy] at hls
          have HL := Lib.hid hls
          clear hy hany hls hxy
          have HBK := Lib.hid hblk
          clear hblk
          obtain ⟨x1, x2⟩ := x
          obtain ⟨y1, y2⟩ := y
          simp only at c1 c2 hc1 hc2 hd0 hd1
          have hmix : Try.prog.follows .mixedOrders = true := by kernel_rfl
          go_wp2_with fail
          go_quiet_grown (exact Calls.grown_of (HL.out _))
          have hgw : Grew wr (grow (wr.drewN nq) osq) := ⟨nq, osq, rfl⟩
          have hbw2 : Below w1.heap.size w1 (grow (wr.drewN nq) osq) := HBW.out.trans (hgw.bel.mono hsz)
          have hown2 := ownsRow_below HO.out hgw.bel
          have e1 := hc1 nq osq
          have e2 := hc2 nq osq
          have e3 := hd0 nq osq
          have e4 := hd1 nq osq
          generalize grow (wr.drewN nq) osq = W at hbw2 hown2 e1 e2 e3 e4 ⊢
          have HB2 := Lib.hid hbw2
          have HO2 := Lib.hid hown2
          have hszW := hbw2.size
          clear hgw hbw2 hown2 hc1 hc2 hd0 hd1 c1 c2
          go_wp2_with (first
            | (at_builtin
               refine wpList_append_rs rfl _ _ 42 rfl w1.heap.size 26 i0 _ Try.underlying42 hi hz0 hz1 hz2 rfl V m cv _ rfl (World.ownsRow.alloc HO2.out _) _ 1 1 [(x1, x2)] rfl (Rs.lit _ [(x1, x2)] _ _ 1 rfl rfl (by simp [maxLen])) (by omega) (by simp; omega) ?_
               intro V3 c3 w3 hown3 _ hb3
               have hbw3 : Below w1.heap.size w1 w3 := (HB2.out.alloc hszW _).trans hb3
               have HB3 := Lib.hid hbw3
               have hsz3 := hbw3.size
               have HO3 := Lib.hid hown3
               obtain ⟨g', o', y', he', hg', hy', f1, f2⟩ := (HA1.out.below hbw3).at_ hlt
               injection he' with he'
               injection he' with he1 he2
               subst he1
               subst he2
               rw [HY.out] at hy'
               injection hy' with hy'
               subst hy'
               clear hbw3 hown3 hb3 hg' e1 e2 e3 e4 HO2
               simp only at f1 f2)
            | (at_builtin
               refine wpList_append_rs rfl _ _ 42 rfl w1.heap.size 26 i0 _ Try.underlying42 hi hz0 hz1 hz2 rfl V3 (m + 1) c3 _ rfl (World.ownsRow.alloc HO3.out _) _ 1 1 [(y1, y2)] rfl (Rs.lit _ [(y1, y2)] _ _ 1 rfl rfl (by simp [maxLen])) (by omega) (by simp; omega) ?_
               intro V4 c4 w4 hown4 _ hb4))
          have HO4 := Lib.hid hown4
          have HB4 := Lib.hid hb4
          clear hown4 hb4
          go_roundw
          case rel =>
            refine ⟨k + 1, V4, m + 1 + 1, c4, true, rfl, rfl, by simp, by omega, HS.out.1, ?_, ?_, ?_, ?_⟩
            · rw [HS.out.2, List.length_append, List.length_append, HM.out]; rfl
            · have : m = k := by
                rw [← HM.out]
                show (l.take k).length = k
                rw [List.length_take]
                omega
              omega
            · rw [HS.out.2]; exact HO4.out
            · exact (HB3.out.alloc hsz3 _).trans HB4.out
          case measure =>
            simp [intOf]
            omega
        | false =>
          have HS := Lib.hid (add_later hy hany hxy)
          rw [hxy] at hls
          have HL := Lib.hid hls
          clear hy hany hls hxy
          have HBK := Lib.hid hblk
          clear hblk
          obtain ⟨x1, x2⟩ := x
          obtain ⟨y1, y2⟩ := y
          simp only at c1 c2 hc1 hc2 hd0 hd1
          have hmix : Try.prog.follows .mixedOrders = true := by kernel_rfl
          go_wp2_with fail
          go_quiet_grown (exact Calls.grown_of (HL.out _))
          have hgw : Grew wr (grow (wr.drewN nq) osq) := ⟨nq, osq, rfl⟩
          have hbw2 : Below w1.heap.size w1 (grow (wr.drewN nq) osq) := HBW.out.trans (hgw.bel.mono hsz)
          have hown2 := ownsRow_below HO.out hgw.bel
          have e1 := hc1 nq osq
          have e2 := hc2 nq osq
          have e3 := hd0 nq osq
          have e4 := hd1 nq osq
          generalize grow (wr.drewN nq) osq = W at hbw2 hown2 e1 e2 e3 e4 ⊢
          have HB2 := Lib.hid hbw2
          have HO2 := Lib.hid hown2
          have hszW := hbw2.size
          clear hgw hbw2 hown2 hc1 hc2 hd0 hd1 c1 c2
          go_wp2_with (at_builtin; refine wpList_append_rs rfl _ _ 42 rfl w1.heap.size 26 i0 _ Try.underlying42 hi hz0 hz1 hz2 rfl V m cv _ rfl (World.ownsRow.alloc HO2.out _) _ 1 1 [(y1, y2)] rfl (Rs.lit _ [(y1, y2)] _ _ 1 rfl rfl (by simp [maxLen])) (by omega) (by simp; omega) ?_; intro V3 c3 w3 hown3 _ hb3)
          have HO3 := Lib.hid hown3
          have HB3 := Lib.hid hb3
          clear hown3 hb3
          go_roundw
          case rel =>
            refine ⟨k + 1, V3, m + 1, c3, false, rfl, rfl, by simp, by omega, HS.out.1, ?_, by omega, ?_, ?_⟩
            · rw [HS.out.2, List.length_append, HM.out]; rfl
            · rw [HS.out.2]; exact HO3.out
            · exact (HB2.out.alloc hszW _).trans HB3.out
          case measure =>
            simp [intOf]
            omega
    · have hkl : k = l.length := by omega
      rw [hkl, List.take_length] at hm hown hany
      have hblk := HB0.out.bel hbw
      have d0 : wr.cell? ⟨w.heap.size, 0, none⟩ = some (.int .i64 x.1) := hblk.cell 0
      have d1 : wr.cell? ⟨w.heap.size, 1, none⟩ = some (.int .i64 x.2) := hblk.cell 1
      have HBW := Lib.hid hbw
      have HO := Lib.hid hown
      have HM := Lib.hid hm
      have HN := Lib.hid hany
      clear hbw hown hm hany hblk
      cases d with
      | true =>
        go_wp2_with fail
        go_ret
        refine ⟨V, cv, ?_, ?_, bel_trans HW.out HBW.out⟩
        · show _ = Ending.returned (.slice V (addOut x l true).length cv)
          rw [HM.out]; rfl
        · show wr.ownsRow w.heap.size 26 2 (.slice V (addOut x l true).length cv) (addOut x l true).length (cells (addOut x l true))
          rw [HM.out]; exact own_base HO.out (by omega)
      | false =>
        obtain ⟨x1, x2⟩ := x
        simp only at d0 d1
        go_wp2_with (at_builtin; refine wpList_append_rs rfl _ _ 42 rfl w1.heap.size 26 i0 _ Try.underlying42 hi hz0 hz1 hz2 rfl V m cv _ rfl (World.ownsRow.alloc HO.out _) _ 1 1 [(x1, x2)] rfl (Rs.lit _ [(x1, x2)] _ _ 1 rfl rfl (by simp [maxLen])) (by omega) (by simp; omega) ?_; intro V3 c3 w3 hown3 _ hb3)
        have HO3 := Lib.hid hown3
        have HB3 := Lib.hid hb3
        clear hown3 hb3
        go_wp2_with fail
        go_ret
        have hins : ins (x1, x2) l = l ++ [(x1, x2)] := ins_end _ _ HN.out
        have hml : m = l.length := HM.out.symm
        refine ⟨V3, c3, ?_, ?_, bel_trans HW.out ((HBW.out.alloc hsz _).trans HB3.out)⟩
        · rw [hins, List.length_append, ← hml]; rfl
        · rw [hins, List.length_append, ← hml]; exact own_base HO3.out (by omega)

def SetRel (l : List (Int × Int)) (B : Nat) (w : World) (v3 v4 : Value) (wr : World) : Prop :=
  ∃ (k : Nat) (V : Option Addr) (m c : Nat) (r : List (Int × Int)), v3 = .slice V m c ∧ v4 = .int .i64 k ∧ k ≤ l.length ∧ r.length = m ∧ m ≤ k ∧ Up r ∧ (∀ z, z ∈ r ↔ z ∈ l.take k) ∧ wr.ownsRow B 26 2 (.slice V m c) m (cells r) ∧ Below w.heap.size w wr
theorem set_old {l r : List (Int × Int)} {k : Nat} {x : Int × Int} (hx : l[k]? = some x) (h : ∀ z, z ∈ r ↔ z ∈ l.take k) (hm : x ∈ r) : ∀ z, z ∈ r ↔ z ∈ l.take (k + 1) := by
  intro z
  rw [List.take_add_one, hx, List.mem_append, ← h z]
  constructor
  · exact .inl
  · rintro (hz | hz)
    · exact hz
    · simp at hz
      rw [hz]; exact hm
theorem set_new {l r : List (Int × Int)} {k : Nat} {x : Int × Int} (hx : l[k]? = some x) (h : ∀ z, z ∈ r ↔ z ∈ l.take k) : ∀ z, z ∈ ins x r ↔ z ∈ l.take (k + 1) := by
  intro z
  rw [List.take_add_one, hx, List.mem_append, ← h z, mem_ins]
  simp [or_comm]

set_option maxHeartbeats 4000000 in
theorem refset_any (l : List (Int × Int)) (A : Option Addr) (n c : Nat) (w : World) (ha : Rs w A n c l) (hn : n ≤ 1073741824) :
    Calls Try.prog 22 #[.slice A n c] w (Makes w (setl l)) := by
  have hla := ha.len
  have HA := Lib.hid ha
  have hca := And.intro ha.le ha.cap
  unfold maxLen at hca
  clear ha
  go_enter Try.func22, Try.ntmps22
  go_wp2_with fail
  go_loopw [3, 4] (SetRel l w.heap.size w) (fun _ v _ => n - (intOf v).toNat)
  case atStart => exact ⟨0, none, 0, 0, [], rfl, rfl, Nat.zero_le _, rfl, Nat.le_refl _, up_nil, by simp, ⟨rfl, .inl ⟨rfl, rfl⟩⟩, Below.refl _ _⟩
  case round =>
    obtain ⟨k, V, m, cv, r, rfl, rfl, hk, hrm, hmk, hup, hmem, hown, hbw⟩ := hrel
    have hsz := hbw.size
    by_cases hlt : k < n
    · obtain ⟨g, o, y, rfl, hg, hy, c1, c2⟩ := (HA.out.below hbw).at_ hlt
      have HY := Lib.hid hy
      have HBW := Lib.hid hbw
      have HO := Lib.hid hown
      have HU := Lib.hid hup
      have HM := Lib.hid hmem
      have HR := Lib.hid hrm
      clear hbw hown hup hmem hy hrm
      have hh := fun W (hb : Below wr.heap.size wr W) => refhas_any r y V m cv W ((Rs.own HO.out).below hb)
      cases hd : decide (y ∈ r) with
      | true =>
        rw [hd] at hh
        have hin : y ∈ r := of_decide_eq_true hd
        have HH := Lib.hid hh
        have HI := Lib.hid hin
        clear hd hh hin
        obtain ⟨y1, y2⟩ := y
        simp only at c1 c2
        go_wp2_with fail
        refine (HH.out _ (Below.refl _ _)).mono ?_
        rintro e w2 ⟨rfl, hb2⟩
        have HB2 := Lib.hid hb2
        clear hb2
        go_wp2_with fail
        go_roundw
        case rel => exact ⟨k + 1, V, m, cv, r, rfl, by simp, by omega, HR.out, by omega, HU.out, set_old HY.out HM.out HI.out, ownsRow_below HO.out HB2.out, bel_trans HBW.out HB2.out⟩
        case measure =>
          simp [intOf]
          omega
      | false =>
        rw [hd] at hh
        have hin : y ∉ r := of_decide_eq_false hd
        have HH := Lib.hid hh
        have HI := Lib.hid hin
        clear hd hh hin
        have HD := Lib.hid (fun W (hb : Below wr.heap.size wr W) => refadd_any r y V m cv W ((Rs.own HO.out).below hb) (by omega))
        obtain ⟨y1, y2⟩ := y
        simp only at c1 c2
        go_wp2_with fail
        refine (HH.out _ (Below.refl _ _)).mono ?_
        rintro e w2 ⟨rfl, hb2⟩
        have f1 := (hb2.cell (p := ⟨g, o + k * 2, none⟩) hg).trans c1
        have f2 := (hb2.cell (p := ⟨g, o + k * 2 + 1, none⟩) hg).trans c2
        have HB2 := Lib.hid hb2
        clear hb2
        go_wp2_with fail
        refine (HD.out _ HB2.out).mono ?_
        rintro e w3 ⟨V3, c3, rfl, hown3, hb3⟩
        have HO3 := Lib.hid hown3
        have HB3 := Lib.hid hb3
        have hs2 := HB2.out.size
        clear hown3 hb3
        go_wp2_with fail
        go_roundw
        case rel =>
          refine ⟨k + 1, V3, _, c3, _, rfl, by simp, by omega, rfl, ?_, up_ins _ _ HU.out HI.out, set_new HY.out HM.out, own_base HO3.out (by omega), bel_trans HBW.out (bel_trans HB2.out HB3.out)⟩
          rw [length_ins, HR.out]
          omega
        case measure =>
          simp [intOf]
          omega
    · have hkl : k = l.length := by omega
      rw [hkl, List.take_length] at hmem
      have hset := setl_eq hup hmem
      subst hset
      have HBW := Lib.hid hbw
      have HO := Lib.hid hown
      have HR := Lib.hid hrm
      clear hbw hown hrm hup hmem
      go_wp2_with fail
      go_ret
      refine ⟨V, cv, ?_, ?_, HBW.out⟩
      · rw [HR.out]; rfl
      · rw [HR.out]; exact HO.out

end Go.Proofs.Ytlcggldcofncgaa
