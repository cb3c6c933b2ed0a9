/-
  The walk of the statement IdsSets.
-/
import Derived.Test.YtmbmgmelnejceaaDoorIdsAwake
import Derived.Test.YtmbmgmelnejceaaDoorIdsHas
import Derived.Test.YtmbmgmelnejceaaDoorIdsJoin
import Derived.Test.YtmbmgmelnejceaaDoorIdsDel
import Derived.Test.YtmbmgmelnejceaaDoorIdsRefJoin
import Derived.Deep.RegionHeld3
import Derived.Deep.Cut
namespace Go.Proofs.YtmbmgmelnejceaaDoor
open Go.RowKit Mem Ids Go.Sort

theorem Makes.n {w : World} {n : Nat} {l : List (Int × Int)} (hn : l.length = n) {e : Ending} {w' : World} (h : Makes w l e w') : ∃ A c, e = .returned (.slice A n c) ∧ Rs w' A n c l ∧ Below w.heap.size w w' := by
  subst hn
  exact h.gets
theorem Gets.n' {w : World} {n : Nat} {l : List (Int × Int)} (hn : l.length = n) {e : Ending} {w' : World} (h : Gets w l e w') : ∃ A c, e = .returned (.slice A n c) ∧ Rs w' A n c l ∧ Below w.heap.size w w' := by
  subst hn
  exact h
theorem joinl_sets (a b : List (Int × Int)) : joinl (setl a) (setl b) = joinl a b := up_unique _ _ (up_joinl _ _) (up_joinl _ _) fun x => by rw [mem_joinl, mem_joinl, mem_setl, mem_setl]
theorem has_set (l : List (Int × Int)) (i : Int × Int) : decide (i ∈ setl l) = decide (i ∈ l) := decide_eq_decide.2 (mem_setl l i)

set_option maxRecDepth 100000 in
set_option maxHeartbeats 16000000 in
theorem idssets_true (la lb : List (Int × Int)) (i k : Int × Int) (A B : Option Addr) (n ca m cb : Nat) (w : World) (ha : Rs w A n ca la) (hb : Rs w B m cb lb) (hi : (-9223372036854775808 ≤ i.1 ∧ i.1 ≤ 9223372036854775807) ∧ -9223372036854775808 ≤ i.2 ∧ i.2 ≤ 9223372036854775807) (hT : Tab w) :
    Calls Tryd.prog 3 #[.slice A n ca, .slice B m cb, .agg #[.int .i64 i.1, .int .i64 i.2], .agg #[.int .i64 k.1, .int .i64 k.2]] w (Tells true w) := by
  obtain ⟨i0, hi0, hz0, hz1, hz2⟩ := info_parts infoId
  have hla := ha.len
  have hlb := hb.len
  have hcA := And.intro ha.le ha.cap
  have hcB := And.intro hb.le hb.cap
  unfold maxLen at hcA hcB
  obtain ⟨W, hW⟩ : ∃ W, W = (w.alloc (.cells #[.int .i64 i.1, .int .i64 i.2] 24)).alloc (.cells #[.int .i64 k.1, .int .i64 k.2] 24) := ⟨_, rfl⟩
  have hbw : Below w.heap.size w W := by rw [hW]; exact bel_alloc (bel_alloc (Below.refl _ _) _) _
  have ki : Blk W w.heap.size 24 #[.int .i64 i.1, .int .i64 i.2] := by rw [hW]; exact (Blk.new _ _ _).alloc _
  have kk : Blk W (w.heap.size + 1) 24 #[.int .i64 k.1, .int .i64 k.2] := by
    have := Blk.new (w.alloc (.cells #[.int .i64 i.1, .int .i64 i.2] 24)) 24 #[.int .i64 k.1, .int .i64 k.2]
    rw [size_alloc] at this
    rw [hW]; exact this
  have HRA := Lib.hid (ha.below hbw)
  have HRB := Lib.hid (hb.below hbw)
  have hT1 := hT.below hbw
  have HB := Lib.hid hbw
  have HKI := Lib.hid ki
  have HKK := Lib.hid kk
  have HTB := Lib.hid hT1
  have hA : ∀ W', Below W.heap.size W W' → Calls Tryd.prog 7 #[] W' (Tells true W') := fun W' h => awake_any W' (hT1.below h)
  have HA := Lib.hid hA
  have c0 : W.cell? ⟨w.heap.size, 0, none⟩ = some (.int .i64 i.1) := ki.cell 0
  have c1 : W.cell? ⟨w.heap.size, 1, none⟩ = some (.int .i64 i.2) := ki.cell 1
  rw [hW] at c0 c1
  clear ha hb hT hT1 hbw hA ki kk
  go_enter Tryd.func3, Tryd.ntmps3
  by_cases h60 : 60 < n
  · go_wp2_with fail
    rw [← hW]
    refine (HA.out W (Below.refl _ _)).mono ?_
    rintro e w1 ⟨rfl, hb1⟩
    have HB1 := Lib.hid hb1
    clear hb1
    go_wp2_with fail
    go_ret
    exact ⟨rfl, bel_trans HB.out HB1.out⟩
  · by_cases h61 : 60 < m
    · go_wp2_with fail
      rw [← hW]
      refine (HA.out W (Below.refl _ _)).mono ?_
      rintro e w1 ⟨rfl, hb1⟩
      have HB1 := Lib.hid hb1
      clear hb1
      go_wp2_with fail
      go_ret
      exact ⟨rfl, bel_trans HB.out HB1.out⟩
    · by_cases hlow : min i.1 i.2 < -4611686018427387904
      · go_wp2_with fail
        rw [← hW]
        refine (HA.out W (Below.refl _ _)).mono ?_
        rintro e w1 ⟨rfl, hb1⟩
        have HB1 := Lib.hid hb1
        clear hb1
        go_wp2_with fail
        go_ret
        exact ⟨rfl, bel_trans HB.out HB1.out⟩
      · skip
        have hd1 : decide ((60 : Int) < (n : Int)) = false := by rw [decide_eq_false]; omega
        have hd2 : decide ((60 : Int) < (m : Int)) = false := by rw [decide_eq_false]; omega
        go_upto_region 3 with fail
        rw [← hW]
        clear c0 c1 hW
        have HE := Lib.hid (World.ownsRow_made (base := W.heap.size) (e := 24) (size := 2) W #[] 0 (Nat.le_refl _) (Nat.zero_le _) (by simp))
        go_wp2_with (at_builtin; refine wpList_append_rs rfl _ _ 22 rfl W.heap.size 24 i0 _ Tryd.underlying22 hi0 hz0 hz1 hz2 rfl _ 0 0 [] rfl HE.out A n ca la rfl (HRA.out.alloc _) (by omega) (by simp) ?_; intro Vi ci w1 hown1 _ hb1; rw [Nat.zero_add] at hown1; clear HE; have hin := Rs.own hown1; rw [List.nil_append] at hin; have HIN1 := Lib.hid hin; have HB1 := Lib.hid ((bel_alloc (Below.refl W.heap.size W) _).trans hb1); clear hown1 hb1 hin)
        have HS1 := Lib.hid (set_any la Vi n ci w1 HIN1.out (by omega))
        refine HS1.out.mono ?_
        rintro e w2 ⟨V2, c2, rfl, hr2, hb2⟩
        have hlx := length_setl la
        have HUX := Lib.hid (up_setl la)
        have HHX := Lib.hid (has_set la i)
        have HJS := Lib.hid (joinl_sets la lb)
        have HD1 := Lib.hid (fun A n c w h hn => refset_any la A n c w h hn)
        generalize setl la = lx at hr2 hlx HUX HHX HJS HD1 ⊢
        obtain ⟨nx, hnx⟩ : ∃ nx, lx.length = nx := ⟨_, rfl⟩
        rw [hnx] at hr2 hlx ⊢
        have HS2 := Lib.hid (set_any lb B m cb w2 (HRB.out.below (bel_trans HB1.out hb2)) (by omega))
        have hly := length_setl lb
        have HUY := Lib.hid (up_setl lb)
        generalize setl lb = ly at HS2 hly HUY HJS ⊢
        obtain ⟨ny, hny⟩ : ∃ ny, ly.length = ny := ⟨_, rfl⟩
        rw [hny] at hly
        have HR2 := Lib.hid hr2
        have HB2 := Lib.hid hb2
        clear hr2 hb2
        go_wp2_with fail
        refine HS2.out.mono ?_
        rintro e w3 ⟨V3, c3, rfl, hr3, hb3⟩
        rw [hny] at hr3 ⊢
        have hbW3 := bel_trans HB1.out (bel_trans HB2.out hb3)
        have HBW3 := Lib.hid hbW3
        have HIN := Lib.hid ((HIN1.out.below HB2.out).below hb3)
        have HX := Lib.hid (HR2.out.below hb3)
        have HY := Lib.hid hr3
        have HAA := Lib.hid (HRA.out.below hbW3)
        have HBB := Lib.hid (HRB.out.below hbW3)
        have HTW := Lib.hid (HTB.out.below hbW3)
        have ki := HKI.out.bel hbW3
        have kk := HKK.out.bel hbW3
        have hlti := ki.lt
        have hltk := kk.lt
        have c0 : w3.cell? ⟨w.heap.size, 0, none⟩ = some (.int .i64 i.1) := ki.cell 0
        have c1 : w3.cell? ⟨w.heap.size, 1, none⟩ = some (.int .i64 i.2) := ki.cell 1
        have c2' : w3.cell? ⟨w.heap.size + 1, 0, none⟩ = some (.int .i64 k.1) := kk.cell 0
        have c3' : w3.cell? ⟨w.heap.size + 1, 1, none⟩ = some (.int .i64 k.2) := kk.cell 1
        have HNX := Lib.hid hnx
        obtain ⟨bc, hchk⟩ : ∃ b, chk la = b := ⟨_, rfl⟩
        obtain ⟨br, hrgt⟩ : ∃ b, right i = b := ⟨_, rfl⟩
        obtain ⟨bl, hlss⟩ : ∃ b, lt i k = b := ⟨_, rfl⟩
        obtain ⟨st, htxt⟩ : ∃ s, idText i = s := ⟨_, rfl⟩
        have D1 := Lib.hid (fun W' (h : Below w3.heap.size w3 W') => (HD1.out A n ca W' (HAA.out.below h) (by omega)).mono fun _ _ h => Makes.n hnx h)
        have HCUR := Lib.hid (Below.drew (Below.refl w3.heap.size w3))
        clear hr3 hb3 hbW3 ki kk
        go_wp2_with fail
        go_region_held3 (fun w' => w'.cell? ⟨w.heap.size, 0, none⟩ = some (.int .i64 i.1) ∧ w'.cell? ⟨w.heap.size, 1, none⟩ = some (.int .i64 i.2) ∧ w'.cell? ⟨w.heap.size + 1, 0, none⟩ = some (.int .i64 k.1) ∧ w'.cell? ⟨w.heap.size + 1, 1, none⟩ = some (.int .i64 k.2)) (first | exact ⟨(HCUR.out.cell (p := ⟨w.heap.size, 0, none⟩) hlti).trans c0, (HCUR.out.cell (p := ⟨w.heap.size, 1, none⟩) hlti).trans c1, (HCUR.out.cell (p := ⟨w.heap.size + 1, 0, none⟩) hltk).trans c2', (HCUR.out.cell (p := ⟨w.heap.size + 1, 1, none⟩) hltk).trans c3'⟩)
          (first
            | (go_at_call 10
               refine (D1.out _ HCUR.out).mono ?_
               rintro e v1 ⟨U1, e1, rfl, hr1, hb1⟩
               have hnow := HCUR.out.trans (hb1.mono HCUR.out.size)
               have D2' := Lib.hid (refequal_any lx lx V2 U1 nx c2 nx e1 v1 (HX.out.below hnow) hr1)
               rw [decide_eq_true rfl] at D2'
               replace HCUR := Lib.hid hnow
               clear D1 hr1 hb1 hnow)
            | (go_at_call 9
               refine D2'.out.mono ?_
               rintro e v2 ⟨rfl, hb1⟩
               have hnow := HCUR.out.trans (hb1.mono HCUR.out.size)
               have D3' := Lib.hid (refequal_any la la Vi A n ci n ca v2 (HIN.out.below hnow) (HAA.out.below hnow))
               rw [decide_eq_true rfl] at D3'
               replace HCUR := Lib.hid hnow
               clear D2' hb1 hnow)
            | (go_at_call 9
               refine D3'.out.mono ?_
               rintro e v3 ⟨rfl, hb1⟩
               have hnow := HCUR.out.trans (hb1.mono HCUR.out.size)
               have D4' := Lib.hid (check_any la A n ca v3 (HAA.out.below hnow))
               rw [hchk] at D4'
               replace HCUR := Lib.hid hnow
               clear D3' hb1 hnow)
            | (go_at_call 11
               refine D4'.out.mono ?_
               rintro e v4 ⟨rfl, hb1⟩
               have hnow := HCUR.out.trans (hb1.mono HCUR.out.size)
               have D5' := Lib.hid (refcheck_any la A n ca v4 (HAA.out.below hnow))
               rw [hchk] at D5'
               replace HCUR := Lib.hid hnow
               clear D4' hb1 hnow)
            | (go_at_call 12
               refine D5'.out.mono ?_
               rintro e v5 ⟨rfl, hb1⟩
               have hnow := HCUR.out.trans (hb1.mono HCUR.out.size)
               have D6' := Lib.hid (right_any i v5)
               rw [hrgt] at D6'
               replace HCUR := Lib.hid hnow
               clear D5' hb1 hnow)
            | (go_at_call 13
               refine D6'.out.mono ?_
               rintro e v6 ⟨rfl, hb1⟩
               have hnow := HCUR.out.trans (hb1.mono HCUR.out.size)
               have D7' := Lib.hid (refright_any i v6)
               rw [hrgt] at D7'
               replace HCUR := Lib.hid hnow
               clear D6' hb1 hnow)
            | (go_at_call 14
               refine D7'.out.mono ?_
               rintro e v7 ⟨rfl, hb1⟩
               have hnow := HCUR.out.trans (hb1.mono HCUR.out.size)
               have D8' := Lib.hid (less_any i k v7)
               rw [hlss] at D8'
               replace HCUR := Lib.hid hnow
               clear D7' hb1 hnow)
            | (go_at_call 15
               refine D8'.out.mono ?_
               rintro e v8 ⟨rfl, hb1⟩
               have hnow := HCUR.out.trans (hb1.mono HCUR.out.size)
               have D9' := Lib.hid (refless_any i k v8)
               rw [hlss] at D9'
               replace HCUR := Lib.hid hnow
               clear D8' hb1 hnow)
            | (go_at_call 16
               refine D9'.out.mono ?_
               rintro e v9 ⟨rfl, hb1⟩
               have hnow := HCUR.out.trans (hb1.mono HCUR.out.size)
               have D10' := Lib.hid ((text_any i hi.1 hi.2 v9 (HTW.out.below hnow)).mono fun _ _ h => And.intro h.1 h.2.bel)
               rw [htxt] at D10'
               replace HCUR := Lib.hid hnow
               clear D9' hb1 hnow)
            | (go_at_call 17
               refine D10'.out.mono ?_
               rintro e v10 ⟨rfl, hb1⟩
               have hnow := HCUR.out.trans (hb1.mono HCUR.out.size)
               have D11' := Lib.hid (reftext_any i (by omega) (by omega) v10)
               rw [htxt] at D11'
               replace HCUR := Lib.hid hnow
               clear D10' hb1 hnow)
            | (go_at_call 18
               refine D11'.out.mono ?_
               rintro e v11 ⟨rfl, hb1⟩
               have hnow := HCUR.out.trans (hb1.mono HCUR.out.size)
               replace HCUR := Lib.hid hnow
               clear D11' hb1 hnow))
        have HB4 := Lib.hid (bel_trans HBW3.out HCUR.out)
        have HX4 := Lib.hid (HX.out.below HCUR.out)
        have HJ0 := Lib.hid (join_any lx ly V2 V3 nx c2 ny c3 v11 HX4.out (HY.out.below HCUR.out) HUX.out HUY.out (by omega) (by omega))
        rw [HJS.out] at HJ0
        clear HCUR c0 c1 c2' c3' hlti hltk HIN HX HY HAA HBB HTW
        go_wp2_with fail
        refine HJ0.out.mono ?_
        rintro e w5 ⟨V4, c4, rfl, hr4, hb4⟩
        have hb5 := bel_trans HB4.out hb4
        have HB5 := Lib.hid hb5
        have HX := Lib.hid (HX4.out.below hb4)
        have HAA := Lib.hid (HRA.out.below hb5)
        have HBB := Lib.hid (HRB.out.below hb5)
        have HJD := Lib.hid (fun W' (h : Below w5.heap.size w5 W') => refjoin_any la lb A B n ca m cb W' (HAA.out.below h) (HBB.out.below h) (by omega) (by omega))
        have hlj := length_joinl la lb
        generalize joinl la lb = lj at hr4 HJD hlj ⊢
        obtain ⟨nj, hnj⟩ : ∃ nj, lj.length = nj := ⟨_, rfl⟩
        rw [hnj] at hr4 hlj ⊢
        have HJ := Lib.hid hr4
        have ki := HKI.out.bel hb5
        have hlti5 := ki.lt
        have g0 : w5.cell? ⟨w.heap.size, 0, none⟩ = some (.int .i64 i.1) := ki.cell 0
        have g1 : w5.cell? ⟨w.heap.size, 1, none⟩ = some (.int .i64 i.2) := ki.cell 1
        obtain ⟨nf, hnf⟩ : ∃ nf, (lx.filter fun y => !decide (y = i)).length = nf := ⟨_, rfl⟩
        obtain ⟨bi, hha⟩ : ∃ b, decide (i ∈ la) = b := ⟨_, rfl⟩
        have hhx : decide (i ∈ lx) = bi := HHX.out.trans hha
        obtain ⟨be, heqd⟩ : ∃ b, decide (la = lb) = b := ⟨_, rfl⟩
        have E1 := Lib.hid (fun W' (h : Below w5.heap.size w5 W') => (HJD.out W' h).mono fun _ _ h => Makes.n hnj h)
        have E5 := Lib.hid (fun W' (h : Below w5.heap.size w5 W') => (without_any lx i V2 nx c2 W' (HX.out.below h) (by omega)).mono fun _ _ h => Gets.n' hnf h)
        have E6 := Lib.hid (fun W' (h : Below w5.heap.size w5 W') => (HD1.out A n ca W' (HAA.out.below h) (by omega)).mono fun _ _ h => Makes.n hnx h)
        have E11 := Lib.hid E6.out
        have HCUR := Lib.hid (Below.drew (Below.refl w5.heap.size w5))
        clear hr4 hb4 hb5 ki
        go_wp2_with fail
        go_region_held3 (fun w' => w'.cell? ⟨w.heap.size, 0, none⟩ = some (.int .i64 i.1) ∧ w'.cell? ⟨w.heap.size, 1, none⟩ = some (.int .i64 i.2)) (first | exact ⟨(HCUR.out.cell (p := ⟨w.heap.size, 0, none⟩) hlti5).trans g0, (HCUR.out.cell (p := ⟨w.heap.size, 1, none⟩) hlti5).trans g1⟩)
          (first
            | (go_at_call 20
               refine (E1.out _ HCUR.out).mono ?_
               rintro e v1 ⟨U1, e1, rfl, hr1, hb1⟩
               have hnow := HCUR.out.trans (hb1.mono HCUR.out.size)
               have E2' := Lib.hid (refequal_any lj lj V4 U1 nj c4 nj e1 v1 (HJ.out.below hnow) hr1)
               rw [decide_eq_true rfl] at E2'
               replace HCUR := Lib.hid hnow
               clear E1 hr1 hb1 hnow)
            | (go_at_call 9
               refine E2'.out.mono ?_
               rintro e v2 ⟨rfl, hb1⟩
               have hnow := HCUR.out.trans (hb1.mono HCUR.out.size)
               have E3' := Lib.hid (has_any lx i V2 nx c2 v2 (HX.out.below hnow) HUX.out (by omega))
               rw [hhx] at E3'
               replace HCUR := Lib.hid hnow
               clear E2' hb1 hnow)
            | (go_at_call 21
               refine E3'.out.mono ?_
               rintro e v3 ⟨rfl, hb1⟩
               have hnow := HCUR.out.trans (hb1.mono HCUR.out.size)
               have E4' := Lib.hid (refhas_any la i A n ca v3 (HAA.out.below hnow))
               rw [hha] at E4'
               replace HCUR := Lib.hid hnow
               clear E3' hb1 hnow)
            | (go_at_call 22
               refine E4'.out.mono ?_
               rintro e v4 ⟨rfl, hb1⟩
               have hnow := HCUR.out.trans (hb1.mono HCUR.out.size)
               have E5' := Lib.hid (E5.out v4 hnow)
               replace HCUR := Lib.hid hnow
               clear E4' E5 hb1 hnow)
            | (go_at_call 23
               refine E5'.out.mono ?_
               rintro e v5 ⟨U5, e5, rfl, hr5, hb1⟩
               have hnow := HCUR.out.trans (hb1.mono HCUR.out.size)
               have HR5 := Lib.hid hr5
               have E6' := Lib.hid (E6.out v5 hnow)
               replace HCUR := Lib.hid hnow
               clear E5' E6 hr5 hb1 hnow)
            | (go_at_call 10
               refine E6'.out.mono ?_
               rintro e v6 ⟨U6, e6, rfl, hr6, hb1⟩
               have hnow := HCUR.out.trans (hb1.mono HCUR.out.size)
               have HR5' := Lib.hid (HR5.out.below hb1)
               have E7' := Lib.hid ((refwithout_any lx i U6 nx e6 v6 hr6 (by omega)).mono fun _ _ h => Makes.n hnf h)
               replace HCUR := Lib.hid hnow
               clear E6' HR5 hr6 hb1 hnow)
            | (go_at_call 24
               refine E7'.out.mono ?_
               rintro e v7 ⟨U7, e7, rfl, hr7, hb1⟩
               have hnow := HCUR.out.trans (hb1.mono HCUR.out.size)
               have E8' := Lib.hid (refequal_any _ _ U5 U7 nf e5 nf e7 v7 (HR5'.out.below hb1) hr7)
               rw [decide_eq_true rfl] at E8'
               replace HCUR := Lib.hid hnow
               clear E7' HR5' hr7 hb1 hnow)
            | (go_at_call 9
               refine E8'.out.mono ?_
               rintro e v8 ⟨rfl, hb1⟩
               have hnow := HCUR.out.trans (hb1.mono HCUR.out.size)
               have E9' := Lib.hid (equal_any la lb A B n ca m cb v8 (HAA.out.below hnow) (HBB.out.below hnow))
               rw [heqd] at E9'
               replace HCUR := Lib.hid hnow
               clear E8' hb1 hnow)
            | (go_at_call 25
               refine E9'.out.mono ?_
               rintro e v9 ⟨rfl, hb1⟩
               have hnow := HCUR.out.trans (hb1.mono HCUR.out.size)
               have E10' := Lib.hid (refequal_any la lb A B n ca m cb v9 (HAA.out.below hnow) (HBB.out.below hnow))
               rw [heqd] at E10'
               replace HCUR := Lib.hid hnow
               clear E9' hb1 hnow)
            | (go_at_call 9
               refine E10'.out.mono ?_
               rintro e v10 ⟨rfl, hb1⟩
               have hnow := HCUR.out.trans (hb1.mono HCUR.out.size)
               have E11' := Lib.hid (E11.out v10 hnow)
               replace HCUR := Lib.hid hnow
               clear E10' E11 hb1 hnow)
            | (go_at_call 10
               refine E11'.out.mono ?_
               rintro e v11 ⟨U11, e11, rfl, hr11, hb1⟩
               have hnow := HCUR.out.trans (hb1.mono HCUR.out.size)
               have E12' := Lib.hid (refequal_any lx lx V2 U11 nx c2 nx e11 v11 (HX.out.below hnow) hr11)
               rw [decide_eq_true rfl] at E12'
               replace HCUR := Lib.hid hnow
               clear E11' hr11 hb1 hnow)
            | (go_at_call 9
               refine E12'.out.mono ?_
               rintro e v12 ⟨rfl, hb1⟩
               have hnow := HCUR.out.trans (hb1.mono HCUR.out.size)
               have E13' := Lib.hid (HA.out v12 (bel_trans HB5.out hnow))
               replace HCUR := Lib.hid hnow
               clear E12' hb1 hnow)
            | (go_at_call 7
               refine E13'.out.mono ?_
               rintro e v13 ⟨rfl, hb1⟩
               have hnow := HCUR.out.trans (hb1.mono HCUR.out.size)
               replace HCUR := Lib.hid hnow
               clear E13' hb1 hnow))
        go_wp2_with fail
        go_ret
        exact ⟨rfl, bel_trans HB.out (bel_trans HB5.out HCUR.out)⟩
end Go.Proofs.YtmbmgmelnejceaaDoor
