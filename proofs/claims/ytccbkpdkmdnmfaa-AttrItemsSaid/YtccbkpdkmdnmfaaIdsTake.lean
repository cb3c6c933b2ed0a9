/-
  ids.Take of any item: the set whose item that is, or none.
-/
import Derived.Test.YtccbkpdkmdnmfaaIdsItem
import Derived.Test.YtccbkpdkmdnmfaaIdsRefEq
namespace Go.Proofs.Ytccbkpdkmdnmfaa
open Go.RowKit Mem Ids Cod Go.Sort

theorem pairs_take : ∀ l : List It, pairs (l.take (2 * (l.length / 2))) = pairs l
  | [] => rfl
  | [a] => by simp [pairs]
  | a :: b :: l => by
    have ih := pairs_take l
    rw [show 2 * ((a :: b :: l).length / 2) = 2 * (l.length / 2) + 1 + 1 by simp; omega]
    simp only [List.take_succ_cons, pairs]
    rw [ih]

/-- The ending: these ids and true, or none and false; what was there stays. -/
def Takes (w : World) (r : Option (List (Int × Int))) (e : Ending) (w' : World) : Prop :=
  ∃ V n c l b, e = .returned (.tuple #[.slice V n c, .bool b]) ∧ Rs w' V n c l ∧ l = r.getD [] ∧ b = r.isSome ∧ Below w.heap.size w w'

/-- .. in memory of the call's own. -/
def TakesNew (w : World) (r : Option (List (Int × Int))) (e : Ending) (w' : World) : Prop :=
  ∃ V n c l b, e = .returned (.tuple #[.slice V n c, .bool b]) ∧ Rs w' V n c l ∧ l = r.getD [] ∧ b = r.isSome ∧ Below w.heap.size w w' ∧ ∀ g o, V = some ⟨g, o, none⟩ → w.heap.size ≤ g
theorem TakesNew.takes {w : World} {r : Option (List (Int × Int))} {e : Ending} {w' : World} (h : TakesNew w r e w') : Takes w r e w' := by
  obtain ⟨V, n, c, l, b, h1, h2, h3, h4, h5, _⟩ := h
  exact ⟨V, n, c, l, b, h1, h2, h3, h4, h5⟩
theorem own_new {w : World} {base : Nat} {e : TypeId} {size n c : Nat} {V : Option Addr} {xs : List Value} (h : w.ownsRow base e size (.slice V n c) n xs) : ∀ g o, V = some ⟨g, o, none⟩ → base ≤ g := by
  intro g o e
  subst e
  rcases h.2 with ⟨hv, _⟩ | ⟨g', cap, cur, hv, hg, _⟩
  · cases hv
  · injection hv with e1
    injection e1 with e1
    injection e1 with e1
    omega

def TkRel (ks : List It) (h B : Nat) (w : World) (v4 vk : Value) (wr : World) : Prop :=
  ∃ (k : Nat) (V : Option Addr) (c : Nat), v4 = .slice V k c ∧ vk = .int .i64 k ∧ k ≤ h ∧ wr.ownsRow B 48 2 (.slice V k c) k (cells (pairs (ks.take (2 * k)))) ∧ Below B w wr

set_option maxRecDepth 100000 in
set_option maxHeartbeats 4000000 in
theorem take_new (x : It) (A : Option Addr) (c : Nat) (S : Nat → Prop) (w : World) (hl : Lies w S x A c) (hS : ∀ b, S b → b < w.heap.size) :
    Calls Try.prog 56 #[.agg #[.int .i64 x.kind, .int .u64 (x.num : Int), .string x.str, .slice A x.kids.length c]] w (TakesNew w (takeOf x)) := by
  obtain ⟨i0, hi, hz0, hz1, hz2⟩ := info_parts infoId
  obtain ⟨b1, b2, b3, b4, b5, b6⟩ := hl.bounds
  have HBX := Lib.hid (Blk.new w 37 #[.int .i64 x.kind, .int .u64 (x.num : Int), .string x.str, .slice A x.kids.length c])
  have HB0 := Lib.hid (bel_alloc (Below.refl w.heap.size w) (.cells #[.int .i64 x.kind, .int .u64 (x.num : Int), .string x.str, .slice A x.kids.length c] 37))
  have hs0 := size_alloc w (.cells #[.int .i64 x.kind, .int .u64 (x.num : Int), .string x.str, .slice A x.kids.length c] 37)
  have HL := Lib.hid (hl.alloc (.cells #[.int .i64 x.kind, .int .u64 (x.num : Int), .string x.str, .slice A x.kids.length c] 37))
  have HSS := Lib.hid hS
  obtain ⟨n, hn⟩ : ∃ n, x.kids.length = n := ⟨_, rfl⟩
  rw [hn] at HBX HB0 hs0 HL b5 ⊢
  have HN := Lib.hid hn
  clear hl hS hn
  go_enter Try.func56, Try.ntmps56
  by_cases h8 : 8192 < n
  · have hnone : takeOf x = none := by
      unfold takeOf
      rw [if_neg]
      rintro ⟨h, _⟩
      have := HN.out
      omega
    have HNO := Lib.hid hnone
    clear hnone
    go_wp2_with fail
    go_ret2
    rw [HNO.out]
    exact ⟨none, 0, 0, [], false, rfl, Rs.nil_ _, rfl, rfl, HB0.out, fun _ _ h => by cases h⟩
  · obtain ⟨h, hh⟩ : ∃ h : Nat, n / 2 = h := ⟨_, rfl⟩
    have hq : (n : Int) / 2 = (h : Int) := by omega
    obtain ⟨w2, hmk, hown2, hgr2⟩ := run_make_own (P := Try.prog) (w.alloc (.cells #[.int .i64 x.kind, .int .u64 (x.num : Int), .string x.str, .slice A n c] 37)) (w.heap.size + 1) 22 48 i0 _ 2 Try.underlying22 hi hz0 hz1 .i64 .i64 h (by rw [hz2]; omega) (by unfold maxLen; omega) (by omega)
    rw [hs0] at hmk hown2
    have HO2 := Lib.hid hown2
    have hb2 : Below (w.heap.size + 1) (w.alloc (.cells #[.int .i64 x.kind, .int .u64 (x.num : Int), .string x.str, .slice A n c] 37)) w2 := (Below.refl _ _).grown hgr2 (by omega) (fun k hk => by cases hk)
    have HB2 := Lib.hid hb2
    have hk2 := HBX.out.below hb2 (by omega)
    obtain ⟨q0, q1, q2, q3⟩ := blk4 hk2
    clear hown2 hgr2 hb2
    go_wp2_with fail
    clear hmk q0 q1 q2 q3 hk2
    generalize w.alloc (.cells #[.int .i64 x.kind, .int .u64 (x.num : Int), .string x.str, .slice A n c] 37) = w1 at HBX HB0 hs0 HL HB2
    go_loopw [4, 19] (TkRel x.kids h (w.heap.size + 1) w1) (fun _ v _ => h - (intOf v).toNat)
    case atStart => exact ⟨0, _, h, rfl, rfl, Nat.zero_le _, HO2.out, HB2.out⟩
    case round =>
      obtain ⟨k, V, cv, rfl, rfl, hk, hown, hbw⟩ := hrel
      have hsr := hbw.size
      by_cases hlt : k < h
      · have hn0 := HN.out
        obtain ⟨g, o, A1, c1, rfl, hSg, hg, -, d1, -, -, -⟩ := lies_kid HL.out (i := 2 * k) (by omega)
        obtain ⟨g', o', A2, c2, e2, -, -, -, d2, -, -, -⟩ := lies_kid HL.out (i := 2 * k + 1) (by omega)
        injection e2 with e2
        injection e2 with e3 e4
        subst e3; subst e4
        have hsn := pairs_snoc x.kids k _ _ (List.getElem?_eq_getElem (by omega)) (List.getElem?_eq_getElem (by omega))
        have hgS := HSS.out g hSg
        generalize x.kids[2 * k].num = r1 at d1 hsn
        generalize x.kids[2 * k + 1].num = r2 at d2 hsn
        obtain ⟨R1, hR1⟩ : ∃ R1 : Int, w64 r1 = R1 := ⟨_, rfl⟩
        obtain ⟨R2, hR2⟩ : ∃ R2 : Int, w64 r2 = R2 := ⟨_, rfl⟩
        rw [hR1, hR2] at hsn
        unfold w64 at hR1 hR2
        obtain ⟨K2, hK2⟩ : ∃ K : Nat, 2 * k = K := ⟨_, rfl⟩
        have hw1 : IntKind.i64.wrap (2 * (k : Int)) = (K2 : Int) := by rw [wrap64 (by omega) (by omega)]; omega
        obtain ⟨K3, hK3⟩ : ∃ K : Nat, K2 + 1 = K := ⟨_, rfl⟩
        have hw2 : IntKind.i64.wrap ((K2 : Int) + 1) = (K3 : Int) := by rw [wrap64 (by omega) (by omega)]; omega
        rw [hK2] at d1
        rw [hK2, hK3] at d2
        have q1 := (hbw.cell (p := ⟨g, o + K2 * 4 + 1, none⟩) (show g < w.heap.size + 1 by omega)).trans d1
        have q2 := (hbw.cell (p := ⟨g, o + K3 * 4 + 1, none⟩) (show g < w.heap.size + 1 by omega)).trans d2
        obtain ⟨-, -, -, q3⟩ := blk4 (HBX.out.below hbw (by omega))
        have hi2 : K2 < n := by omega
        have hi3 : K3 < n := by omega
        have hgr : g < wr.heap.size := by omega
        have hwr : w.heap.size < wr.heap.size := by omega
        have HSN := Lib.hid hsn
        have HO := Lib.hid hown
        have HBW := Lib.hid hbw
        have hnews := World.news_of_block ((Blk.new wr 48 #[.int .i64 R1, .int .i64 R2]).bel (Below.drew (Below.refl _ _)))
        have HNW := Lib.hid hnews
        have hsX : (wr.alloc (.cells #[.int .i64 R1, .int .i64 R2] 48)).drew.heap.size = wr.heap.size + 1 := size_alloc _ _
        have HSX := Lib.hid hsX
        have HOX := Lib.hid (ownsRow_below (HO.out.alloc (.cells #[.int .i64 R1, .int .i64 R2] 48)) (Below.drew (Below.refl _ _)))
        have hX := Below.drew ((Below.refl wr.heap.size wr).alloc (Nat.le_refl _) (.cells #[.int .i64 R1, .int .i64 R2] 48))
        have p1 := (hX.cell (p := ⟨g, o + K2 * 4 + 1, none⟩) hgr).trans q1
        have p2 := (hX.cell (p := ⟨g, o + K3 * 4 + 1, none⟩) hgr).trans q2
        have p3 := (hX.cell (p := ⟨w.heap.size, 3, none⟩) hwr).trans q3
        have HP := Lib.hid (And.intro p3 (And.intro p1 p2))
        have HX := Lib.hid hX
        have HNE := Lib.hid (show some g ≠ (Value.slice V k cv).ownBlock from fun e => by have := (HO.out.lt g e.symm).1; omega)
        have HNE2 := Lib.hid (show some w.heap.size ≠ (Value.slice V k cv).ownBlock from fun e => by have := (HO.out.lt w.heap.size e.symm).1; omega)
        clear hsn hown hbw hnews hsX hX p1 p2 p3 hn0 hK2 hK3 d1 d2 hSg
        go_wp2_with fail
        go_region_held3 (fun w' => w'.cell? ⟨w.heap.size, 3, none⟩ = some (.slice (some ⟨g, o, none⟩) n c) ∧ w'.cell? ⟨g, o + K2 * 4 + 1, none⟩ = some (.int .u64 (r1 : Int)) ∧ w'.cell? ⟨g, o + K3 * 4 + 1, none⟩ = some (.int .u64 (r2 : Int))) (first | exact HS3.out | exact HP.out | exact ⟨q3, q1, q2⟩)
          (first
            | (refine step_append_lies _ rfl (.tmp 22) (.tmp 41) 22 rfl (w.heap.size + 1) 48 i0 _ 2 16 Try.underlying22 hi hz0 hz1 hz2 rfl (by omega) (.slice V k cv) k _ (by simp [Act.eval]) HOX.out ⟨wr.heap.size, 0, none⟩ 1 1 [.int .i64 R1, .int .i64 R2] (by simp [Act.eval]) rfl HNW.out (by intro u hu; simp at hu; rcases hu with rfl | rfl <;> rfl) (by omega) (by unfold maxLen; omega) (by omega) (by have := HSX.out; omega) (wr.heap.size + 1) HSX.out ?_
               intro g3 cap3 w3 hown3 hgrow3 _ _
               have s3 : w3.cell? ⟨w.heap.size, 3, none⟩ = _ := (show w3.cell? ⟨w.heap.size, 3, none⟩ = (wr.alloc (.cells #[.int .i64 R1, .int .i64 R2] 48)).drew.cell? ⟨w.heap.size, 3, none⟩ from World.cell?_of_block (hgrow3.block w.heap.size (by have := HSX.out; omega) HNE2.out)).trans HP.out.1
               have s1 : w3.cell? ⟨g, o + K2 * 4 + 1, none⟩ = _ := (show w3.cell? ⟨g, o + K2 * 4 + 1, none⟩ = (wr.alloc (.cells #[.int .i64 R1, .int .i64 R2] 48)).drew.cell? ⟨g, o + K2 * 4 + 1, none⟩ from World.cell?_of_block (hgrow3.block g (by have := HSX.out; omega) HNE.out)).trans HP.out.2.1
               have s2 : w3.cell? ⟨g, o + K3 * 4 + 1, none⟩ = _ := (show w3.cell? ⟨g, o + K3 * 4 + 1, none⟩ = (wr.alloc (.cells #[.int .i64 R1, .int .i64 R2] 48)).drew.cell? ⟨g, o + K3 * 4 + 1, none⟩ from World.cell?_of_block (hgrow3.block g (by have := HSX.out; omega) HNE.out)).trans HP.out.2.2
               have HS3 := Lib.hid (And.intro s3 (And.intro s1 s2))
               have HO3 := Lib.hid hown3
               have HG3 := Lib.hid hgrow3
               clear s1 s2 s3 hown3 hgrow3))
        have HB4 := Lib.hid ((HBW.out.trans (HX.out.mono (by omega))).trans (gr_below HG3.out (by have := HSX.out; omega) fun b hb => (HO.out.lt b hb).1))
        go_wp2_with fail
        go_roundw
        case rel =>
          refine ⟨k + 1, _, cap3, rfl, by simp, by omega, ?_, HB4.out⟩
          rw [HSN.out]
          simpa [cells, enc] using HO3.out
        case measure =>
          simp [intOf]
          omega
      · have hkh : k = h := by omega
        subst hkh
        have hp : pairs (x.kids.take (2 * k)) = pairs x.kids := by
          rw [← hh, ← HN.out]
          exact pairs_take x.kids
        rw [hp] at hown
        have hrs := Rs.own hown
        have HNW := Lib.hid (own_new hown)
        have hblk := HBX.out.below hbw (by omega)
        obtain ⟨q0, q1, q2, q3⟩ := blk4 hblk
        have HLW := Lib.hid (HL.out.below hbw fun b hb => Nat.lt_succ_of_lt (HSS.out b hb))
        have HBK := Lib.hid hblk
        have HRS := Lib.hid hrs
        have HBW := Lib.hid hbw
        have hit := item_any (pairs x.kids) V k cv _ hrs.drew
        have hwr : w.heap.size < wr.heap.size := by omega
        have hwt : wt (itemOf (pairs x.kids)) ≤ 100000 := by
          unfold itemOf
          split
          · have hl2 := length_pairs x.kids
            have := HN.out
            show 1 + ByteArray.empty.size + wts (its (pairs x.kids)) ≤ _
            rw [wts_its, hl2]
            simp
            omega
          · decide
        have htk : takeOf x = if same (itemOf (pairs x.kids)) x = true then some (pairs x.kids) else none := by
          unfold takeOf
          have := HN.out
          by_cases e : itemOf (pairs x.kids) = x
          · rw [if_pos ⟨by omega, e⟩, if_pos ((same_iff _ _).2 e)]
          · rw [if_neg fun h => e h.2, if_neg fun h => e ((same_iff _ _).1 h)]
        obtain ⟨y, hy⟩ : ∃ y, itemOf (pairs x.kids) = y := ⟨_, rfl⟩
        rw [hy] at hit hwt htk
        have hsm := fun (W : World) (V1 : Option Addr) (c1 : Nat) (h1 : Lies W (fun b => b < W.heap.size) y V1 c1) (h2 : Lies W (fun b => b < W.heap.size) x A c) => same_item y x V1 A c1 c _ W h1 h2 (fun b hb => hb) hwt
        rw [HN.out] at hsm
        have HIT := Lib.hid hit
        have HSM := Lib.hid hsm
        have HCUR := Lib.hid (Below.drew (Below.refl wr.heap.size wr))
        have HTK := Lib.hid htk
        clear hp hown hrs hblk hbw hh hq hit hsm htk hy hwt
        obtain ⟨r, hr⟩ : ∃ r, same y x = r := ⟨_, rfl⟩
        rw [hr] at HSM HTK
        clear hr
        go_wp2_with fail
        go_region_held3 (fun w' => w'.cell? ⟨w.heap.size, 0, none⟩ = some (.int .i64 x.kind) ∧ w'.cell? ⟨w.heap.size, 1, none⟩ = some (.int .u64 (x.num : Int)) ∧ w'.cell? ⟨w.heap.size, 2, none⟩ = some (.string x.str) ∧ w'.cell? ⟨w.heap.size, 3, none⟩ = some (.slice A n c)) (exact ⟨(HCUR.out.cell (p := ⟨w.heap.size, 0, none⟩) hwr).trans q0, (HCUR.out.cell (p := ⟨w.heap.size, 1, none⟩) hwr).trans q1, (HCUR.out.cell (p := ⟨w.heap.size, 2, none⟩) hwr).trans q2, (HCUR.out.cell (p := ⟨w.heap.size, 3, none⟩) hwr).trans q3⟩)
          (first
            | (go_at_call 35
               refine HIT.out.mono ?_
               rintro e v1 ⟨V1, c1, rfl, hl1, hb1⟩
               have hnow := HCUR.out.trans (hb1.mono HCUR.out.size)
               have hlx := (HLW.out.below hnow fun b hb => Nat.lt_trans (HSS.out b hb) hwr).more (S' := fun b => b < v1.heap.size) fun b hb _ => by have := HSS.out b hb; have := hnow.size; omega
               replace HCUR := Lib.hid hnow
               have hsm := HSM.out _ _ _ hl1 hlx
               replace HSM := Lib.hid hsm
               clear HIT hb1 hnow hl1 hlx hsm)
            | (go_at_call 18
               refine HSM.out.mono ?_
               rintro e v2 ⟨rfl, hb1⟩
               have hnow := HCUR.out.trans (hb1.mono HCUR.out.size)
               replace HCUR := Lib.hid hnow
               clear HSM hb1 hnow))
        have HBE := Lib.hid ((HB0.out.trans (HBW.out.mono (by omega))).trans (HCUR.out.mono (by omega)))
        have HRE := Lib.hid (HRS.out.below HCUR.out)
        cases r with
        | true =>
          go_wp2_with fail
          go_ret2
          rw [HTK.out]
          exact ⟨_, _, _, _, true, rfl, HRE.out, rfl, rfl, HBE.out, fun g o h => by have := HNW.out g o h; omega⟩
        | false =>
          go_wp2_with fail
          go_ret2
          rw [HTK.out]
          exact ⟨none, 0, 0, [], false, rfl, Rs.nil_ _, rfl, rfl, HBE.out, fun _ _ h => by cases h⟩
theorem take_any (x : It) (A : Option Addr) (c : Nat) (S : Nat → Prop) (w : World) (hl : Lies w S x A c) (hS : ∀ b, S b → b < w.heap.size) :
    Calls Try.prog 56 #[.agg #[.int .i64 x.kind, .int .u64 (x.num : Int), .string x.str, .slice A x.kids.length c]] w (Takes w (takeOf x)) := (take_new x A c S w hl hS).mono fun _ _ h => h.takes
end Go.Proofs.Ytccbkpdkmdnmfaa
