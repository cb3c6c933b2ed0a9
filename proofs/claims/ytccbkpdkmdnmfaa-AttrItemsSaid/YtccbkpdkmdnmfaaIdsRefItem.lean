/-
  The document's Item of a right set.
-/
import Derived.Test.YtccbkpdkmdnmfaaIdsItem
import Derived.Test.YtccbkpdkmdnmfaaCodRefMake
namespace Go.Proofs.Ytccbkpdkmdnmfaa
open Go.RowKit Mem Ids Cod Go.Sort

set_option maxRecDepth 100000 in
set_option maxHeartbeats 4000000 in
theorem refitem_new (l : List (Int × Int)) (A : Option Addr) (n c : Nat) (w : World) (ha : Rs w A n c l) (hc : Ids.chk l = true) :
    Calls Try.prog 41 #[.slice A n c] w (GivesNew w (setIt l)) := by
  obtain ⟨i0, hi, hz0, hz1, hz2⟩ := info_parts info25
  have hla := ha.len
  have hca := And.intro ha.le ha.cap
  unfold maxLen at hca
  have HBX := Lib.hid (Blk.new w 37 #[.int .i64 0, .int .u64 0, .string ⟨#[]⟩, .slice none 0 0])
  have HB0 := Lib.hid (bel_alloc (Below.refl w.heap.size w) (.cells #[.int .i64 0, .int .u64 0, .string ⟨#[]⟩, .slice none 0 0] 37))
  have hs0 := size_alloc w (.cells #[.int .i64 0, .int .u64 0, .string ⟨#[]⟩, .slice none 0 0] 37)
  have HA0 := Lib.hid (ha.alloc (.cells #[.int .i64 0, .int .u64 0, .string ⟨#[]⟩, .slice none 0 0] 37))
  have hln : l.length ≤ 4096 := (of_decide_eq_true hc).1
  have HR := Lib.hid (chk_right hc)
  clear ha hc
  go_enter Try.func41, Try.ntmps41
  go_wp2_with fail
  generalize w.alloc (.cells #[.int .i64 0, .int .u64 0, .string ⟨#[]⟩, .slice none 0 0] 37) = w1 at HBX HB0 hs0 HA0 ⊢
  go_loopw [3, 4] (ItRel l w1.heap.size w1) (fun _ v _ => n - (intOf v).toNat)
  case atStart => exact ⟨0, none, 0, 0, rfl, rfl, Nat.zero_le _, rfl, ⟨rfl, .inl ⟨rfl, rfl⟩⟩, Below.refl _ _⟩
  case round =>
    obtain ⟨k, V, m, cv, rfl, rfl, hk, hm, hown, hbw⟩ := hrel
    have hsr := hbw.size
    have HM := Lib.hid hm
    have hmb : m ≤ 8192 := by omega
    clear hm
    by_cases hlt : k < n
    · obtain ⟨g, o, x, rfl, hg, hx, c0, c1⟩ := HA0.out.at_ hlt
      have d0 := (hbw.cell (p := ⟨g, o + k * 2, none⟩) hg).trans c0
      have d1 := (hbw.cell (p := ⟨g, o + k * 2 + 1, none⟩) hg).trans c1
      have hrx := of_decide_eq_true (HR.out x (List.mem_of_getElem? hx))
      have HX := Lib.hid (hung_snoc hx)
      have HO := Lib.hid hown
      have HBW := Lib.hid hbw
      obtain ⟨x1, x2⟩ := x
      simp only at c0 c1 d0 d1 hrx
      have hlt0 : g < wr.heap.size := by omega
      have HC1 := Lib.hid (refnum_any x1 (by omega) (by omega))
      have HC2 := Lib.hid (refnum_any x2 (by omega) (by omega))
      have HCUR := Lib.hid (Below.drew (Below.refl wr.heap.size wr))
      have HNE := Lib.hid (show some g ≠ (Value.slice V m cv).ownBlock from fun e => by have := (HO.out.lt g e.symm).1; omega)
      clear hx hown hbw c0 c1
      go_wp2_with fail
      go_region_held3 (fun w' => w'.cell? ⟨g, o + k * 2, none⟩ = some (.int .i64 x1) ∧ w'.cell? ⟨g, o + k * 2 + 1, none⟩ = some (.int .i64 x2)) (first | exact HS3.out | exact ⟨(World.cell?_alloc_lt _ _ _ (Nat.lt_of_lt_of_le hlt0 HCUR.out.size)).trans ((HCUR.out.cell (p := ⟨g, o + k * 2, none⟩) hlt0).trans d0), (World.cell?_alloc_lt _ _ _ (Nat.lt_of_lt_of_le hlt0 HCUR.out.size)).trans ((HCUR.out.cell (p := ⟨g, o + k * 2 + 1, none⟩) hlt0).trans d1)⟩ | exact ⟨(HCUR.out.cell (p := ⟨g, o + k * 2, none⟩) hlt0).trans d0, (HCUR.out.cell (p := ⟨g, o + k * 2 + 1, none⟩) hlt0).trans d1⟩)
        (first
          | (go_at_call 40
             refine (HC1.out _).mono ?_
             rintro e v1 ⟨rfl, hb1⟩
             have hnow := HCUR.out.trans (hb1.mono HCUR.out.size)
             replace HCUR := Lib.hid hnow
             clear HC1 hb1 hnow)
          | (go_at_call 40
             refine (HC2.out _).mono ?_
             rintro e v2 ⟨rfl, hb1⟩
             have hnow := HCUR.out.trans (hb1.mono HCUR.out.size)
             replace HCUR := Lib.hid hnow
             have hown2 := ownsRow_below HO.out HCUR.out
             have hnews := World.news_of_block (Blk.new v2 37 #[.int .i64 0, .int .u64 x1, .string ByteArray.empty, .slice none 0 0, .int .i64 0, .int .u64 x2, .string ByteArray.empty, .slice none 0 0])
             have HO2 := Lib.hid hown2
             have HNW := Lib.hid hnews
             have hsv := HCUR.out.size
             clear HC2 hb1 hnow hown2 hnews)
          | (refine step_append_lies _ rfl (.tmp 11) (.tmp 24) 35 rfl w1.heap.size 37 i0 _ 4 56 Try.underlying35 hi hz0 hz1 hz2 rfl (by omega) (.slice V m cv) m _ (by simp [Act.eval]) (HO2.out.alloc _) ⟨v2.heap.size, 0, none⟩ 2 2 [.int .i64 0, .int .u64 x1, .string ByteArray.empty, .slice none 0 0, .int .i64 0, .int .u64 x2, .string ByteArray.empty, .slice none 0 0] (by simp [Act.eval]) rfl HNW.out (by intro u hu; simp at hu; rcases hu with rfl | rfl | rfl | rfl | rfl | rfl | rfl | rfl <;> rfl) (by omega) (by unfold maxLen; omega) (by omega) (by rw [size_alloc]; omega) (v2.heap.size + 1) (size_alloc _ _) ?_
             intro g3 cap3 w3 hown3 hgrow3 _ _
             have s0 : w3.cell? ⟨g, o + k * 2, none⟩ = some (.int .i64 x1) := (show w3.cell? ⟨g, o + k * 2, none⟩ = (World.alloc v2 _).cell? ⟨g, o + k * 2, none⟩ from World.cell?_of_block (hgrow3.block g (by rw [size_alloc]; omega) HNE.out)).trans ((World.cell?_alloc_lt _ _ _ (Nat.lt_of_lt_of_le hlt0 hsv)).trans ((HCUR.out.cell (p := ⟨g, o + k * 2, none⟩) hlt0).trans d0))
             have s1 : w3.cell? ⟨g, o + k * 2 + 1, none⟩ = some (.int .i64 x2) := (show w3.cell? ⟨g, o + k * 2 + 1, none⟩ = (World.alloc v2 _).cell? ⟨g, o + k * 2 + 1, none⟩ from World.cell?_of_block (hgrow3.block g (by rw [size_alloc]; omega) HNE.out)).trans ((World.cell?_alloc_lt _ _ _ (Nat.lt_of_lt_of_le hlt0 hsv)).trans ((HCUR.out.cell (p := ⟨g, o + k * 2 + 1, none⟩) hlt0).trans d1))
             have HS3 := Lib.hid (And.intro s0 s1)
             have HO3 := Lib.hid hown3
             have HG3 := Lib.hid hgrow3
             clear s0 s1 hown3 hgrow3))
      have HB4 := Lib.hid (((HBW.out.trans (HCUR.out.mono hsr)).alloc (by omega) _).trans (gr_below HG3.out (by rw [size_alloc]; omega) fun b hb => (HO.out.lt b hb).1))
      go_wp2_with fail
      go_roundw
      case rel =>
        refine ⟨k + 1, _, m + 2, cap3, rfl, by simp, by omega, by have := HM.out; omega, ?_, HB4.out⟩
        have e := HX.out
        rw [show ((x1, x2).1.toNat : Int) = x1 from Int.toNat_of_nonneg hrx.1, show ((x1, x2).2.toNat : Int) = x2 from Int.toNat_of_nonneg (by omega)] at e
        rw [e]
        exact HO3.out
      case measure =>
        simp [intOf]
        omega
    · have hkl : k = l.length := by omega
      subst hkl
      rw [List.take_length] at hown
      have hrow := row_own HR.out hown
      have hbk := HBX.out.below hbw (by omega)
      have HL := Lib.hid (reflist_any V m cv wr)
      have HROW := Lib.hid hrow
      have HBW := Lib.hid hbw
      have HBK := Lib.hid hbk
      clear hown hrow hbw hbk
      go_wp2_with fail
      refine HL.out.mono ?_
      rintro e w5 ⟨rfl, hb5⟩
      have hblk := HBK.out.bel hb5
      obtain ⟨c0, c1, c2, c3⟩ := blk4 hblk
      have z0 := hblk.soft 0
      have z1 := hblk.soft 1
      have z2 := hblk.soft 2
      have z3 := hblk.soft 3
      have HB5 := Lib.hid hb5
      have hs5 := hb5.size
      clear hb5
      go_wp2_with fail
      obtain ⟨hblk2, hgr⟩ := blk4_set hblk (.int .i64 2) (.int .u64 0) (.string ByteArray.empty) (.slice V m cv)
      generalize (((w5.setCell ⟨w.heap.size, 0, none⟩ (.int .i64 2)).setCell ⟨w.heap.size, 1, none⟩ (.int .u64 0)).setCell ⟨w.heap.size, 2, none⟩ (.string ByteArray.empty)).setCell ⟨w.heap.size, 3, none⟩ (.slice V m cv) = w9 at hblk2 hgr ⊢
      obtain ⟨d0, d1, d2, d3⟩ := blk4 hblk2
      refine bodyPost_ret (v := .agg #[.int .i64 2, .int .u64 0, .string ByteArray.empty, .slice V m cv]) (by simp [results, Try.results41, go_sem, d0, d1, d2, d3]) rfl ?_
      have hlen : (its l).length = m := by rw [length_its]; have := HM.out; omega
      have hs9 := hgr.size
      have hrow9 : Row w9 (fun b => w.heap.size ≤ b ∧ b < w9.heap.size) V m cv (its l) := ((HROW.out.below HB5.out fun b hb => hb.2).grown hgr (fun b hb e => by injection e with e; omega)).more fun b hb _ => by omega
      refine ⟨V, cv, ?_, hrow9.lies (by omega) (by omega) (by decide), ?_⟩
      · show _ = Ending.returned (.agg #[.int .i64 2, .int .u64 ((0 : Nat) : Int), .string ByteArray.empty, .slice V (its l).length cv])
        rw [hlen]
        rfl
      · exact ((HB0.out.trans (HBW.out.mono (by omega))).trans (HB5.out.mono (by omega))).trans (gr_below hgr (by omega) fun b hb => by injection hb with hb; omega)
theorem refitem_any (l : List (Int × Int)) (A : Option Addr) (n c : Nat) (w : World) (ha : Rs w A n c l) (hc : Ids.chk l = true) :
    Calls Try.prog 41 #[.slice A n c] w (GivesIt w (setIt l)) := (refitem_new l A n c w ha hc).mono fun _ _ h => h.it
end Go.Proofs.Ytccbkpdkmdnmfaa
