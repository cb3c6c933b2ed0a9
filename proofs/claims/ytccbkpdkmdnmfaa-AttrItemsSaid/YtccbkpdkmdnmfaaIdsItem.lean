/-
  ids.Item and the document's: the item of a right set, in memory of the call's own.
-/
import Derived.Test.YtccbkpdkmdnmfaaIdsItemPlain
import Derived.Test.YtccbkpdkmdnmfaaIdsCheck
import Derived.Test.YtccbkpdkmdnmfaaCodSame
import Derived.Test.YtccbkpdkmdnmfaaCodKid
import Derived.Deep.RegionHeld3
import Derived.Deep.AppendLies
import Derived.Laws.MakeOwn
namespace Go.Proofs.Ytccbkpdkmdnmfaa
open Go.RowKit Mem Ids Cod Go.Sort

/-- The numbers of a list of ids, as they lie. -/
def hung (l : List (Int × Int)) : List Hung := (its l).map fun x => ⟨x, none, 0⟩
theorem hung_its (l : List (Int × Int)) : (hung l).map (·.x) = its l := by simp [hung, Function.comp_def]
theorem hung_append (a b : List (Int × Int)) : hung (a ++ b) = hung a ++ hung b := by simp [hung, its_append]
theorem length_hung (l : List (Int × Int)) : (hung l).length = l.length * 2 := by rw [hung, List.length_map, length_its]
theorem cells4_append (a b : List Hung) : cells4 (a ++ b) = cells4 a ++ cells4 b := by simp [cells4]
theorem hung_lies {l : List (Int × Int)} (hr : ∀ x ∈ l, right x = true) (w : World) (S : Nat → Prop) : ∀ h ∈ hung l, Lies w S h.x h.A h.c := by
  intro h hh
  obtain ⟨x, hx, rfl⟩ := List.mem_map.1 hh
  obtain ⟨y, hy, hxy⟩ := List.mem_flatMap.1 hx
  have hr := of_decide_eq_true (hr y hy)
  simp at hxy
  rcases hxy with rfl | rfl
  · exact lies_leaf w S (by omega) (by omega) (by decide)
  · exact lies_leaf w S (by omega) (by omega) (by decide)
/-- A row of the call's own of such numbers, as a row of items. -/
theorem row_own {w : World} {base n c : Nat} {V : Option Addr} {l : List (Int × Int)} (hr : ∀ x ∈ l, right x = true) (h : w.ownsRow base 37 4 (.slice V n c) n (cells4 (hung l))) : Row w (fun b => base ≤ b ∧ b < w.heap.size) V n c (its l) := by
  have hl := h.1
  rw [length_cells4, length_hung] at hl
  have hn : (hung l).length = n := by rw [length_hung]; omega
  rw [← hung_its]
  rcases h.2 with ⟨hv, h0⟩ | ⟨g, cap, cur, hv, hb, hh, hnc, hm, _, _⟩
  · injection hv with e1 e2 e3
    subst e1; subst e3
    exact Row.of_hung hn ⟨by omega, by omega, fun _ => rfl⟩ (hung_lies hr _ _) fun h => by omega
  · injection hv with e1 e2 e3
    subst e1; subst e3
    unfold maxLen at hm
    have hlt := (Array.getElem?_eq_some_iff.1 hh).1
    exact Row.of_hung hn ⟨hnc, by omega, (fun e => by cases e)⟩ (hung_lies hr _ _) fun _ => ⟨_, rfl, ⟨hb, hlt⟩, hlt, h.cells (g := g) rfl⟩

def ItRel (l : List (Int × Int)) (B : Nat) (w : World) (v3 vk : Value) (wr : World) : Prop :=
  ∃ (k : Nat) (V : Option Addr) (m c : Nat), v3 = .slice V m c ∧ vk = .int .i64 k ∧ k ≤ l.length ∧ m = k * 2 ∧ wr.ownsRow B 37 4 (.slice V m c) m (cells4 (hung (l.take k))) ∧ Below B w wr
theorem hung_snoc {l : List (Int × Int)} {k : Nat} {x : Int × Int} (hx : l[k]? = some x) : cells4 (hung (l.take (k + 1))) = cells4 (hung (l.take k)) ++ [.int .i64 0, .int .u64 (x.1.toNat : Int), .string ByteArray.empty, .slice none 0 0, .int .i64 0, .int .u64 (x.2.toNat : Int), .string ByteArray.empty, .slice none 0 0] := by
  rw [List.take_add_one, hx, hung_append, cells4_append]
  rfl
set_option maxRecDepth 100000 in
set_option maxHeartbeats 4000000 in
theorem item_new (l : List (Int × Int)) (A : Option Addr) (n c : Nat) (w : World) (ha : Rs w A n c l) :
    Calls Try.prog 35 #[.slice A n c] w (GivesNew w (itemOf l)) := by
  obtain ⟨i0, hi, hz0, hz1, hz2⟩ := info_parts info25
  have hla := ha.len
  have hca := And.intro ha.le ha.cap
  unfold maxLen at hca
  have HBX := Lib.hid (Blk.new w 37 #[.int .i64 0, .int .u64 0, .string ⟨#[]⟩, .slice none 0 0])
  have HB0 := Lib.hid (bel_alloc (Below.refl w.heap.size w) (.cells #[.int .i64 0, .int .u64 0, .string ⟨#[]⟩, .slice none 0 0] 37))
  have hs0 := size_alloc w (.cells #[.int .i64 0, .int .u64 0, .string ⟨#[]⟩, .slice none 0 0] 37)
  have HA0 := Lib.hid (ha.alloc (.cells #[.int .i64 0, .int .u64 0, .string ⟨#[]⟩, .slice none 0 0] 37))
  have hck := check_any l A n c _ HA0.out
  clear ha
  go_enter Try.func35, Try.ntmps35
  go_wp2_with fail
  generalize w.alloc (.cells #[.int .i64 0, .int .u64 0, .string ⟨#[]⟩, .slice none 0 0] 37) = w1 at HBX HB0 hs0 HA0 hck ⊢
  cases hc : Ids.chk l with
  | false =>
    rw [hc] at hck
    have hit : itemOf l = zeroIt := by rw [itemOf, if_neg (by simp [hc])]
    have HCK := Lib.hid hck
    have HIT := Lib.hid hit
    clear hck hc hit
    refine HCK.out.mono ?_
    rintro e w2 ⟨rfl, hb2⟩
    have hblk := HBX.out.bel hb2
    have HB2 := Lib.hid (bel_trans HB0.out hb2)
    obtain ⟨c0, c1, c2, c3⟩ := blk4 hblk
    have z0 := hblk.soft 0
    have z1 := hblk.soft 1
    have z2 := hblk.soft 2
    have z3 := hblk.soft 3
    clear hb2
    go_wp2_with fail
    obtain ⟨hblk2, hgr⟩ := blk4_set hblk (.int .i64 0) (.int .u64 0) (.string ⟨#[]⟩) (.slice none 0 0)
    generalize (((w2.setCell ⟨w.heap.size, 0, none⟩ (.int .i64 0)).setCell ⟨w.heap.size, 1, none⟩ (.int .u64 0)).setCell ⟨w.heap.size, 2, none⟩ (.string ⟨#[]⟩)).setCell ⟨w.heap.size, 3, none⟩ (.slice none 0 0) = w9 at hblk2 hgr ⊢
    obtain ⟨d0, d1, d2, d3⟩ := blk4 hblk2
    refine bodyPost_ret (v := .agg #[.int .i64 0, .int .u64 0, .string ByteArray.empty, .slice none 0 0]) (by simp [results, Try.results35, go_sem, d0, d1, d2, d3]; rfl) rfl ?_
    rw [HIT.out]
    exact ⟨none, 0, rfl, lies_leaf _ _ (by omega) (by omega) (by decide), HB2.out.trans (gr_below hgr (by have := HB2.out.size; omega) fun b hb => by cases hb; omega)⟩
  | true =>
    rw [hc] at hck
    have hit : itemOf l = setIt l := by rw [itemOf, if_pos hc]
    have hln : l.length ≤ 4096 := (of_decide_eq_true hc).1
    have HR := Lib.hid (chk_right hc)
    have HCK := Lib.hid hck
    have HIT := Lib.hid hit
    clear hck hc hit
    refine HCK.out.mono ?_
    rintro e w2 ⟨rfl, hb2⟩
    have hs2 := hb2.size
    obtain ⟨S, hS⟩ : ∃ S : Nat, 2 * n = S := ⟨_, rfl⟩
    have hw1 : IntKind.i64.wrap (2 * (n : Int)) = (S : Int) := by rw [wrap64 (by omega) (by omega)]; omega
    obtain ⟨w3, hmk, hown3, hgr3⟩ := run_make_own (P := Try.prog) w2 w1.heap.size 35 37 i0 _ 4 Try.underlying35 hi hz0 hz1 .i64 .i64 S (by rw [hz2]; omega) (by unfold maxLen; omega) (by omega)
    have hb3 := hb2.trans ((Below.refl w1.heap.size w2).grown hgr3 (by omega) (fun k hk => by cases hk))
    have HO3 := Lib.hid hown3
    have HB3 := Lib.hid hb3
    clear hb2 hown3 hgr3 hb3
    go_wp2_with fail
    clear hmk hw1
    go_loopw [3, 16] (ItRel l w1.heap.size w1) (fun _ v _ => n - (intOf v).toNat)
    case atStart => exact ⟨0, _, 0, S, rfl, rfl, Nat.zero_le _, rfl, HO3.out, HB3.out⟩
    case round =>
      obtain ⟨k, V, m, cv, rfl, rfl, hk, hm, hown, hbw⟩ := hrel
      have hsr := hbw.size
      have HM := Lib.hid hm
      have hmb : m ≤ 8192 := by omega
      clear hm
      by_cases hlt : k < n
      · obtain ⟨g, o, x, rfl, hg, hx, c0, c1⟩ := (HA0.out.below hbw).at_ hlt
        have hrx := of_decide_eq_true (HR.out x (List.mem_of_getElem? hx))
        have HX := Lib.hid (hung_snoc hx)
        have HO := Lib.hid hown
        have HBW := Lib.hid hbw
        obtain ⟨x1, x2⟩ := x
        simp only at c0 c1 hrx
        have hu1 : IntKind.u64.wrap x1 = x1 := u64_in (by omega) (by omega)
        have hu2 : IntKind.u64.wrap x2 = x2 := u64_in (by omega) (by omega)
        clear hx hown hbw
        go_wp2_with fail
        have hblk := Blk.new wr 48 #[.int .i64 x1, .int .i64 x2]
        have hbx := bel_alloc (Below.refl wr.heap.size wr) (.cells #[.int .i64 x1, .int .i64 x2] 48)
        have hsx := size_alloc wr (.cells #[.int .i64 x1, .int .i64 x2] 48)
        generalize wr.alloc (.cells #[.int .i64 x1, .int .i64 x2] 48) = W at hblk hbx hsx ⊢
        have hlt0 := hblk.lt
        have d0 : W.cell? ⟨wr.heap.size, 0, none⟩ = some (.int .i64 x1) := hblk.cell 0
        have d1 : W.cell? ⟨wr.heap.size, 1, none⟩ = some (.int .i64 x2) := hblk.cell 1
        have HK := Lib.hid hblk
        have HBX' := Lib.hid hbx
        have HC1 := Lib.hid (num_any x1)
        have HC2 := Lib.hid (num_any x2)
        have HCUR := Lib.hid (Below.drew (Below.refl W.heap.size W))
        have HNE := Lib.hid (show some wr.heap.size ≠ (Value.slice V m cv).ownBlock from fun e => by have := (HO.out.lt wr.heap.size e.symm).2; omega)
        clear hblk hbx c0 c1
        go_region_held3 (fun w' => w'.cell? ⟨wr.heap.size, 0, none⟩ = some (.int .i64 x1) ∧ w'.cell? ⟨wr.heap.size, 1, none⟩ = some (.int .i64 x2)) (first | exact HS3.out | exact ⟨(World.cell?_alloc_lt _ _ _ (Nat.lt_of_lt_of_le hlt0 HCUR.out.size)).trans ((HCUR.out.cell (p := ⟨wr.heap.size, 0, none⟩) hlt0).trans d0), (World.cell?_alloc_lt _ _ _ (Nat.lt_of_lt_of_le hlt0 HCUR.out.size)).trans ((HCUR.out.cell (p := ⟨wr.heap.size, 1, none⟩) hlt0).trans d1)⟩ | exact ⟨(HCUR.out.cell (p := ⟨wr.heap.size, 0, none⟩) hlt0).trans d0, (HCUR.out.cell (p := ⟨wr.heap.size, 1, none⟩) hlt0).trans d1⟩)
          (first
            | (go_at_call 34
               refine (HC1.out _).mono ?_
               rintro e v1 ⟨rfl, hb1⟩
               have hnow := HCUR.out.trans (hb1.mono HCUR.out.size)
               replace HCUR := Lib.hid hnow
               clear HC1 hb1 hnow)
            | (go_at_call 34
               refine (HC2.out _).mono ?_
               rintro e v2 ⟨rfl, hb1⟩
               have hnow := HCUR.out.trans (hb1.mono HCUR.out.size)
               replace HCUR := Lib.hid hnow
               have hown2 := ownsRow_below (ownsRow_below HO.out HBX'.out) HCUR.out
               have hnews := World.news_of_block (Blk.new v2 37 #[.int .i64 0, .int .u64 x1, .string ByteArray.empty, .slice none 0 0, .int .i64 0, .int .u64 x2, .string ByteArray.empty, .slice none 0 0])
               have HO2 := Lib.hid hown2
               have HNW := Lib.hid hnews
               have hsv := HCUR.out.size
               clear HC2 hb1 hnow hown2 hnews)
            | (refine step_append_lies _ rfl (.tmp 20) (.tmp 29) 35 rfl w1.heap.size 37 i0 _ 4 56 Try.underlying35 hi hz0 hz1 hz2 rfl (by omega) (.slice V m cv) m _ (by simp [Act.eval]) (HO2.out.alloc _) ⟨v2.heap.size, 0, none⟩ 2 2 [.int .i64 0, .int .u64 x1, .string ByteArray.empty, .slice none 0 0, .int .i64 0, .int .u64 x2, .string ByteArray.empty, .slice none 0 0] (by simp [Act.eval]) rfl HNW.out (by intro u hu; simp at hu; rcases hu with rfl | rfl | rfl | rfl | rfl | rfl | rfl | rfl <;> rfl) (by omega) (by unfold maxLen; omega) (by omega) (by rw [size_alloc]; omega) (v2.heap.size + 1) (size_alloc _ _) ?_
               intro g3 cap3 w3 hown3 hgrow3 _ _
               have hk3 := ((HK.out.bel HCUR.out).alloc _).grown hgrow3 HNE.out
               have s0 : w3.cell? ⟨wr.heap.size, 0, none⟩ = some (.int .i64 x1) := hk3.cell 0
               have s1 : w3.cell? ⟨wr.heap.size, 1, none⟩ = some (.int .i64 x2) := hk3.cell 1
               have HS3 := Lib.hid (And.intro s0 s1)
               have HO3 := Lib.hid hown3
               have HG3 := Lib.hid hgrow3
               clear hk3 s0 s1 hown3 hgrow3))
        have HB4 := Lib.hid (((HBW.out.trans ((HBX'.out.trans (HCUR.out.mono (by omega))).mono hsr)).alloc (by omega) _).trans (gr_below HG3.out (by rw [size_alloc]; omega) fun b hb => (HO.out.lt b hb).1))
        go_wp2_with fail
        go_roundw
        case rel =>
          refine ⟨k + 1, _, m + 2, cap3, rfl, by simp, by omega, by have := HM.out; omega, ?_, HB4.out⟩
          have e := HX.out
          rw [show ((x1, x2).1.toNat : Int) = x1 from Int.toNat_of_nonneg hrx.1, show ((x1, x2).2.toNat : Int) = x2 from Int.toNat_of_nonneg (by omega)] at e
          rw [e]
          exact HO3.out
        case measure =>
          simp [intOf]
          omega
      · have hkl : k = l.length := by omega
        subst hkl
        rw [List.take_length] at hown
        have hrow := row_own HR.out hown
        have hbk := HBX.out.below hbw (by omega)
        have HL := Lib.hid (list_more V m cv _ (its l) wr hrow (fun b hb => hb.2) (by rw [wts_its]; omega))
        have HBW := Lib.hid hbw
        have HBK := Lib.hid hbk
        clear hown hrow hbw hbk
        go_wp2_with fail
        refine HL.out.mono ?_
        rintro e w5 ⟨V5, c5, rfl, hr5, hb5⟩
        have hblk := HBK.out.bel hb5
        obtain ⟨c0, c1, c2, c3⟩ := blk4 hblk
        have z0 := hblk.soft 0
        have z1 := hblk.soft 1
        have z2 := hblk.soft 2
        have z3 := hblk.soft 3
        have HR5 := Lib.hid hr5
        have HB5 := Lib.hid hb5
        have hs5 := hb5.size
        clear hr5 hb5
        go_wp2_with fail
        obtain ⟨hblk2, hgr⟩ := blk4_set hblk (.int .i64 2) (.int .u64 0) (.string ByteArray.empty) (.slice V5 m c5)
        generalize (((w5.setCell ⟨w.heap.size, 0, none⟩ (.int .i64 2)).setCell ⟨w.heap.size, 1, none⟩ (.int .u64 0)).setCell ⟨w.heap.size, 2, none⟩ (.string ByteArray.empty)).setCell ⟨w.heap.size, 3, none⟩ (.slice V5 m c5) = w9 at hblk2 hgr ⊢
        obtain ⟨d0, d1, d2, d3⟩ := blk4 hblk2
        refine bodyPost_ret (v := .agg #[.int .i64 2, .int .u64 0, .string ByteArray.empty, .slice V5 m c5]) (by simp [results, Try.results35, go_sem, d0, d1, d2, d3]) rfl ?_
        rw [HIT.out]
        have hlen : (its l).length = m := by rw [length_its]; have := HM.out; omega
        have hs9 := hgr.size
        have hrow9 : Row w9 (fun b => w.heap.size ≤ b ∧ b < w9.heap.size) V5 m c5 (its l) := (HR5.out.grown hgr (fun b hb e => by injection e with e; rcases hb.2 with ⟨h, _⟩ | h <;> omega)).more fun b hb _ => ⟨by rcases hb.2 with ⟨h, _⟩ | h <;> omega, by omega⟩
        refine ⟨V5, c5, ?_, hrow9.lies (by omega) (by omega) (by decide), ?_⟩
        · show _ = Ending.returned (.agg #[.int .i64 2, .int .u64 ((0 : Nat) : Int), .string ByteArray.empty, .slice V5 (its l).length c5])
          rw [hlen]
          rfl
        · exact ((HB0.out.trans (HBW.out.mono (by omega))).trans (HB5.out.mono (by omega))).trans (gr_below hgr (by omega) fun b hb => by injection hb with hb; omega)
theorem item_any (l : List (Int × Int)) (A : Option Addr) (n c : Nat) (w : World) (ha : Rs w A n c l) :
    Calls Try.prog 35 #[.slice A n c] w (GivesIt w (itemOf l)) := (item_new l A n c w ha).mono fun _ _ h => h.it
end Go.Proofs.Ytccbkpdkmdnmfaa
