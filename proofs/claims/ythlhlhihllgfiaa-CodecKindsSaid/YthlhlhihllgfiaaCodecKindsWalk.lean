/-
  CodecKinds answers true: of a number, a text and a list none is the same as another one, nor has the same form.
-/
import Derived.Test.YthlhlhihllgfiaaCodecSameWalk
namespace Go.Proofs.Ythlhlhihllgfiaa
open Go.RowKit Mem Cod

theorem kinds_chk0 (u : Nat) : chk (.mk 0 u ByteArray.empty []) 0 = 0 := by simp [chk, chks, formed, It.kind, It.str, It.kids]
theorem kinds_chk1 (s : ByteArray) : chk (.mk 1 0 s []) 0 = 0 := by simp [chk, chks, formed, It.kind, It.num, It.kids]
theorem kinds_chk2 (u : Nat) (s : ByteArray) : chk (.mk 2 0 ByteArray.empty [.mk 0 u ByteArray.empty [], .mk 1 0 s []]) 0 = 0 := by simp [chk, chks, formed, It.kind, It.num, It.str, It.kids]
theorem kinds_form0 (u : Nat) : form (.mk 0 u ByteArray.empty []) = 0 :: Num.put u := by simp [form]
theorem kinds_form1 (s : ByteArray) : form (.mk 1 0 s []) = 1 :: (Num.put s.size ++ bts s) := by simp [form]
theorem kinds_form2 (u : Nat) (s : ByteArray) : form (.mk 2 0 ByteArray.empty [.mk 0 u ByteArray.empty [], .mk 1 0 s []]) = 2 :: 2 :: ((0 :: Num.put u) ++ (1 :: (Num.put s.size ++ bts s))) := by simp [form, forms, Num.put]

set_option maxRecDepth 100000 in
set_option maxHeartbeats 4000000 in
theorem codeckinds_true (v : Int) (s : ByteArray) (w : World) (hv : 0 ≤ v ∧ v ≤ 18446744073709551615) :
    Calls Try.prog 8 #[.int .u64 v, .string s] w (Tells true w) := by
  obtain ⟨u, rfl⟩ : ∃ u : Nat, v = u := ⟨v.toNat, by omega⟩
  by_cases hs : 100 < (s.size : Int)
  · go_enter Try.func8, Try.ntmps8
    go_wp2_with fail
    refine (awake_true _).mono ?_
    rintro e w2 ⟨rfl, hb2⟩
    go_wp2_with fail
    go_ret
    exact ⟨rfl, hb2⟩
  · go_enter Try.func8, Try.ntmps8
    go_wp2_with fail
    refine (num_any u w).mono ?_
    rintro e w1 ⟨rfl, hb1⟩
    go_wp2_with fail
    refine (text_any s w1).mono ?_
    rintro e w2 ⟨rfl, hb2⟩
    go_wp2_with fail
    refine (num_any u w2).mono ?_
    rintro e w3 ⟨rfl, hb3⟩
    go_wp2_with fail
    refine (text_any s w3).mono ?_
    rintro e w4 ⟨rfl, hb4⟩
    have hrow := row_lit w4 [⟨.mk 0 u ByteArray.empty [], none, 0⟩, ⟨.mk 1 0 s [], none, 0⟩] #[.int .i64 0, .int .u64 u, .string ByteArray.empty, .slice none 0 0, .int .i64 1, .int .u64 0, .string s, .slice none 0 0] 2 rfl rfl (by omega)
      (by intro h hh; simp at hh; rcases hh with rfl | rfl; exact lies_leaf _ _ (by omega) (by omega) (by show (0 : Nat) ≤ _; omega); exact lies_leaf _ _ (by omega) (by omega) (by omega))
    have HROW := Lib.hid hrow
    have hw4 := bel_trans (bel_trans (bel_trans hb1 hb2) hb3) hb4
    have HW4 := Lib.hid hw4
    clear hrow hb1 hb2 hb3 hb4 hw4
    go_wp2_with fail
    refine (list_any _ 2 2 _ _ _ HROW.out (fun b hb => by rw [size_alloc]; exact hb) (by simp [wts, wt]; omega)).mono ?_
    rintro e w5 ⟨V, cv, rfl, hr5, hb5⟩
    have hl5 : Lies w5 (fun b => b < w5.heap.size) (.mk 2 0 ByteArray.empty [.mk 0 u ByteArray.empty [], .mk 1 0 s []]) V cv := hr5.lies (by omega) (by omega) (by show (0 : Nat) ≤ _; omega)
    have HL5 := Lib.hid hl5
    have HW5 := Lib.hid (bel_trans (bel_alloc HW4.out (.cells #[.int .i64 0, .int .u64 u, .string ByteArray.empty, .slice none 0 0, .int .i64 1, .int .u64 0, .string s, .slice none 0 0] 25)) hb5)
    clear hr5 hb5 hl5 HROW
    go_wp2_with fail
    have ha0 := ((Blk.new w5 25 #[.int .i64 0, .int .u64 u, .string ByteArray.empty, .slice none 0 0]).alloc (.cells #[.int .i64 1, .int .u64 0, .string s, .slice none 0 0] 25)).alloc (.cells #[.int .i64 2, .int .u64 0, .string ByteArray.empty, .slice V 2 cv] 25)
    have hb0 := (Blk.new (w5.alloc (.cells #[.int .i64 0, .int .u64 u, .string ByteArray.empty, .slice none 0 0] 25)) 25 #[.int .i64 1, .int .u64 0, .string s, .slice none 0 0]).alloc (.cells #[.int .i64 2, .int .u64 0, .string ByteArray.empty, .slice V 2 cv] 25)
    have hc0 := Blk.new ((w5.alloc (.cells #[.int .i64 0, .int .u64 u, .string ByteArray.empty, .slice none 0 0] 25)).alloc (.cells #[.int .i64 1, .int .u64 0, .string s, .slice none 0 0] 25)) 25 #[.int .i64 2, .int .u64 0, .string ByteArray.empty, .slice V 2 cv]
    rw [size_alloc] at hb0
    rw [size_alloc, size_alloc] at hc0
    have hl6 := ((HL5.out.alloc (.cells #[.int .i64 0, .int .u64 u, .string ByteArray.empty, .slice none 0 0] 25)).alloc (.cells #[.int .i64 1, .int .u64 0, .string s, .slice none 0 0] 25)).alloc (.cells #[.int .i64 2, .int .u64 0, .string ByteArray.empty, .slice V 2 cv] 25)
    have hw6 := bel_alloc (bel_alloc (bel_alloc HW5.out (.cells #[.int .i64 0, .int .u64 u, .string ByteArray.empty, .slice none 0 0] 25)) (.cells #[.int .i64 1, .int .u64 0, .string s, .slice none 0 0] 25)) (.cells #[.int .i64 2, .int .u64 0, .string ByteArray.empty, .slice V 2 cv] 25)
    have hs6 : w5.heap.size ≤ (((w5.alloc (.cells #[.int .i64 0, .int .u64 u, .string ByteArray.empty, .slice none 0 0] 25)).alloc (.cells #[.int .i64 1, .int .u64 0, .string s, .slice none 0 0] 25)).alloc (.cells #[.int .i64 2, .int .u64 0, .string ByteArray.empty, .slice V 2 cv] 25)).heap.size := by simp only [size_alloc]; omega
    generalize (((w5.alloc (.cells #[.int .i64 0, .int .u64 u, .string ByteArray.empty, .slice none 0 0] 25)).alloc (.cells #[.int .i64 1, .int .u64 0, .string s, .slice none 0 0] 25)).alloc (.cells #[.int .i64 2, .int .u64 0, .string ByteArray.empty, .slice V 2 cv] 25)) = w6 at ha0 hb0 hc0 hl6 hw6 hs6 ⊢
    have HW6 := Lib.hid hw6
    have HL6 := Lib.hid (hl6.more (S' := fun b => b < w5.heap.size) fun b h _ => h)
    have HA := Lib.hid ha0
    have HB := Lib.hid hb0
    have HC := Lib.hid hc0
    clear ha0 hb0 hc0 hl6 hw6 HW5 HL5 HW4
    refine (put_item (.mk 0 u ByteArray.empty []) none 0 (fun _ => False) w6 (lies_leaf _ _ (by omega) (by omega) (by show (0 : Nat) ≤ _; omega)) (fun b h => h.elim) (by have := Num.size_le u (by omega); simp [form, Num.length_put]; omega)).mono ?_
    rintro e w7 ⟨P1, n1, k1, rfl, hr1, hb7⟩
    rw [kinds_chk0, if_pos rfl, kinds_form0] at hr1
    rw [kinds_chk0]
    obtain ⟨p0, p1, p2, p3⟩ := blk4 (HB.out.bel hb7)
    have HR1 := Lib.hid hr1
    have HB7 := Lib.hid hb7
    clear hr1 hb7
    go_wp2_with fail
    refine (put_item (.mk 1 0 s []) none 0 (fun _ => False) w7 (lies_leaf _ _ (by omega) (by omega) (by omega)) (fun b h => h.elim) (by have := Num.size_le s.size (by omega); simp [form, Num.length_put, length_bts]; omega)).mono ?_
    rintro e w8 ⟨P2, n2, k2, rfl, hr2, hb8⟩
    rw [kinds_chk1, if_pos rfl, kinds_form1] at hr2
    rw [kinds_chk1]
    have hw68 := bel_trans HB7.out hb8
    obtain ⟨q0, q1, q2, q3⟩ := blk4 (HC.out.bel hw68)
    have HR2 := Lib.hid hr2
    have HB8 := Lib.hid hb8
    have HW68 := Lib.hid hw68
    clear hr2 hb8 hw68 p0 p1 p2 p3
    go_wp2_with fail
    refine (put_item (.mk 2 0 ByteArray.empty [.mk 0 u ByteArray.empty [], .mk 1 0 s []]) V cv (fun b => b < w5.heap.size) w8 (HL6.out.below HW68.out fun b h => by omega) (fun b h => by have := HW68.out.size; omega) (by rw [kinds_form2]; have := Num.size_le u (by omega); have := Num.size_le s.size (by omega); simp [Num.length_put, length_bts]; omega)).mono ?_
    rintro e w9 ⟨P3, n3, k3, rfl, hr3, hb9⟩
    rw [kinds_chk2, if_pos rfl, kinds_form2] at hr3
    rw [kinds_chk2]
    have hw69 := bel_trans HW68.out hb9
    obtain ⟨a0, a1, a2, a3⟩ := blk4 (HA.out.bel hw69)
    obtain ⟨b0, b1, b2, b3⟩ := blk4 (HB.out.bel hw69)
    have hr1' := (HR1.out.below HB8.out).below hb9
    have hr2' := HR2.out.below hb9
    have hn1 := hr1'.len
    have hn2 := hr2'.len
    have hn3 := hr3.len
    rw [length_cs] at hn1 hn2 hn3
    have hl1 : (n3 : Int) = (n1 : Int) + n2 + 2 := by rw [← hn1, ← hn2, ← hn3]; simp; omega
    have hs1 := Num.size_le u (by omega)
    have hs2 := Num.size_le s.size (by omega)
    have hm1 : n1 ≤ 1000 := by rw [← hn1]; simp [Num.length_put]; omega
    have hm2 : n2 ≤ 1000 := by rw [← hn2]; simp [Num.length_put, length_bts]; omega
    have HR1' := Lib.hid hr1'
    have HR2' := Lib.hid hr2'
    have HR3 := Lib.hid hr3
    have HW69 := Lib.hid hw69
    clear hr1' hr2' hr3 hw69 hb9 hn1 hn2 hn3 hs1 hs2 q0 q1 q2 q3 HR1 HR2 HB7 HB8 HW68
    go_wp2_with fail
    refine (same_item (.mk 0 u ByteArray.empty []) (.mk 1 0 s []) none none 0 0 (fun b => b < w5.heap.size) w9 (lies_leaf _ _ (by omega) (by omega) (by show (0 : Nat) ≤ _; omega)) (lies_leaf _ _ (by omega) (by omega) (by omega)) (fun b h => by have := HW69.out.size; omega) (by simp [wt, wts])).mono ?_
    rw [show same (.mk 0 u ByteArray.empty []) (.mk 1 0 s []) = false by simp [same]]
    rintro e w10 ⟨rfl, hb10⟩
    have hw610 := bel_trans HW69.out hb10
    obtain ⟨d0, d1, d2, d3⟩ := blk4 (HB.out.bel hw610)
    obtain ⟨e0, e1, e2, e3⟩ := blk4 (HC.out.bel hw610)
    have HB10 := Lib.hid hb10
    have HW610 := Lib.hid hw610
    clear hb10 hw610 a0 a1 a2 a3 b0 b1 b2 b3
    go_wp2_with fail
    refine (same_item (.mk 1 0 s []) (.mk 2 0 ByteArray.empty [.mk 0 u ByteArray.empty [], .mk 1 0 s []]) none V 0 cv (fun b => b < w5.heap.size) w10 (lies_leaf _ _ (by omega) (by omega) (by omega)) (HL6.out.below HW610.out fun b h => by omega) (fun b h => by have := HW69.out.size; have := HW610.out.size; omega) (by simp [wt, wts]; omega)).mono ?_
    rw [show same (.mk 1 0 s []) (.mk 2 0 ByteArray.empty [.mk 0 u ByteArray.empty [], .mk 1 0 s []]) = false by simp [same]]
    rintro e w11 ⟨rfl, hb11⟩
    have hw611 := bel_trans HW610.out hb11
    obtain ⟨a0, a1, a2, a3⟩ := blk4 (HA.out.bel hw611)
    obtain ⟨b0, b1, b2, b3⟩ := blk4 (HC.out.bel hw611)
    have HB11 := Lib.hid hb11
    have HW611 := Lib.hid hw611
    clear hb11 hw611 d0 d1 d2 d3 e0 e1 e2 e3
    go_wp2_with fail
    refine (same_item (.mk 0 u ByteArray.empty []) (.mk 2 0 ByteArray.empty [.mk 0 u ByteArray.empty [], .mk 1 0 s []]) none V 0 cv (fun b => b < w5.heap.size) w11 (lies_leaf _ _ (by omega) (by omega) (by show (0 : Nat) ≤ _; omega)) (HL6.out.below HW611.out fun b h => by omega) (fun b h => by have := HW69.out.size; have := HW611.out.size; omega) (by simp [wt, wts])).mono ?_
    rw [show same (.mk 0 u ByteArray.empty []) (.mk 2 0 ByteArray.empty [.mk 0 u ByteArray.empty [], .mk 1 0 s []]) = false by simp [same]]
    rintro e w12 ⟨rfl, hb12⟩
    have hnn : ((n3 : Int) != (n1 : Int) + n2 + 2) = false := by rw [bne_eq_false_iff_eq]; omega
    have HW9C := Lib.hid (bel_trans (bel_trans HB10.out HB11.out) hb12)
    have HRA := Lib.hid (HR1'.out.below HW9C.out)
    have HRB := Lib.hid (HR2'.out.below HW9C.out)
    have HRC := Lib.hid (HR3.out.below HW9C.out)
    have HWC := Lib.hid (bel_trans HW6.out (bel_trans HW611.out hb12))
    clear hb12 a0 a1 a2 a3 b0 b1 b2 b3 HW9C HW611 HW610 HB10 HB11 HW69 HR1' HR2' HR3 HA HB HC HL6
    go_wp2_with fail
    -- region 9
    obtain ⟨i0, hi, hz0, hz1, hz2⟩ := info_parts info5
    have hN1 := HRA.out.len
    have hN2 := HRB.out.len
    rw [length_cs] at hN1 hN2
    have h1p : 0 < n1 := by rw [← hN1]; simp
    have h2p : 0 < n2 := by rw [← hN2]; simp
    obtain ⟨ad1, rfl, _, _⟩ := HRA.out.spot h1p
    obtain ⟨ad2, rfl, _, _⟩ := HRB.out.spot h2p
    have hcut := run_cut (P := Try.prog) 28 Try.underlying28 (fun w => by kernel_rfl) P3 n3 k3 2 (by omega)
    have hRC : ∀ W : World, Below w12.heap.size w12 W → Rd W (cutA P3 k3 2) (n3 - 2) (k3 - 2) (cs ((0 :: Num.put u) ++ (1 :: (Num.put s.size ++ bts s)))) := fun W h => by
      have := (HRC.out.below h).cut (show 2 ≤ n3 by omega)
      rwa [cs_drop] at this
    rw [show (((2 : Nat) : Nat) : Int) = 2 by rfl] at hcut
    generalize hL1 : (0 :: Num.put u) = L1 at HRA hN1 hRC
    generalize hL2 : (1 :: (Num.put s.size ++ bts s)) = L2 at HRB hN2 hRC
    refine wp_region_any (by kernel_rfl) ?_
    change wpAny _ _ _ _ _ _ _ (World.drew _)
    refine wpAny_take (i := 0) (v := .slice (some ad1) n1 k1) rfl (by kernel_rfl) (by kernel_rfl) (by kernel_rfl) (fun _ _ _ h => h) (Or.inl ⟨by kernel_rfl, fun w => by go_simp⟩) ?_
    refine wpAny_take (i := 1) (v := .slice (some ad2) n2 k2) rfl (by kernel_rfl) (by kernel_rfl) (by kernel_rfl) (fun _ _ _ h => h) (Or.inl ⟨by kernel_rfl, fun w => by go_simp⟩) ?_
    refine wpAny_ready (rs := [2]) (by kernel_rfl) (by simp) ?_
    refine AllReady.cons rfl (fun K hK => ?_) AllReady.nil
    go_simp
    refine (same_tells (some ad1) (some ad2) n1 n2 k1 k2 _ _ false _ (show Rd w12.drew _ _ _ _ from HRA.out.drewN 1) (show Rd w12.drew _ _ _ _ from HRB.out.drewN 1) (by rw [← hL1, ← hL2]; simp)).mono ?_
    rintro e wS ⟨rfl, hbS⟩
    have hwS : Below w12.heap.size w12 wS := (Below.refl _ _).drew.trans hbS
    have hsS : w12.heap.size ≤ wS.heap.size := hwS.size
    refine hK _ _ ?_
    clear hK K
    refine wpAny_take (i := 3) (v := .bool true) rfl (by kernel_rfl) (by kernel_rfl) (by kernel_rfl) (fun _ _ _ h => h) (Or.inl ⟨by kernel_rfl, fun w => by go_simp⟩) ?_
    refine wpAny_take (i := 4) (v := .bool true) rfl (by kernel_rfl) (by kernel_rfl) (by kernel_rfl) (fun _ _ _ h => h) (Or.inl ⟨by kernel_rfl, fun w => by go_simp⟩) ?_
    refine wpAny_take (i := 5) (v := .slice P3 n3 k3) rfl (by kernel_rfl) (by kernel_rfl) (by kernel_rfl) (fun _ _ _ h => h) (Or.inl ⟨by kernel_rfl, fun w => by go_simp⟩) ?_
    refine wpAny_take (i := 6) (v := .slice (cutA P3 k3 2) (n3 - 2) (k3 - 2)) rfl (by kernel_rfl) (by kernel_rfl) (by kernel_rfl) (fun _ _ _ h => h) (Or.inl ⟨by kernel_rfl, fun w => by go_simp⟩) ?_
    refine wpAny_take (i := 8) (v := .slice (some ad1) n1 k1) rfl (by kernel_rfl) (by kernel_rfl) (by kernel_rfl) (fun _ _ _ h => h) (Or.inl ⟨by kernel_rfl, fun w => by go_simp⟩) ?_
    refine wpAny_take (i := 10) (v := .slice (some ad2) n2 k2) rfl (by kernel_rfl) (by kernel_rfl) (by kernel_rfl) (fun _ _ _ h => h) (Or.inl ⟨by kernel_rfl, fun w => by go_simp⟩) ?_
    refine wpAny_ready (rs := [7]) (by kernel_rfl) (by simp) ?_
    refine AllReady.cons rfl (fun K hK => ?_) AllReady.nil
    go_simp
    refine hK _ _ ?_
    clear hK K
    refine wpAny_ready (rs := [9]) (by kernel_rfl) (by simp) ?_
    refine AllReady.cons rfl (fun K hK => ?_) AllReady.nil
    rw [if_pos (by kernel_rfl)]
    refine wp_append_lies _ (.tmp 86) (.tmp 87) 28 rfl w12.heap.size 5 i0 _ 1 1 Try.underlying28 hi hz0 hz1 hz2 rfl (by omega) (.slice (some ⟨wS.heap.size, 0, none⟩) 0 0) 0 [] (by kernel_rfl) (World.ownsRow_lit (base := w12.heap.size) (e := 5) (size := 1) wS #[] 0 hsS (by simp [maxLen]) rfl) ad1 n1 k1 (cs L1) (by kernel_rfl) (by rw [length_cs, hN1, Nat.mul_one]) (((HRA.out.below hwS).alloc _).cells _ rfl) (cs_one _) (by omega) (by unfold maxLen; omega) (by omega) (by rw [size_alloc]; omega) (wS.heap.size + 1) (by rw [size_alloc]) ?_
    intro gA capA wA hownA hgA hatA hltA
    have hwA : Below w12.heap.size w12 wA := (bel_alloc hwS _).trans (gr_below hgA (by rw [size_alloc]; omega) fun b hb => by simp [Value.ownBlock] at hb; omega)
    have hsA : w12.heap.size ≤ wA.heap.size := hwA.size
    refine hK _ _ ?_
    clear hK K
    refine wpAny_ready (rs := [11]) (by kernel_rfl) (by simp) ?_
    refine AllReady.cons rfl (fun K hK => ?_) AllReady.nil
    rw [if_pos (by kernel_rfl)]
    refine wp_append_lies _ (.tmp 88) (.tmp 89) 28 rfl w12.heap.size 5 i0 _ 1 1 Try.underlying28 hi hz0 hz1 hz2 rfl (by omega) (.slice (some ⟨gA, 0, none⟩) (0 + n1) capA) (0 + n1) ([] ++ cs L1) (by kernel_rfl) hownA ad2 n2 k2 (cs L2) (by kernel_rfl) (by rw [length_cs, hN2, Nat.mul_one]) ((HRB.out.below hwA).cells _ rfl) (cs_one _) (by omega) (by unfold maxLen; omega) (by omega) hsA _ rfl ?_
    intro gB capB wB hownB hgB hatB hltB
    have hwB : Below w12.heap.size w12 wB := hwA.trans (gr_below hgB hsA fun b hb => (hownA.lt b hb).1)
    refine hK _ _ ?_
    clear hK K
    refine wpAny_ready (rs := [12]) (by kernel_rfl) (by simp) ?_
    refine AllReady.cons rfl (fun K hK => ?_) AllReady.nil
    go_simp
    refine (same_tells _ _ _ _ _ _ _ _ true _ (hRC wB hwB) (by have := Rd.own hownB; rw [List.nil_append, ← cs_append, Nat.zero_add] at this; exact this) (by simp)).mono ?_
    rintro e wT ⟨rfl, hbT⟩
    refine hK _ _ ?_
    clear hK K
    refine wpAny_take (i := 13) (v := .bool true) rfl (by kernel_rfl) (by kernel_rfl) (by kernel_rfl) (fun _ _ _ h => h) (Or.inl ⟨by kernel_rfl, fun w => by go_simp⟩) ?_
    refine wpAny_take (i := 14) (v := .bool true) rfl (by kernel_rfl) (by kernel_rfl) (by kernel_rfl) (fun _ _ _ h => h) (Or.inl ⟨by kernel_rfl, fun w => by go_simp⟩) ?_
    refine wpAny_ready (rs := [15]) (by kernel_rfl) (by simp) ?_
    refine AllReady.cons rfl (fun K hK => ?_) AllReady.nil
    go_simp
    refine (awake_true _).mono ?_
    rintro e wU ⟨rfl, hbU⟩
    refine hK _ _ ?_
    clear hK K
    refine wpAny_take (i := 16) (v := .bool true) rfl (by kernel_rfl) (by kernel_rfl) (by kernel_rfl) (fun _ _ _ h => h) (Or.inl ⟨by kernel_rfl, fun w => by go_simp⟩) ?_
    refine wpAny_take (i := 17) (v := .bool true) rfl (by kernel_rfl) (by kernel_rfl) (by kernel_rfl) (fun _ _ _ h => h) (Or.inl ⟨by kernel_rfl, fun w => by go_simp⟩) ?_
    refine wpAny_done (by kernel_rfl) ?_ _
    go_wp2
    go_ret
    exact ⟨rfl, bel_trans (bel_trans (HWC.out.trans (hwB.mono HWC.out.size)) hbT) hbU⟩
end Go.Proofs.Ythlhlhihllgfiaa
