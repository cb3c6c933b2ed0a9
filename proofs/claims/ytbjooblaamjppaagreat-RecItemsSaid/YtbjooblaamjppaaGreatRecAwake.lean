/-
  Texts of earlier layers, as one.
-/
import Derived.Test.YtbjooblaamjppaaGreatRecBack
import Derived.Test.YtbjooblaamjppaaGreatRecSame
import Derived.Deep.Cut
/- The document's example. -/
namespace Go.Proofs.YtbjooblaamjppaaGreat.Rk
open Go.RowKit Mem Ids Att Cod

theorem aw0 : rgt ⟨(2, 1), 0, (3, 1), (0, 0), ⟨0, 0, 0, ⟨#[]⟩, ⟨#[]⟩, 0⟩, ⟨[], 0, 0⟩⟩ = true := by decide +kernel
theorem aw9 : rchk ⟨(0, 0), 9, (0, 0), (0, 0), ⟨0, 0, 0, ⟨#[]⟩, ⟨#[]⟩, 0⟩, ⟨[], 0, 0⟩⟩ = 4 := by decide +kernel
set_option maxRecDepth 100000 in
set_option maxHeartbeats 8000000 in
theorem awake_any (w : World) : Calls Tryz.prog 6 #[] w (Tells true w) := by
  have hb := bel_alloc (Below.refl w.heap.size w) (.cells #[.int .i64 2, .int .i64 1, .int .i64 0, .int .i64 3, .int .i64 1, .int .i64 0, .int .i64 0, .int .i64 0, .int .i64 0, .int .i64 0, .string ⟨#[]⟩, .string ⟨#[]⟩, .int .i64 0, .slice none 0 0, .int .i64 0, .int .i64 0] 32)
  have hk := Blk.new w 32 #[.int .i64 2, .int .i64 1, .int .i64 0, .int .i64 3, .int .i64 1, .int .i64 0, .int .i64 0, .int .i64 0, .int .i64 0, .int .i64 0, .string ⟨#[]⟩, .string ⟨#[]⟩, .int .i64 0, .slice none 0 0, .int .i64 0, .int .i64 0]
  obtain ⟨W, hW⟩ : ∃ W, w.alloc (.cells #[.int .i64 2, .int .i64 1, .int .i64 0, .int .i64 3, .int .i64 1, .int .i64 0, .int .i64 0, .int .i64 0, .int .i64 0, .int .i64 0, .string ⟨#[]⟩, .string ⟨#[]⟩, .int .i64 0, .slice none 0 0, .int .i64 0, .int .i64 0] 32) = W := ⟨_, rfl⟩
  rw [hW] at hb hk
  have hit := item_any 2 1 0 3 1 0 0 0 0 0 ⟨#[]⟩ ⟨#[]⟩ 0 none 0 0 0 0 [] W (Rs.nil_ W)
  have hln := len_recItem ⟨(2, 1), 0, (3, 1), (0, 0), ⟨0, 0, 0, ⟨#[]⟩, ⟨#[]⟩, 0⟩, ⟨[], 0, 0⟩⟩
  have htb := rec_back aw0
  generalize recItem ⟨(2, 1), 0, (3, 1), (0, 0), ⟨0, 0, 0, ⟨#[]⟩, ⟨#[]⟩, 0⟩, ⟨[], 0, 0⟩⟩ = x at hit hln htb
  have hc0 : ∀ w, Calls Tryz.prog 19 #[.agg #[.int .i64 2, .int .i64 1, .int .i64 0, .int .i64 3, .int .i64 1, .int .i64 0, .int .i64 0, .int .i64 0, .int .i64 0, .int .i64 0, .string ⟨#[]⟩, .string ⟨#[]⟩, .int .i64 0, .slice none 0 0, .int .i64 0, .int .i64 0]] w (Checks 0 w) := fun w => by
    have h := rcheck_any 2 1 0 3 1 0 0 0 0 0 ⟨#[]⟩ ⟨#[]⟩ 0 none 0 0 0 0 [] w (Rs.nil_ w)
    rw [rchk, if_pos aw0] at h
    exact h
  have hc9 : ∀ w, Calls Tryz.prog 19 #[.agg #[.int .i64 0, .int .i64 0, .int .i64 9, .int .i64 0, .int .i64 0, .int .i64 0, .int .i64 0, .int .i64 0, .int .i64 0, .int .i64 0, .string ⟨#[]⟩, .string ⟨#[]⟩, .int .i64 0, .slice none 0 0, .int .i64 0, .int .i64 0]] w (Checks 4 w) := fun w => by
    have h := rcheck_any 0 0 9 0 0 0 0 0 0 0 ⟨#[]⟩ ⟨#[]⟩ 0 none 0 0 0 0 [] w (Rs.nil_ w)
    rw [aw9] at h
    exact h
  have HW := Lib.hid hW
  have HB := Lib.hid hb
  have HK := Lib.hid hk
  have HIT := Lib.hid hit
  have HLN := Lib.hid hln
  have HTB := Lib.hid htb
  have HC0 := Lib.hid hc0
  have HC9 := Lib.hid hc9
  clear hb hk hW hit hln htb hc0 hc9
  go_enter Tryz.func6, Tryz.ntmps6
  go_upto_region 2 with fail
  rw [HW.out]
  go_wp2_with (refine wpList_load_blk_w 32 _ rfl w.heap.size 32 #[.int .i64 2, .int .i64 1, .int .i64 0, .int .i64 3, .int .i64 1, .int .i64 0, .int .i64 0, .int .i64 0, .int .i64 0, .int .i64 0, .string ⟨#[]⟩, .string ⟨#[]⟩, .int .i64 0, .slice none 0 0, .int .i64 0, .int .i64 0] _ rfl (by rfl) HK.out Tryz.underlying32 rfl (by kernel_rfl) ?_)
  refine HIT.out.mono ?_
  rintro e w1 ⟨V, c, rfl, hl, hb1⟩
  have htk := take_any x V c _ w1 hl (fun b hb => hb.2) HLN.out
  rw [HTB.out] at htk
  have HTK := Lib.hid htk
  have HB1 := Lib.hid (bel_trans HB.out hb1)
  replace HK := Lib.hid (HK.out.bel hb1)
  clear htk hl hb1 HIT HLN HTB
  go_wp2_with fail
  refine HTK.out.mono ?_
  rintro e w2 ⟨q, D, nd, cd, rfl, hq, hrs, hnew, hb2⟩
  have hq' : q = ⟨(2, 1), 0, (3, 1), (0, 0), ⟨0, 0, 0, ⟨#[]⟩, ⟨#[]⟩, 0⟩, ⟨[], 0, 0⟩⟩ := hq
  subst hq'
  simp only [Option.isSome] at hrs ⊢
  have CR : Array Value := #[]
  have hb3 := bel_alloc (bel_trans HB1.out hb2) (.cells #[.int .i64 2, .int .i64 1, .int .i64 0, .int .i64 3, .int .i64 1, .int .i64 0, .int .i64 0, .int .i64 0, .int .i64 0, .int .i64 0, .string ⟨#[]⟩, .string ⟨#[]⟩, .int .i64 0, .slice D nd cd, .int .i64 0, .int .i64 0] 32)
  have hk3 := (HK.out.bel hb2).alloc (.cells #[.int .i64 2, .int .i64 1, .int .i64 0, .int .i64 3, .int .i64 1, .int .i64 0, .int .i64 0, .int .i64 0, .int .i64 0, .int .i64 0, .string ⟨#[]⟩, .string ⟨#[]⟩, .int .i64 0, .slice D nd cd, .int .i64 0, .int .i64 0] 32)
  have hj3 := Blk.new w2 32 #[.int .i64 2, .int .i64 1, .int .i64 0, .int .i64 3, .int .i64 1, .int .i64 0, .int .i64 0, .int .i64 0, .int .i64 0, .int .i64 0, .string ⟨#[]⟩, .string ⟨#[]⟩, .int .i64 0, .slice D nd cd, .int .i64 0, .int .i64 0]
  have hr3 := hrs.alloc (.cells #[.int .i64 2, .int .i64 1, .int .i64 0, .int .i64 3, .int .i64 1, .int .i64 0, .int .i64 0, .int .i64 0, .int .i64 0, .int .i64 0, .string ⟨#[]⟩, .string ⟨#[]⟩, .int .i64 0, .slice D nd cd, .int .i64 0, .int .i64 0] 32)
  obtain ⟨W3, hW3⟩ : ∃ W, w2.alloc (.cells #[.int .i64 2, .int .i64 1, .int .i64 0, .int .i64 3, .int .i64 1, .int .i64 0, .int .i64 0, .int .i64 0, .int .i64 0, .int .i64 0, .string ⟨#[]⟩, .string ⟨#[]⟩, .int .i64 0, .slice D nd cd, .int .i64 0, .int .i64 0] 32) = W := ⟨_, rfl⟩
  rw [hW3] at hb3 hk3 hj3 hr3
  have HW3 := Lib.hid hW3
  replace HB := Lib.hid hb3
  replace HK := Lib.hid hk3
  have HJ := Lib.hid hj3
  have HR := Lib.hid hr3
  clear CR hb3 hk3 hj3 hr3 hW3 hrs hnew hb2 hq HTK HB1
  go_upto_region 3 with fail
  rw [HW3.out]
  go_wp2_with (refine wpList_load_blk_w 32 _ rfl w.heap.size 32 #[.int .i64 2, .int .i64 1, .int .i64 0, .int .i64 3, .int .i64 1, .int .i64 0, .int .i64 0, .int .i64 0, .int .i64 0, .int .i64 0, .string ⟨#[]⟩, .string ⟨#[]⟩, .int .i64 0, .slice none 0 0, .int .i64 0, .int .i64 0] _ rfl (by rfl) HK.out Tryz.underlying32 rfl (by kernel_rfl) ?_)
  refine (HC0.out _).mono ?_
  rintro e w4 ⟨rfl, hb4⟩
  replace HB := Lib.hid (bel_trans HB.out hb4)
  replace HK := Lib.hid (HK.out.bel hb4)
  replace HJ := Lib.hid (HJ.out.bel hb4)
  replace HR := Lib.hid (HR.out.below hb4)
  clear hb4 HC0 HW3
  have hsm := rsame_any 2 1 0 3 1 0 0 0 0 0 ⟨#[]⟩ ⟨#[]⟩ 0 D nd cd 0 0 [] 2 1 0 3 1 0 0 0 0 0 ⟨#[]⟩ ⟨#[]⟩ 0 none 0 0 0 0 [] w4 HR.out (Rs.nil_ w4)
  rw [rsame_refl] at hsm
  have HSM := Lib.hid hsm
  clear hsm
  go_wp2_with (first | (refine wpList_load_blk_w 32 _ rfl w.heap.size 32 #[.int .i64 2, .int .i64 1, .int .i64 0, .int .i64 3, .int .i64 1, .int .i64 0, .int .i64 0, .int .i64 0, .int .i64 0, .int .i64 0, .string ⟨#[]⟩, .string ⟨#[]⟩, .int .i64 0, .slice none 0 0, .int .i64 0, .int .i64 0] _ rfl (by rfl) HK.out Tryz.underlying32 rfl (by kernel_rfl) ?_) | (refine wpList_load_blk_w 32 _ rfl w2.heap.size 32 #[.int .i64 2, .int .i64 1, .int .i64 0, .int .i64 3, .int .i64 1, .int .i64 0, .int .i64 0, .int .i64 0, .int .i64 0, .int .i64 0, .string ⟨#[]⟩, .string ⟨#[]⟩, .int .i64 0, .slice D nd cd, .int .i64 0, .int .i64 0] _ rfl (by rfl) HJ.out Tryz.underlying32 rfl (by kernel_rfl) ?_))
  refine HSM.out.mono ?_
  rintro e w5 ⟨rfl, hb5⟩
  replace HB := Lib.hid (bel_trans HB.out hb5)
  clear hb5 HSM
  go_wp2_with fail
  refine (HC9.out _).mono ?_
  rintro e w6 ⟨rfl, hb6⟩
  replace HB := Lib.hid (bel_trans HB.out hb6)
  clear hb6 HC9
  go_wp2_with fail
  go_ret
  exact ⟨rfl, HB.out⟩
end Go.Proofs.YtbjooblaamjppaaGreat.Rk
