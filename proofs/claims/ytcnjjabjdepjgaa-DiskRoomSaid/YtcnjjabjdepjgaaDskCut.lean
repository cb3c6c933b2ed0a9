/-
  Texts of earlier layers, as one.
-/
import Derived.Test.YtcnjjabjdepjgaaDskMove
import Derived.Test.YtcnjjabjdepjgaaRBase
import Derived.Deep.RegionHeld
import Derived.Deep.Cut
/- The document's Cut. -/
namespace Go.Proofs.Ytcnjjabjdepjgaa.Dsk
open Go.RowKit Mem Cod

theorem RdS.take {S : Nat → Prop} {w : World} {A : Option Addr} {n c k : Nat} {bs : List Nat} (h : RdS S w A n c bs) (hk : k ≤ n) : RdS S w A k c (bs.take k) := by
  refine ⟨?_, fun h0 => h.2 (by omega)⟩
  have h1 := h.1.take hk
  rw [cs_take] at h1
  exact h1
set_option maxRecDepth 20000 in
set_option maxHeartbeats 8000000 in
theorem cut_any (g : Nat) (S : Nat → Prop) (d : Dk) (s : ByteArray) (nn : Int) (w : World) (h : IsRef w S g d) (hfine : Fine d) :
    Calls Try.prog 33 #[.pointer (some ⟨g, 0, none⟩), .string s, .int .i64 nn] w (RefDoes g S (whole (doCut s nn) d) w) := by
  have hir := h
  obtain ⟨A, c, hb, hSg, hlt, hown, hfi⟩ := h
  have hdd := deed_any g (.slice A d.fs.length c) d w hb hfine.2.2
  have hfd := hfine.deed
  have hfs := (deed_fs d).1
  have hroom := (deed_fs d).2
  obtain ⟨T, hT⟩ : ∃ T, whole (doCut s nn) d = T := ⟨_, rfl⟩
  rw [hT]
  unfold whole at hT
  have hdn : fails d = true → deed d = { d with dn := true } := fun h => by unfold deed; rw [if_pos h]
  obtain ⟨d1, hd1⟩ : ∃ d1, deed d = d1 := ⟨_, rfl⟩
  rw [hd1] at hdd hfd hfs hroom hT
  have hir1 : ∀ u, w.grownBy u (some g) → Blk u g 60 #[.slice A d.fs.length c, .int .i64 d1.room, .int .i64 d1.fuse, .bool d1.dn] → IsRef u S g d1 := fun u hu hbu => by
    refine IsRef.mk hbu hSg (fun k hk => Nat.lt_of_lt_of_le (hlt k hk) hu.size) hown ?_
    rw [hfs]
    exact hfi.keep hu.size (fun b hb hl => ⟨hb, hu.block b hl fun e => hb.2 (by injection e)⟩) fun b hb => hu.block b (files_lt hfi b hb) fun e => (hown b hb).2 (by injection e)
  have hk1 : ∀ u, w.grownBy u (some g) → Keeps S w u := fun u hu => Keeps.ofGrown hu hSg
  generalize fails d = t at hdd hT
  have HDD := Lib.hid hdd
  have HT := Lib.hid hT
  have HIR := Lib.hid hir1
  have HKP := Lib.hid hk1
  have HFD := Lib.hid hfd
  have HSG := Lib.hid hSg
  clear hdd hT hir1 hk1 hfd hfs hroom hir hb hlt hown hfi hfine hd1 hdn hSg
  go_enter Try.func33, Try.ntmps33
  go_wp2_with fail
  refine HDD.out.mono ?_
  rintro e w1 ⟨rfl, hb1, hg1⟩
  have HI1 := Lib.hid (HIR.out w1 hg1 hb1)
  have HK1 := Lib.hid (HKP.out w1 hg1)
  clear hb1 hg1 HDD HIR HKP
  cases t with
  | true =>
    go_wp2_with fail
    go_ret
    have hT := HT.out
    rw [if_pos (by first | rfl | trivial)] at hT
    subst hT
    exact ⟨rfl, S, HI1.out, Grew.refl S w, HK1.out⟩
  | false =>
    have hT := HT.out
    rw [if_neg (by simp)] at hT
    have HT1 := Lib.hid hT
    clear hT HT
    clear A c
    obtain ⟨A, c, hb, hSg, hlt, hown, hfi⟩ := HI1.out
    have hn16 := HFD.out.length
    have hus := HFD.out.used
    obtain ⟨n, hn⟩ : ∃ n, d1.fs.length = n := ⟨_, rfl⟩
    rw [hn] at hb hown hfi hn16
    have HN := Lib.hid hn
    have HBK := Lib.hid hb
    have HLT := Lib.hid hlt
    have HOW := Lib.hid hown
    have HFI := Lib.hid hfi
    clear hb hlt hown hfi hn hSg
    go_wp2_with fail
    refine (at_any g A n c _ _ _ d1.fs _ s w1 HBK.out HFI.out).mono ?_
    rintro e u ⟨rfl, hu⟩
    replace hu := hu.symm
    subst hu
    rw [atI_eq]
    obtain ⟨P, hP⟩ : ∃ P, place d1.fs s = P := ⟨_, rfl⟩
    rw [hP]
    have HPL := Lib.hid hP
    clear hP
    cases P with
    | none =>
      have e0 : iOf none = -1 := rfl
      have b0 : decide ((-1 : Int) < 0) = true := rfl
      go_wp2_with fail
      go_ret
      have hT := HT1.out
      unfold doCut at hT
      rw [HPL.out] at hT
      subst hT
      exact ⟨rfl, S, HI1.out, Grew.refl S w, HK1.out⟩
    | some i =>
      have e0 : iOf (some i) = (i : Int) := rfl
      have b0 : decide ((i : Int) < 0) = false := decide_eq_false (by omega)
      obtain ⟨f, hfk, hnm⟩ := place_some HPL.out
      obtain ⟨gr, o, SA, sc, TA, tc, rfl, ho0, hgr, q0, q1, q2, r1, r2⟩ := HFI.out.at_ hfk
      subst ho0
      rw [Nat.zero_add] at q0 q1 q2
      have hin : i < n := by rw [← HN.out]; exact (List.getElem?_eq_some_iff.1 hfk).1
      have hle := len_used hfk
      have hal := all_any f.nm SA TA f.sure.length sc f.tail.length tc f.sure f.tail w1 r1.1 r2.1 (by omega) (by omega)
      have hga : d1.fs.getD i ⟨s, [], []⟩ = f := by rw [List.getD_eq_getElem?_getD, hfk]; rfl
      have hgl := HBK.out.lt
      have b2 : decide ((n : Int) ≤ (i : Int)) = false := decide_eq_false (by omega)
      have b3 : ¬ n ≤ i := by omega
      have c0 := (cells_dk HBK.out).1
      have HC0 := Lib.hid c0
      have HAL := Lib.hid hal
      have HGA := Lib.hid hga
      have HFK := Lib.hid hfk
      clear hfk hnm r1 r2 hal hga
      go_wp2_with fail
      refine HAL.out.mono ?_
      rintro e u7 ⟨V7, c7, rfl, ho7, hb7⟩
      have HO7 := Lib.hid ho7
      have HB7 := Lib.hid hb7
      clear ho7 hb7 q0 q1 q2 c0
      have hlen : f.all.length = f.sure.length + f.tail.length := List.length_append
      by_cases hneg : nn < 0
      · have b4 : decide (nn < 0) = true := decide_eq_true hneg
        go_wp2_with fail
        go_ret
        have hT := HT1.out
        unfold doCut at hT
        rw [HPL.out] at hT
        simp only at hT
        rw [HGA.out, if_pos (.inl hneg)] at hT
        subst hT
        exact ⟨rfl, S, HI1.out.below HB7.out, Grew.refl S w, HK1.out.trans (Keeps.ofBelow HB7.out) (Grew.refl S w)⟩
      have b4 : decide (nn < 0) = false := decide_eq_false hneg
      obtain ⟨k, rfl⟩ : ∃ k : Nat, nn = (k : Int) := ⟨nn.toNat, by omega⟩
      by_cases hbig : f.sure.length + f.tail.length < k
      · have b5 : decide (((f.sure.length + f.tail.length : Nat) : Int) < (k : Int)) = true := decide_eq_true (by omega)
        go_wp2_with fail
        go_ret
        have hT := HT1.out
        unfold doCut at hT
        rw [HPL.out] at hT
        simp only at hT
        rw [HGA.out, if_pos (.inr (by rw [hlen]; omega))] at hT
        subst hT
        exact ⟨rfl, S, HI1.out.below HB7.out, Grew.refl S w, HK1.out.trans (Keeps.ofBelow HB7.out) (Grew.refl S w)⟩
      have b5 : decide (((f.sure.length + f.tail.length : Nat) : Int) < (k : Int)) = false := decide_eq_false (by omega)
      have hrd : RdS (fun b => ((S b ∨ w1.heap.size ≤ b ∧ b < u7.heap.size) ∧ b ≠ g) ∧ b ≠ gr) u7 V7 (f.sure.length + f.tail.length) c7 (f.sure ++ f.tail) := RdS.new HO7.out fun b hb hlt => ⟨⟨.inr ⟨hb, hlt⟩, by omega⟩, by omega⟩
      have hcap := And.intro hrd.1.le hrd.1.cap
      unfold maxLen at hcap
      have hrk := hrd.take (k := k) (by omega)
      have hkl : ((f.sure ++ f.tail).take k).length = k := by rw [List.length_take, List.length_append]; omega
      have hf7 := (HFI.out.below HB7.out).more (S' := fun b => (S b ∨ w1.heap.size ≤ b ∧ b < u7.heap.size) ∧ b ≠ g) fun b hb _ => ⟨.inl hb.1, hb.2⟩
      have hput : Files (fun b => (S b ∨ w1.heap.size ≤ b ∧ b < u7.heap.size) ∧ b ≠ g) (u7.setCell ⟨gr, i * 3 + 1, none⟩ (.slice V7 k c7)).drew (some ⟨gr, 0, none⟩) n c (d1.fs.set i { f with sure := (f.sure ++ f.tail).take k }) ∧ u7.grownBy (u7.setCell ⟨gr, i * 3 + 1, none⟩ (.slice V7 k c7)).drew (some gr) := by
        have h := files_sure (bs := (f.sure ++ f.tail).take k) (NA := V7) (nc := c7) hf7 HFK.out (by rw [hkl]; exact hrk)
        rw [hkl] at h
        exact ⟨h.1.below (Below.refl _ _).drew, gr_drew h.2⟩
      have hgg : ¬ g = gr := fun e => (HOW.out gr rfl).2 e.symm
      have hgrow : ∃ v, u7.cell? ⟨gr, i * 3 + 1, none⟩ = some v := by
        obtain ⟨g2, o2, SA2, sc2, TA2, tc2, e2, ho2, _, _, t1, _, _, _⟩ := hf7.at_ HFK.out
        subst ho2
        injection e2 with e2
        injection e2 with e2
        subst e2
        rw [Nat.zero_add] at t1
        exact ⟨_, t1⟩
      obtain ⟨v1, hv1⟩ := hgrow
      have hz1 := files_soft hf7 (i * 3 + 1)
      have hslc : ∀ w : World, (Instr.slice 29 (.slice V7 (f.sure.length + f.tail.length) c7) none (some (.int .i64 (k : Int))) none).run Try.prog w = .ok (.slice V7 k c7) w := fun w => by
        have hsz : ∀ w, (sizeOf (Try.prog.elem 29)).run Try.prog w = .ok 1 w := fun w => by kernel_rfl
        have hm : (V7.map fun a => a.add (0 * 1)) = V7 := by cases V7 <;> simp [Addr.add]
        rw [run_slice_h w 29 V7 _ c7 Try.underlying29 .i64 (k : Int) (by omega) (by omega), hsz]
        simp only [Result.andThen, sliced, hm, ite_self, Int.toNat_natCast, Nat.sub_zero]
      have HP1 := Lib.hid (show u7.drew.cell? ⟨gr, i * 3 + 1, none⟩ = some v1 from hv1)
      have HZ1 := Lib.hid (show u7.drew.frozen? ⟨gr, i * 3 + 1, none⟩ = false from hz1)
      have HPUT := Lib.hid hput
      have HGG := Lib.hid hgg
      have HS2 := Lib.hid (show u7.drew.cell? ⟨g, 0, none⟩ = some (.slice (some ⟨gr, 0, none⟩) n c) from (HB7.out.cell (p := ⟨g, 0, none⟩) hgl).trans HC0.out)
      have HS20 := Lib.hid ((HB7.out.cell (p := ⟨g, 0, none⟩) hgl).trans HC0.out)
      have hc7 := (HB7.out.cell (p := ⟨g, 0, none⟩) hgl).trans HC0.out
      have HSLC := Lib.hid hslc
      clear hslc hput hgg hv1 hz1 hf7 hrk hrd hkl hlen
      go_upto_region 9 with fail
      refine wp_region_held_drew (S := (fun w' => w'.cell? ⟨g, 0, none⟩ = some (.slice (some ⟨gr, 0, none⟩) n c))) (by kernel_rfl) (by first | (with_reducible exact HS3.out) | (with_reducible exact HS2.out)) (fun hHeld => ?_)
      refine held_take (i := 0) (d := 32) (v := (.pointer (some ⟨g, 0, none⟩))) rfl rfl (by kernel_rfl) (by kernel_rfl) (by kernel_rfl) (fun _ _ _ h => h) (by kernel_rfl) (fun w hSw => by (obtain hS := hSw); go_simp) hHeld ?_
      try simp only [List.setIfInBounds_toArray, List.set_cons_zero, List.set_cons_succ]
      refine held_take (i := 1) (d := 33) (v := (.pointer (some ⟨g, 0, none⟩))) rfl rfl (by kernel_rfl) (by kernel_rfl) (by kernel_rfl) (fun _ _ _ h => h) (by kernel_rfl) (fun w hSw => by (obtain hS := hSw); go_simp) hHeld ?_
      try simp only [List.setIfInBounds_toArray, List.set_cons_zero, List.set_cons_succ]
      refine held_take (i := 2) (d := 34) (v := (.pointer (some ⟨g, 0, none⟩))) rfl rfl (by kernel_rfl) (by kernel_rfl) (by kernel_rfl) (fun _ _ _ h => h) (by kernel_rfl) (fun w hSw => by (obtain hS := hSw); go_simp) hHeld ?_
      try simp only [List.setIfInBounds_toArray, List.set_cons_zero, List.set_cons_succ]
      refine held_take (i := 3) (d := 35) (v := (.slice (some ⟨gr, 0, none⟩) n c)) rfl rfl (by kernel_rfl) (by kernel_rfl) (by kernel_rfl) (fun _ _ _ h => h) (by kernel_rfl) (fun w hS => by go_simp) hHeld ?_
      try simp only [List.setIfInBounds_toArray, List.set_cons_zero, List.set_cons_succ]
      refine held_take (i := 4) (d := 36) (v := (.int .i64 (i : Int))) rfl rfl (by kernel_rfl) (by kernel_rfl) (by kernel_rfl) (fun _ _ _ h => h) (by kernel_rfl) (fun w hSw => by (obtain hS := hSw); go_simp) hHeld ?_
      try simp only [List.setIfInBounds_toArray, List.set_cons_zero, List.set_cons_succ]
      refine held_take (i := 5) (d := 37) (v := (.slice V7 (f.sure.length + f.tail.length) c7)) rfl rfl (by kernel_rfl) (by kernel_rfl) (by kernel_rfl) (fun _ _ _ h => h) (by kernel_rfl) (fun w hSw => by (obtain hS := hSw); go_simp) hHeld ?_
      try simp only [List.setIfInBounds_toArray, List.set_cons_zero, List.set_cons_succ]
      refine held_take (i := 6) (d := 38) (v := (.int .i64 (k : Int))) rfl rfl (by kernel_rfl) (by kernel_rfl) (by kernel_rfl) (fun _ _ _ h => h) (by kernel_rfl) (fun w hSw => by (obtain hS := hSw); go_simp) hHeld ?_
      try simp only [List.setIfInBounds_toArray, List.set_cons_zero, List.set_cons_succ]
      refine held_take (i := 7) (d := 39) (v := (.slice V7 k c7)) rfl rfl (by kernel_rfl) (by kernel_rfl) (by kernel_rfl) (fun _ _ _ h => h) (by kernel_rfl) (fun w hS => by have hx := HSLC.out w; go_simp) hHeld ?_
      try simp only [List.setIfInBounds_toArray, List.set_cons_zero, List.set_cons_succ]
      refine held_take (i := 8) (d := 40) (v := (.pointer (some ⟨gr, i * 3, none⟩))) rfl rfl (by kernel_rfl) (by kernel_rfl) (by kernel_rfl) (fun _ _ _ h => h) (by kernel_rfl) (fun w hSw => by (obtain hS := hSw); go_simp) hHeld ?_
      try simp only [List.setIfInBounds_toArray, List.set_cons_zero, List.set_cons_succ]
      refine held_take (i := 9) (d := 41) (v := (.pointer (some ⟨gr, i * 3 + 1, none⟩))) rfl rfl (by kernel_rfl) (by kernel_rfl) (by kernel_rfl) (fun _ _ _ h => h) (by kernel_rfl) (fun w hSw => by (obtain hS := hSw); go_simp) hHeld ?_
      try simp only [List.setIfInBounds_toArray, List.set_cons_zero, List.set_cons_succ]
      refine wpAnyH_ready (rs := [10]) (by kernel_rfl) (by simp) ?_
      refine AllReadyH.cons rfl (fun K hK => ?_) AllReadyH.nil
      have p1 := HP1.out
      have z1 := HZ1.out
      go_simp
      have hfs := HPUT.out
      clear p1 z1
      generalize (u7.setCell ⟨gr, i * 3 + 1, none⟩ (.slice V7 k c7)).drew = u8 at hfs ⊢
      have HS3 := Lib.hid (show u8.cell? ⟨g, 0, none⟩ = some (.slice (some ⟨gr, 0, none⟩) n c) from (hfs.2.cell HS20.out (fun e => HGG.out (by injection e))))
      have HF8 := Lib.hid hfs
      clear hfs
      refine hK.out _ _ (by first | (with_reducible exact HS3.out) | (with_reducible exact HS2.out)) (fun hHeld => ?_)
      clear hK K
      refine wpAnyH_done (by kernel_rfl) ?_ _
      have hset : (d1.fs.set i { f with sure := (f.sure ++ f.tail).take k })[i]? = some { f with sure := (f.sure ++ f.tail).take k } := List.getElem?_set_self (by rw [HN.out]; exact hin)
      obtain ⟨g2, o2, SA2, sc2, TA2, tc2, e2, ho2, hg2, t0, t1, t2, _, _⟩ := HF8.out.1.at_ hset
      subst ho2
      injection e2 with e2
      injection e2 with e2
      subst e2
      rw [Nat.zero_add] at t2
      have c0 := HS3.out
      have z2 := files_soft HF8.out.1 (i * 3 + 2)
      have HSET := Lib.hid hset
      clear t0 t1 hset hg2
      go_wp2_with fail
      go_ret
      have h9 := files_tail (bs := []) HF8.out.1 HSET.out (RdS.none_ (fun b => ((S b ∨ w1.heap.size ≤ b ∧ b < u7.heap.size) ∧ b ≠ g) ∧ b ≠ gr) u8)
      have hT := HT1.out
      unfold doCut at hT
      rw [HPL.out] at hT
      simp only at hT
      rw [HGA.out, if_neg (by have hl : f.all.length = f.sure.length + f.tail.length := List.length_append
                              rw [hl]; omega)] at hT
      subst hT
      have hb7 := HB7.out
      have hs8 := HF8.out.2.size
      have hs9 : u8.heap.size ≤ (u8.setCell ⟨gr, i * 3 + 2, none⟩ (.slice none 0 0)).heap.size := h9.2.size
      have hs1 := HK1.out.size
      have hbk := ((HBK.out.bel hb7).grown HF8.out.2 (fun e => HGG.out (by injection e))).grown h9.2 (fun e => HGG.out (by injection e))
      have hsg : S gr := (HOW.out gr rfl).1
      refine ⟨rfl, fun b => S b ∨ w1.heap.size ≤ b ∧ b < u7.heap.size, IsRef.mk hbk (.inl HSG.out) (fun k hk => ?_) (fun b hb => ?_) ?_, fun k hk => ?_, ?_⟩
      · have hl := HLT.out k
        have hs7 := hb7.size
        rcases hk with hk | hk
        · have := hl hk
          omega
        · omega
      · have h := HOW.out b hb
        exact ⟨.inl h.1, h.2⟩
      · show Files _ _ _ _ _ (d1.fs.modify i _)
        rw [modify_set _ HFK.out]
        have h := h9.1
        rw [List.set_set] at h
        exact h
      · rcases hk with hk | hk
        · exact .inl hk
        · exact .inr (by omega)
      · have k1 : Keeps S w1 u7 := Keeps.ofBelow hb7
        have k2 : Keeps S u7 u8 := Keeps.ofGrown HF8.out.2 hsg
        have k3 : Keeps S u8 _ := Keeps.ofGrown h9.2 hsg
        exact ((HK1.out.trans k1 (Grew.refl S w)).trans k2 (Grew.refl S w)).trans k3 (Grew.refl S w)
end Go.Proofs.Ytcnjjabjdepjgaa.Dsk
