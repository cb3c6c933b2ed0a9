/-
  Texts of earlier layers, as one.
-/
import Derived.Test.YtcnjjabjdepjgaaDskSet
import Derived.Test.YtcnjjabjdepjgaaRBase
import Derived.Deep.RegionHeld
import Derived.Deep.Cut
/- The document's Sync. -/
namespace Go.Proofs.Ytcnjjabjdepjgaa.Dsk
open Go.RowKit Mem Cod

set_option maxRecDepth 20000 in
set_option maxHeartbeats 8000000 in
theorem sync_any (g : Nat) (S : Nat → Prop) (d : Dk) (s : ByteArray) (w : World) (h : IsRef w S g d) (hfine : Fine d) :
    Calls Try.prog 28 #[.pointer (some ⟨g, 0, none⟩), .string s] w (RefDoes g S (whole (doSync s) d) w) := by
  have hir := h
  obtain ⟨A, c, hb, hSg, hlt, hown, hfi⟩ := h
  have hdd := deed_any g (.slice A d.fs.length c) d w hb hfine.2.2
  have hfd := hfine.deed
  have hfs := (deed_fs d).1
  have hroom := (deed_fs d).2
  obtain ⟨T, hT⟩ : ∃ T, whole (doSync s) d = T := ⟨_, rfl⟩
  rw [hT]
  unfold whole at hT
  have hdn : fails d = true → deed d = { d with dn := true } := fun h => by unfold deed; rw [if_pos h]
  obtain ⟨d1, hd1⟩ : ∃ d1, deed d = d1 := ⟨_, rfl⟩
  rw [hd1] at hdd hfd hfs hroom hT
  have hir1 : ∀ u, w.grownBy u (some g) → Blk u g 60 #[.slice A d.fs.length c, .int .i64 d1.room, .int .i64 d1.fuse, .bool d1.dn] → IsRef u S g d1 := fun u hu hbu => by
    refine IsRef.mk hbu hSg (fun k hk => Nat.lt_of_lt_of_le (hlt k hk) hu.size) hown ?_
    rw [hfs]
    exact hfi.keep hu.size (fun b hb hl => ⟨hb, hu.block b hl fun e => hb.2 (by injection e)⟩) fun b hb => hu.block b (files_lt hfi b hb) fun e => (hown b hb).2 (by injection e)
  have hk1 : ∀ u, w.grownBy u (some g) → Keeps S w u := fun u hu => Keeps.ofGrown hu hSg
  generalize fails d = t at hdd hT
  have HDD := Lib.hid hdd
  have HT := Lib.hid hT
  have HIR := Lib.hid hir1
  have HKP := Lib.hid hk1
  have HFD := Lib.hid hfd
  have HSG := Lib.hid hSg
  clear hdd hT hir1 hk1 hfd hfs hroom hir hb hlt hown hfi hfine hd1 hdn hSg
  go_enter Try.func28, Try.ntmps28
  go_wp2_with fail
  refine HDD.out.mono ?_
  rintro e w1 ⟨rfl, hb1, hg1⟩
  have HI1 := Lib.hid (HIR.out w1 hg1 hb1)
  have HK1 := Lib.hid (HKP.out w1 hg1)
  clear hb1 hg1 HDD HIR HKP
  cases t with
  | true =>
    go_wp2_with fail
    go_ret
    have hT := HT.out
    rw [if_pos (by first | rfl | trivial)] at hT
    subst hT
    exact ⟨rfl, S, HI1.out, Grew.refl S w, HK1.out⟩
  | false =>
    have hT := HT.out
    rw [if_neg (by simp)] at hT
    have HT1 := Lib.hid hT
    clear hT HT
    clear A c
    obtain ⟨A, c, hb, hSg, hlt, hown, hfi⟩ := HI1.out
    have hn16 := HFD.out.length
    have hus := HFD.out.used
    obtain ⟨n, hn⟩ : ∃ n, d1.fs.length = n := ⟨_, rfl⟩
    rw [hn] at hb hown hfi hn16
    have HN := Lib.hid hn
    have HBK := Lib.hid hb
    have HLT := Lib.hid hlt
    have HOW := Lib.hid hown
    have HFI := Lib.hid hfi
    clear hb hlt hown hfi hn hSg
    go_wp2_with fail
    refine (at_any g A n c _ _ _ d1.fs _ s w1 HBK.out HFI.out).mono ?_
    rintro e u ⟨rfl, hu⟩
    replace hu := hu.symm
    subst hu
    rw [atI_eq]
    obtain ⟨P, hP⟩ : ∃ P, place d1.fs s = P := ⟨_, rfl⟩
    rw [hP]
    have HPL := Lib.hid hP
    clear hP
    cases P with
    | none =>
      have e0 : iOf none = -1 := rfl
      have b0 : decide ((-1 : Int) < 0) = true := rfl
      go_wp2_with fail
      go_ret
      have hT := HT1.out
      unfold doSync at hT
      rw [HPL.out] at hT
      subst hT
      exact ⟨rfl, S, HI1.out, Grew.refl S w, HK1.out⟩
    | some i =>
      obtain ⟨f, hfk, hnm⟩ := place_some HPL.out
      obtain ⟨gr, o, SA, sc, TA, tc, rfl, ho0, hgr, q0, q1, q2, r1, r2⟩ := HFI.out.at_ hfk
      subst ho0
      rw [Nat.zero_add] at q0 q1 q2
      have c0 := (cells_dk HBK.out).1
      have hgl := HBK.out.lt
      have hin : i < n := by rw [← HN.out]; exact (List.getElem?_eq_some_iff.1 hfk).1
      have hle := len_used hfk
      have hal := fun (u : World) (hu : Below w1.heap.size w1 u) => all_any f.nm SA TA f.sure.length sc f.tail.length tc f.sure f.tail u (r1.1.below hu) (r2.1.below hu) (by omega) (by omega)
      have hs2 : ∀ u, Below w1.heap.size w1 u → u.cell? ⟨g, 0, none⟩ = some (.slice (some ⟨gr, 0, none⟩) n c) ∧ u.cell? ⟨gr, i * 3, none⟩ = some (.string f.nm) ∧ u.cell? ⟨gr, i * 3 + 1, none⟩ = some (.slice SA f.sure.length sc) ∧ u.cell? ⟨gr, i * 3 + 2, none⟩ = some (.slice TA f.tail.length tc) := fun u hu => ⟨(hu.cell (p := ⟨g, 0, none⟩) hgl).trans c0, (hu.cell (p := ⟨gr, i * 3, none⟩) hgr).trans q0, (hu.cell (p := ⟨gr, i * 3 + 1, none⟩) hgr).trans q1, (hu.cell (p := ⟨gr, i * 3 + 2, none⟩) hgr).trans q2⟩
      have hso : ∀ u, Below w1.heap.size w1 u → u.frozen? ⟨gr, i * 3 + 1, none⟩ = false := fun u hu => files_soft (HFI.out.below hu) _
      have e0 : iOf (some i) = (i : Int) := rfl
      have b0 : decide ((i : Int) < 0) = false := decide_eq_false (by omega)
      have b2 : decide ((n : Int) ≤ (i : Int)) = false := decide_eq_false (by omega)
      have b3 : ¬ n ≤ i := by omega
      have hgg : ¬ g = gr := fun e => (HOW.out gr rfl).2 e.symm
      have hput : ∀ (u : World) (V : Option Addr) (k : Nat), Below w1.heap.size w1 u → u.ownsRow w1.heap.size 5 1 (.slice V (f.sure.length + f.tail.length) k) (f.sure.length + f.tail.length) (cs (f.sure ++ f.tail)) →
          Files (fun b => (S b ∨ w1.heap.size ≤ b ∧ b < u.heap.size) ∧ b ≠ g) (u.setCell ⟨gr, i * 3 + 1, none⟩ (.slice V (f.sure.length + f.tail.length) k)) (some ⟨gr, 0, none⟩) n c (d1.fs.set i { f with sure := f.sure ++ f.tail }) ∧ u.grownBy (u.setCell ⟨gr, i * 3 + 1, none⟩ (.slice V (f.sure.length + f.tail.length) k)) (some gr) := fun u V k hu ho => by
        have hf := (HFI.out.below hu).more (S' := fun b => (S b ∨ w1.heap.size ≤ b ∧ b < u.heap.size) ∧ b ≠ g) fun b hb _ => ⟨.inl hb.1, hb.2⟩
        have e : (f.sure ++ f.tail).length = f.sure.length + f.tail.length := List.length_append
        rw [← e] at ho ⊢
        exact files_sure hf hfk (RdS.new ho fun b hb hlt => ⟨⟨.inr ⟨hb, hlt⟩, by omega⟩, by omega⟩)
      have HPUT := Lib.hid hput
      have HGG := Lib.hid hgg
      have HAL := Lib.hid hal
      have HS2 := Lib.hid hs2
      have HSO := Lib.hid hso
      have HFK := Lib.hid hfk
      have HC := Lib.hid (Below.drew (Below.refl w1.heap.size w1))
      clear hfk hnm q0 q1 q2 r1 r2 c0 hal hs2 hso hle hput hgg
      go_upto_region 6 with fail
      refine wp_region_held_drew (S := (fun w' => w'.cell? ⟨g, 0, none⟩ = some (.slice (some ⟨gr, 0, none⟩) n c))) (by kernel_rfl) (by first | (with_reducible exact HS3.out) | (with_reducible exact (HS2.out _ HC.out).1)) (fun hHeld => ?_)
      refine held_take (i := 0) (d := 13) (v := (.pointer (some ⟨g, 0, none⟩))) rfl rfl (by kernel_rfl) (by kernel_rfl) (by kernel_rfl) (fun _ _ _ h => h) (by kernel_rfl) (fun w hSw => by (obtain hS := hSw); go_simp) hHeld ?_
      try simp only [List.setIfInBounds_toArray, List.set_cons_zero, List.set_cons_succ]
      refine held_take (i := 1) (d := 14) (v := (.pointer (some ⟨g, 0, none⟩))) rfl rfl (by kernel_rfl) (by kernel_rfl) (by kernel_rfl) (fun _ _ _ h => h) (by kernel_rfl) (fun w hSw => by (obtain hS := hSw); go_simp) hHeld ?_
      try simp only [List.setIfInBounds_toArray, List.set_cons_zero, List.set_cons_succ]
      refine held_take (i := 2) (d := 15) (v := (.pointer (some ⟨g, 0, none⟩))) rfl rfl (by kernel_rfl) (by kernel_rfl) (by kernel_rfl) (fun _ _ _ h => h) (by kernel_rfl) (fun w hSw => by (obtain hS := hSw); go_simp) hHeld ?_
      try simp only [List.setIfInBounds_toArray, List.set_cons_zero, List.set_cons_succ]
      refine held_take (i := 3) (d := 16) (v := (.slice (some ⟨gr, 0, none⟩) n c)) rfl rfl (by kernel_rfl) (by kernel_rfl) (by kernel_rfl) (fun _ _ _ h => h) (by kernel_rfl) (fun w hS => by go_simp) hHeld ?_
      try simp only [List.setIfInBounds_toArray, List.set_cons_zero, List.set_cons_succ]
      refine held_take (i := 4) (d := 17) (v := (.int .i64 (i : Int))) rfl rfl (by kernel_rfl) (by kernel_rfl) (by kernel_rfl) (fun _ _ _ h => h) (by kernel_rfl) (fun w hSw => by (obtain hS := hSw); go_simp) hHeld ?_
      try simp only [List.setIfInBounds_toArray, List.set_cons_zero, List.set_cons_succ]
      refine held_take (i := 5) (d := 18) (v := (.pointer (some ⟨g, 0, none⟩))) rfl rfl (by kernel_rfl) (by kernel_rfl) (by kernel_rfl) (fun _ _ _ h => h) (by kernel_rfl) (fun w hSw => by (obtain hS := hSw); go_simp) hHeld ?_
      try simp only [List.setIfInBounds_toArray, List.set_cons_zero, List.set_cons_succ]
      refine held_take (i := 6) (d := 19) (v := (.pointer (some ⟨g, 0, none⟩))) rfl rfl (by kernel_rfl) (by kernel_rfl) (by kernel_rfl) (fun _ _ _ h => h) (by kernel_rfl) (fun w hSw => by (obtain hS := hSw); go_simp) hHeld ?_
      try simp only [List.setIfInBounds_toArray, List.set_cons_zero, List.set_cons_succ]
      refine held_take (i := 7) (d := 20) (v := (.pointer (some ⟨g, 0, none⟩))) rfl rfl (by kernel_rfl) (by kernel_rfl) (by kernel_rfl) (fun _ _ _ h => h) (by kernel_rfl) (fun w hSw => by (obtain hS := hSw); go_simp) hHeld ?_
      try simp only [List.setIfInBounds_toArray, List.set_cons_zero, List.set_cons_succ]
      refine held_take (i := 8) (d := 21) (v := (.slice (some ⟨gr, 0, none⟩) n c)) rfl rfl (by kernel_rfl) (by kernel_rfl) (by kernel_rfl) (fun _ _ _ h => h) (by kernel_rfl) (fun w hS => by go_simp) hHeld ?_
      try simp only [List.setIfInBounds_toArray, List.set_cons_zero, List.set_cons_succ]
      refine held_take (i := 9) (d := 22) (v := (.int .i64 (i : Int))) rfl rfl (by kernel_rfl) (by kernel_rfl) (by kernel_rfl) (fun _ _ _ h => h) (by kernel_rfl) (fun w hSw => by (obtain hS := hSw); go_simp) hHeld ?_
      try simp only [List.setIfInBounds_toArray, List.set_cons_zero, List.set_cons_succ]
      refine held_take (i := 10) (d := 23) (v := (.pointer (some ⟨gr, i * 3, none⟩))) rfl rfl (by kernel_rfl) (by kernel_rfl) (by kernel_rfl) (fun _ _ _ h => h) (by kernel_rfl) (fun w hSw => by (obtain hS := hSw); go_simp) hHeld ?_
      try simp only [List.setIfInBounds_toArray, List.set_cons_zero, List.set_cons_succ]
      refine wpAnyH_ready (rs := [11]) (by kernel_rfl) (by simp) ?_
      refine AllReadyH.cons rfl (fun K hK => ?_) AllReadyH.nil
      have p0 := (HS2.out _ HC.out).2.1
      have p1 := (HS2.out _ HC.out).2.2.1
      have p2 := (HS2.out _ HC.out).2.2.2
      go_simp
      clear p0 p1 p2
      skip
      refine hK.out _ _ (by first | (with_reducible exact HS3.out) | (with_reducible exact (HS2.out _ HC.out).1)) (fun hHeld => ?_)
      clear hK K
      refine wpAnyH_ready (rs := [12]) (by kernel_rfl) (by simp) ?_
      refine AllReadyH.cons rfl (fun K hK => ?_) AllReadyH.nil
      go_simp
      go_at_call 52
      refine (HAL.out _ HC.out).mono ?_
      rintro e u7 ⟨V7, c7, rfl, ho7, hb7⟩
      replace HC := Lib.hid (bel_trans HC.out hb7)
      have HO7 := Lib.hid ho7
      clear ho7 hb7
      refine hK.out _ _ (by first | (with_reducible exact HS3.out) | (with_reducible exact (HS2.out _ HC.out).1)) (fun hHeld => ?_)
      clear hK K
      refine held_take (i := 13) (d := 26) (v := (.pointer (some ⟨gr, i * 3, none⟩))) rfl rfl (by kernel_rfl) (by kernel_rfl) (by kernel_rfl) (fun _ _ _ h => h) (by kernel_rfl) (fun w hSw => by (obtain hS := hSw); go_simp) hHeld ?_
      try simp only [List.setIfInBounds_toArray, List.set_cons_zero, List.set_cons_succ]
      refine held_take (i := 14) (d := 27) (v := (.pointer (some ⟨gr, i * 3 + 1, none⟩))) rfl rfl (by kernel_rfl) (by kernel_rfl) (by kernel_rfl) (fun _ _ _ h => h) (by kernel_rfl) (fun w hSw => by (obtain hS := hSw); go_simp) hHeld ?_
      try simp only [List.setIfInBounds_toArray, List.set_cons_zero, List.set_cons_succ]
      refine wpAnyH_ready (rs := [15]) (by kernel_rfl) (by simp) ?_
      refine AllReadyH.cons rfl (fun K hK => ?_) AllReadyH.nil
      have p1 := (HS2.out _ HC.out).2.2.1
      have z1 := HSO.out _ HC.out
      go_simp
      have hfs := HPUT.out u7 V7 c7 HC.out HO7.out
      clear p1 z1
      generalize u7.setCell ⟨gr, i * 3 + 1, none⟩ (.slice V7 (f.sure.length + f.tail.length) c7) = u8 at hfs ⊢
      have HS3 := Lib.hid (show u8.cell? ⟨g, 0, none⟩ = some (.slice (some ⟨gr, 0, none⟩) n c) from (hfs.2.cell (HS2.out _ HC.out).1 (fun e => HGG.out (by injection e))))
      have HF8 := Lib.hid hfs
      clear hfs
      refine hK.out _ _ (by first | (with_reducible exact HS3.out) | (with_reducible exact (HS2.out _ HC.out).1)) (fun hHeld => ?_)
      clear hK K
      refine wpAnyH_done (by kernel_rfl) ?_ _
      have hset : (d1.fs.set i { f with sure := f.sure ++ f.tail })[i]? = some { f with sure := f.sure ++ f.tail } := List.getElem?_set_self (by rw [HN.out]; exact hin)
      obtain ⟨g2, o2, SA2, sc2, TA2, tc2, e2, ho2, hg2, t0, t1, t2, _, _⟩ := HF8.out.1.at_ hset
      subst ho2
      injection e2 with e2
      injection e2 with e2
      subst e2
      rw [Nat.zero_add] at t2
      have c0 := HS3.out
      have z2 := files_soft HF8.out.1 (i * 3 + 2)
      have HSET := Lib.hid hset
      clear t0 t1 hset hg2
      go_wp2_with fail
      go_ret
      have h9 := files_tail (bs := []) HF8.out.1 HSET.out (RdS.none_ (fun b => ((S b ∨ w1.heap.size ≤ b ∧ b < u7.heap.size) ∧ b ≠ g) ∧ b ≠ gr) u8)
      have hT := HT1.out
      unfold doSync at hT
      rw [HPL.out] at hT
      subst hT
      have hb7 := HC.out
      have hs8 := HF8.out.2.size
      have hs9 : u8.heap.size ≤ (u8.setCell ⟨gr, i * 3 + 2, none⟩ (.slice none 0 0)).heap.size := h9.2.size
      have hs1 := HK1.out.size
      have hbk := ((HBK.out.bel hb7).grown HF8.out.2 (fun e => HGG.out (by injection e))).grown h9.2 (fun e => HGG.out (by injection e))
      have hsg : S gr := (HOW.out gr rfl).1
      refine ⟨rfl, fun b => S b ∨ w1.heap.size ≤ b ∧ b < u7.heap.size, IsRef.mk hbk (.inl HSG.out) (fun k hk => ?_) (fun b hb => ?_) ?_, fun k hk => ?_, ?_⟩
      · have hl := HLT.out k
        have hs7 := hb7.size
        rcases hk with hk | hk
        · have := hl hk
          omega
        · omega
      · have h := HOW.out b hb
        exact ⟨.inl h.1, h.2⟩
      · show Files _ _ _ _ _ (d1.fs.modify i _)
        rw [modify_set _ HFK.out]
        have h := h9.1
        rw [List.set_set] at h
        exact h
      · rcases hk with hk | hk
        · exact .inl hk
        · exact .inr (by omega)
      · have k1 : Keeps S w1 u7 := Keeps.ofBelow hb7
        have k2 : Keeps S u7 u8 := Keeps.ofGrown HF8.out.2 hsg
        have k3 : Keeps S u8 _ := Keeps.ofGrown h9.2 hsg
        exact ((HK1.out.trans k1 (Grew.refl S w)).trans k2 (Grew.refl S w)).trans k3 (Grew.refl S w)
end Go.Proofs.Ytcnjjabjdepjgaa.Dsk
