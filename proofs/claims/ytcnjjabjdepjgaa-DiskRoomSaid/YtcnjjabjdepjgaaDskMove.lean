/-
  Texts of earlier layers, as one.
-/
import Derived.Test.YtcnjjabjdepjgaaDskRemove
import Derived.Test.YtcnjjabjdepjgaaRBase
import Derived.Deep.Cut
/- The document's Move. -/
namespace Go.Proofs.Ytcnjjabjdepjgaa.Dsk
open Go.RowKit Mem Cod

set_option maxRecDepth 20000 in
set_option maxHeartbeats 8000000 in
theorem move_any (g : Nat) (S : Nat → Prop) (d : Dk) (s t : ByteArray) (w : World) (h : IsRef w S g d) (hfine : Fine d) (ht : t.size ≤ 9223372036854775807) :
    Calls Try.prog 29 #[.pointer (some ⟨g, 0, none⟩), .string s, .string t] w (RefDoes g S (whole (doMove s t) d) w) := by
  have hir := h
  obtain ⟨A, c, hb, hSg, hlt, hown, hfi⟩ := h
  have hdd := deed_any g (.slice A d.fs.length c) d w hb hfine.2.2
  have hfd := hfine.deed
  have hfs := (deed_fs d).1
  have hroom := (deed_fs d).2
  obtain ⟨T, hT⟩ : ∃ T, whole (doMove s t) d = T := ⟨_, rfl⟩
  rw [hT]
  unfold whole at hT
  have hdn : fails d = true → deed d = { d with dn := true } := fun h => by unfold deed; rw [if_pos h]
  obtain ⟨d1, hd1⟩ : ∃ d1, deed d = d1 := ⟨_, rfl⟩
  rw [hd1] at hdd hfd hfs hroom hT
  have hir1 : ∀ u, w.grownBy u (some g) → Blk u g 60 #[.slice A d.fs.length c, .int .i64 d1.room, .int .i64 d1.fuse, .bool d1.dn] → IsRef u S g d1 := fun u hu hbu => by
    refine IsRef.mk hbu hSg (fun k hk => Nat.lt_of_lt_of_le (hlt k hk) hu.size) hown ?_
    rw [hfs]
    exact hfi.keep hu.size (fun b hb hl => ⟨hb, hu.block b hl fun e => hb.2 (by injection e)⟩) fun b hb => hu.block b (files_lt hfi b hb) fun e => (hown b hb).2 (by injection e)
  have hk1 : ∀ u, w.grownBy u (some g) → Keeps S w u := fun u hu => Keeps.ofGrown hu hSg
  generalize fails d = t at hdd hT
  have HDD := Lib.hid hdd
  have HT := Lib.hid hT
  have HIR := Lib.hid hir1
  have HKP := Lib.hid hk1
  have HFD := Lib.hid hfd
  have HSG := Lib.hid hSg
  clear hdd hT hir1 hk1 hfd hfs hroom hir hb hlt hown hfi hfine hd1 hdn hSg
  go_enter Try.func29, Try.ntmps29
  go_wp2_with fail
  refine HDD.out.mono ?_
  rintro e w1 ⟨rfl, hb1, hg1⟩
  have HI1 := Lib.hid (HIR.out w1 hg1 hb1)
  have HK1 := Lib.hid (HKP.out w1 hg1)
  clear hb1 hg1 HDD HIR HKP
  cases t with
  | true =>
    go_wp2_with fail
    go_ret
    have hT := HT.out
    rw [if_pos (by first | rfl | trivial)] at hT
    subst hT
    exact ⟨rfl, S, HI1.out, Grew.refl S w, HK1.out⟩
  | false =>
    have hT := HT.out
    rw [if_neg (by simp)] at hT
    have HT1 := Lib.hid hT
    clear hT HT
    clear A c
    obtain ⟨A, c, hb, hSg, hlt, hown, hfi⟩ := HI1.out
    have hn16 := HFD.out.length
    have hus := HFD.out.used
    obtain ⟨n, hn⟩ : ∃ n, d1.fs.length = n := ⟨_, rfl⟩
    rw [hn] at hb hown hfi hn16
    have HN := Lib.hid hn
    have HBK := Lib.hid hb
    have HLT := Lib.hid hlt
    have HOW := Lib.hid hown
    have HFI := Lib.hid hfi
    clear hb hlt hown hfi hn hSg
    go_wp2_with fail
    refine (at_any g A n c _ _ _ d1.fs _ s w1 HBK.out HFI.out).mono ?_
    rintro e u ⟨rfl, hu⟩
    replace hu := hu.symm
    subst hu
    rw [atI_eq]
    obtain ⟨P, hP⟩ : ∃ P, place d1.fs s = P := ⟨_, rfl⟩
    rw [hP]
    have HPL := Lib.hid hP
    clear hP
    cases P with
    | none =>
      have e0 : iOf none = -1 := rfl
      have b0 : decide ((-1 : Int) < 0) = true := rfl
      go_wp2_with fail
      go_ret
      have hT := HT1.out
      unfold doMove at hT
      rw [HPL.out] at hT
      subst hT
      exact ⟨rfl, S, HI1.out, Grew.refl S w, HK1.out⟩
    | some i =>
      have e0 : iOf (some i) = (i : Int) := rfl
      have b0 : decide ((i : Int) < 0) = false := decide_eq_false (by omega)
      go_wp2_with fail
      refine (name_any t w1 ht).mono ?_
      rintro e u ⟨rfl, hu⟩
      replace hu := hu.symm
      subst hu
      obtain ⟨q, hq⟩ : ∃ q, isName t = q := ⟨_, rfl⟩
      rw [hq]
      have HQ := Lib.hid hq
      clear hq
      cases q with
      | false =>
        go_wp2_with fail
        go_ret
        have hT := HT1.out
        unfold doMove at hT
        rw [HPL.out] at hT
        simp only at hT
        rw [if_pos HQ.out] at hT
        subst hT
        exact ⟨rfl, S, HI1.out, Grew.refl S w, HK1.out⟩
      | true =>
        obtain ⟨f, hfk, hnm⟩ := place_some HPL.out
        obtain ⟨gr, o, SA, sc, TA, tc, rfl, ho0, hgr, q0, q1, q2, r1, r2⟩ := HFI.out.at_ hfk
        have hin : i < n := by rw [← HN.out]; exact (List.getElem?_eq_some_iff.1 hfk).1
        have hle := len_used hfk
        have hal := all_any f.nm SA TA f.sure.length sc f.tail.length tc f.sure f.tail w1 r1.1 r2.1 (by omega) (by omega)
        have hga : d1.fs.getD i ⟨s, [], []⟩ = f := by rw [List.getD_eq_getElem?_getD, hfk]; rfl
        have b2 : decide ((n : Int) ≤ (i : Int)) = false := decide_eq_false (by omega)
        have b3 : ¬ n ≤ i := by omega
        have c0 := (cells_dk HBK.out).1
        have HAL := Lib.hid hal
        have HGA := Lib.hid hga
        clear hfk hnm r1 r2 hal hle hga ho0
        go_wp2_with fail
        refine HAL.out.mono ?_
        rintro e u7 ⟨V7, c7, rfl, ho7, hb7⟩
        have hbx := Blk.new u7 67 #[.string t, .slice V7 (f.sure.length + f.tail.length) c7, .slice none 0 0]
        have hbu := bel_alloc hb7 (.cells #[.string t, .slice V7 (f.sure.length + f.tail.length) c7, .slice none 0 0] 67)
        have hrd : RdS (fun b => w1.heap.size ≤ b ∧ b < u7.heap.size) u7 V7 (f.sure.length + f.tail.length) c7 (f.sure ++ f.tail) := RdS.new ho7 fun b hb hlt => ⟨hb, hlt⟩
        have hrU := hrd.keep (S' := fun b => w1.heap.size ≤ b ∧ b < u7.heap.size) (w' := u7.alloc (.cells #[.string t, .slice V7 (f.sure.length + f.tail.length) c7, .slice none 0 0] 67)) (by rw [size_alloc]; omega) (fun b hb hlt => ⟨hb, Below.heap_alloc _ _ b hlt⟩)
        obtain ⟨B, hB⟩ : ∃ B, u7.heap.size = B := ⟨_, rfl⟩
        obtain ⟨U, hU⟩ : ∃ U, u7.alloc (.cells #[.string t, .slice V7 (f.sure.length + f.tail.length) c7, .slice none 0 0] 67) = U := ⟨_, rfl⟩
        rw [hU] at hbx hbu hrU
        rw [hB] at hbx hrU
        have hw1B : w1.heap.size ≤ B := by have := hb7.size; omega
        have hBU : B < U.heap.size := hbx.lt
        have HBX := Lib.hid hbx
        have HBU := Lib.hid hbu
        have HRU := Lib.hid hrU
        have HB := Lib.hid hB
        have HU := Lib.hid hU
        clear hbx hbu hrU hrd hB hU ho7 hb7 q0 q1 q2 c0
        go_upto_region 9 with fail
        rw [HU.out, HB.out]
        have hgl := HBK.out.lt
        have HD1 := Lib.hid (drop_any g (some ⟨gr, o, none⟩) n c _ _ _ d1.fs _ s U (HBK.out.bel HBU.out) (HFI.out.below HBU.out) (fun b hb => hb.2) (by omega))
        go_wp2_with fail
        refine HD1.out.mono ?_
        rintro e w3 ⟨rfl, A3, m3, c3, hb3, hf3, hr3, hg3⟩
        have hm3 : m3 ≤ 16 := by have h1 := hf3.len; have h2 := length_drop s d1.fs; have h3 := HN.out; omega
        have hu3 := hg3.size
        have HR3 := Lib.hid hr3
        have HG3 := Lib.hid hg3
        have HD2 := Lib.hid (drop_any g A3 m3 c3 _ _ _ _ _ t w3 hb3 hf3 (fun b hb => hb.2) (by omega))
        clear hb3 hf3 hr3 hg3 HD1
        go_wp2_with fail
        refine HD2.out.mono ?_
        rintro e w4 ⟨rfl, A4, m4, c4, hb4, hf4, hr4, hg4⟩
        have hm4 : m4 ≤ 16 := by have h1 := hf4.len; have h2 := length_drop s d1.fs; have h3 := HN.out; have h4 := length_drop t (drop s d1.fs); omega
        have hu4 := hg4.size
        have hbx4 := (HBX.out.grown HG3.out (fun e => by injection e with e; omega)).grown hg4 (fun e => by injection e with e; omega)
        have hr44 := (HRU.out.keep (S' := fun b => w1.heap.size ≤ b ∧ b < B) hu3 (fun b hb hlt => ⟨hb, HG3.out.block b hlt fun e => by injection e with e; omega⟩)).keep (S' := fun b => (S b ∨ w1.heap.size ≤ b ∧ b < w4.heap.size) ∧ b ≠ g) hu4 (fun b hb hlt => ⟨⟨.inr ⟨hb.1, by omega⟩, by omega⟩, hg4.block b hlt fun e => by injection e with e; omega⟩)
        have hf44 := hf4.more (S' := fun b => (S b ∨ w1.heap.size ≤ b ∧ b < w4.heap.size) ∧ b ≠ g) fun b hb _ => ⟨.inl hb.1, hb.2⟩
        have hpt := put_any g A4 m4 c4 _ _ _ _ _ ⟨t, f.sure ++ f.tail, []⟩ V7 none c7 0 w4 hb4 hf44 ⟨by show RdS _ _ _ (f.sure ++ f.tail).length _ _; rw [List.length_append]; exact hr44, RdS.none_ _ _⟩ (fun b hb => hb.2) (by omega)
        simp only [List.length_append, List.length_nil] at hpt
        have hx0 := hbx4.cell 0
        have hx1 := hbx4.cell 1
        have hx2 := hbx4.cell 2
        simp at hx0 hx1 hx2
        have HPT := Lib.hid hpt
        have HG4 := Lib.hid hg4
        clear hb4 hf4 hf44 hr4 hg4 hbx4 hr44 hpt HD2
        go_wp2_with fail
        refine HPT.out.mono ?_
        rintro e w5 ⟨rfl, A5, m5, c5, hb5, hf5, hr5, hg5⟩
        have HB3 := Lib.hid hb5
        have HF3 := Lib.hid hf5
        have HR3' := Lib.hid hr5
        have HG5 := Lib.hid hg5
        have hu5 := hg5.size
        clear hb5 hf5 hr5 hg5 hx0 hx1 hx2 HR3
        have HS3 := Lib.hid (show w1.heap.size ≤ w5.heap.size by have := HBU.out.size; omega)
        have HR3 := Lib.hid (show ∀ b, (Value.slice A5 m5 c5).ownBlock = some b → w1.heap.size ≤ b from fun b hb => by have h1 := HR3'.out b hb; have h2 := HBU.out.size; omega)
        go_wp2_with fail
        go_ret
        have hT := HT1.out
        unfold doMove at hT
        rw [HPL.out] at hT
        simp only at hT
        rw [if_neg (by simp [HQ.out]), HGA.out] at hT
        subst hT
        have hs1 := HK1.out.size
        have hgl := HBK.out.lt
        refine ⟨rfl, fun b => S b ∨ w1.heap.size ≤ b ∧ b < w5.heap.size, IsRef.mk HB3.out (.inl HSG.out) (fun k hk => ?_) (fun b hb => ?_) ?_, fun k hk => ?_, ?_⟩
        · rcases hk with hk | hk
          · have := HLT.out k hk
            have := HS3.out
            omega
          · exact hk.2
        · have h1 := HR3.out b hb
          have h2 := files_lt HF3.out b hb
          exact ⟨.inr ⟨h1, h2⟩, by omega⟩
        · exact HF3.out.more fun b hb _ => ⟨hb.1.imp id fun h => ⟨h.1, by omega⟩, hb.2⟩
        · rcases hk with hk | hk
          · exact .inl hk
          · exact .inr (by omega)
        · exact HK1.out.trans ((((Keeps.ofBelow (S := S) HBU.out).trans (Keeps.ofGrown HG3.out HSG.out) (Grew.refl S w1)).trans (Keeps.ofGrown HG4.out HSG.out) (Grew.refl S w1)).trans (Keeps.ofGrown HG5.out HSG.out) (Grew.refl S w1)) (Grew.refl S w)
end Go.Proofs.Ytcnjjabjdepjgaa.Dsk
