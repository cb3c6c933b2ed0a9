/-
  Texts of earlier layers, as one.
-/
import Derived.Test.YtcnjjabjdepjgaaDskSync
import Derived.Test.YtcnjjabjdepjgaaRBase
import Derived.Deep.Cut
/- The document's Remove, Read and Move. -/
namespace Go.Proofs.Ytcnjjabjdepjgaa.Dsk
open Go.RowKit Mem Cod

set_option maxRecDepth 20000 in
set_option maxHeartbeats 8000000 in
theorem remove_any (g : Nat) (S : Nat → Prop) (d : Dk) (s : ByteArray) (w : World) (h : IsRef w S g d) (hfine : Fine d) :
    Calls Try.prog 30 #[.pointer (some ⟨g, 0, none⟩), .string s] w (RefDoes g S (whole (doRemove s) d) w) := by
  have hir := h
  obtain ⟨A, c, hb, hSg, hlt, hown, hfi⟩ := h
  have hdd := deed_any g (.slice A d.fs.length c) d w hb hfine.2.2
  have hfd := hfine.deed
  have hfs := (deed_fs d).1
  have hroom := (deed_fs d).2
  obtain ⟨T, hT⟩ : ∃ T, whole (doRemove s) d = T := ⟨_, rfl⟩
  rw [hT]
  unfold whole at hT
  have hdn : fails d = true → deed d = { d with dn := true } := fun h => by unfold deed; rw [if_pos h]
  obtain ⟨d1, hd1⟩ : ∃ d1, deed d = d1 := ⟨_, rfl⟩
  rw [hd1] at hdd hfd hfs hroom hT
  have hir1 : ∀ u, w.grownBy u (some g) → Blk u g 60 #[.slice A d.fs.length c, .int .i64 d1.room, .int .i64 d1.fuse, .bool d1.dn] → IsRef u S g d1 := fun u hu hbu => by
    refine IsRef.mk hbu hSg (fun k hk => Nat.lt_of_lt_of_le (hlt k hk) hu.size) hown ?_
    rw [hfs]
    exact hfi.keep hu.size (fun b hb hl => ⟨hb, hu.block b hl fun e => hb.2 (by injection e)⟩) fun b hb => hu.block b (files_lt hfi b hb) fun e => (hown b hb).2 (by injection e)
  have hk1 : ∀ u, w.grownBy u (some g) → Keeps S w u := fun u hu => Keeps.ofGrown hu hSg
  generalize fails d = t at hdd hT
  have HDD := Lib.hid hdd
  have HT := Lib.hid hT
  have HIR := Lib.hid hir1
  have HKP := Lib.hid hk1
  have HFD := Lib.hid hfd
  have HSG := Lib.hid hSg
  clear hdd hT hir1 hk1 hfd hfs hroom hir hb hlt hown hfi hfine hd1 hdn hSg
  go_enter Try.func30, Try.ntmps30
  go_wp2_with fail
  refine HDD.out.mono ?_
  rintro e w1 ⟨rfl, hb1, hg1⟩
  have HI1 := Lib.hid (HIR.out w1 hg1 hb1)
  have HK1 := Lib.hid (HKP.out w1 hg1)
  clear hb1 hg1 HDD HIR HKP
  cases t with
  | true =>
    go_wp2_with fail
    go_ret
    have hT := HT.out
    rw [if_pos (by first | rfl | trivial)] at hT
    subst hT
    exact ⟨rfl, S, HI1.out, Grew.refl S w, HK1.out⟩
  | false =>
    have hT := HT.out
    rw [if_neg (by simp)] at hT
    have HT1 := Lib.hid hT
    clear hT HT
    clear A c
    obtain ⟨A, c, hb, hSg, hlt, hown, hfi⟩ := HI1.out
    have hn16 := HFD.out.length
    have hus := HFD.out.used
    obtain ⟨n, hn⟩ : ∃ n, d1.fs.length = n := ⟨_, rfl⟩
    rw [hn] at hb hown hfi hn16
    have HN := Lib.hid hn
    have HBK := Lib.hid hb
    have HLT := Lib.hid hlt
    have HOW := Lib.hid hown
    have HFI := Lib.hid hfi
    clear hb hlt hown hfi hn hSg
    go_wp2_with fail
    refine (at_any g A n c _ _ _ d1.fs _ s w1 HBK.out HFI.out).mono ?_
    rintro e u ⟨rfl, hu⟩
    replace hu := hu.symm
    subst hu
    rw [atI_eq]
    obtain ⟨P, hP⟩ : ∃ P, place d1.fs s = P := ⟨_, rfl⟩
    rw [hP]
    have HPL := Lib.hid hP
    clear hP
    cases P with
    | none =>
      have e0 : iOf none = -1 := rfl
      have b0 : decide ((-1 : Int) < 0) = true := rfl
      go_wp2_with fail
      go_ret
      have hT := HT1.out
      unfold doRemove at hT
      rw [HPL.out] at hT
      subst hT
      exact ⟨rfl, S, HI1.out, Grew.refl S w, HK1.out⟩
    | some i =>
      have e0 : iOf (some i) = (i : Int) := rfl
      have b0 : decide ((i : Int) < 0) = false := decide_eq_false (by omega)
      go_wp2_with fail
      refine (drop_any g A n c _ _ _ d1.fs _ s w1 HBK.out HFI.out (fun b hb => hb.2) (by omega)).mono ?_
      rintro e w3 ⟨rfl, A3, m3, c3, hb3, hf3, hr3, hg3⟩
      have HB3 := Lib.hid hb3
      have HF3 := Lib.hid hf3
      have HR3 := Lib.hid hr3
      have HG3 := Lib.hid hg3
      have HS3 := Lib.hid hg3.size
      clear hb3 hf3 hr3 hg3
      go_wp2_with fail
      go_ret
      have hT := HT1.out
      unfold doRemove at hT
      rw [HPL.out] at hT
      subst hT
      have hs1 := HK1.out.size
      have hgl := HBK.out.lt
      refine ⟨rfl, fun b => S b ∨ w1.heap.size ≤ b ∧ b < w3.heap.size, IsRef.mk HB3.out (.inl HSG.out) (fun k hk => ?_) (fun b hb => ?_) ?_, fun k hk => ?_, ?_⟩
      · rcases hk with hk | hk
        · have := HLT.out k hk
          have := HS3.out
          omega
        · exact hk.2
      · have h1 := HR3.out b hb
        have h2 := files_lt HF3.out b hb
        exact ⟨.inr ⟨h1, h2⟩, by omega⟩
      · exact HF3.out.more fun b hb _ => ⟨.inl hb.1, hb.2⟩
      · rcases hk with hk | hk
        · exact .inl hk
        · exact .inr (by omega)
      · exact HK1.out.trans (Keeps.ofGrown HG3.out HSG.out) (Grew.refl S w)
set_option maxRecDepth 20000 in
set_option maxHeartbeats 8000000 in
theorem read_any (g : Nat) (S : Nat → Prop) (d : Dk) (s : ByteArray) (w : World) (h : IsRef w S g d) (hfine : Fine d) :
    Calls Try.prog 31 #[.pointer (some ⟨g, 0, none⟩), .string s] w (fun e w' => ∃ V n c, e = .returned (.tuple #[.slice V n c, .int .i64 ((read s d).2 : Int)]) ∧ Rd w' V n c (cs (read s d).1) ∧ Below w.heap.size w w') := by
  obtain ⟨A, c, hb, hSg, hlt, hown, hfi⟩ := h
  obtain ⟨T, hT⟩ : ∃ T, read s d = T := ⟨_, rfl⟩
  rw [hT]
  unfold read at hT
  have hus := hfine.used
  obtain ⟨fs, room, fuse, dn⟩ := d
  simp only at hb hfi hT hus hown
  obtain ⟨n, hn⟩ : ∃ n, fs.length = n := ⟨_, rfl⟩
  rw [hn] at hb hfi hown
  have HN := Lib.hid hn
  have HBK := Lib.hid hb
  have HFI := Lib.hid hfi
  have HT := Lib.hid hT
  obtain ⟨c0, c1, c2, c3⟩ := cells_dk hb
  have HC0 := Lib.hid c0
  clear hb hfi hT hn hlt hown hSg hfine c1 c2
  cases dn with
  | true =>
    go_enter Try.func31, Try.ntmps31
    go_wp2_with fail
    refine bodyPost_ret (v := .tuple #[.slice none 0 0, .int .i64 15]) (by simp [results, Try.results31, go_sem]) rfl ?_
    have hT := HT.out
    rw [if_pos (by first | rfl | trivial)] at hT
    subst hT
    exact ⟨none, 0, 0, rfl, Rd.nil_ _, Below.refl _ _⟩
  | false =>
    go_enter Try.func31, Try.ntmps31
    go_wp2_with fail
    refine (at_any g A n c _ _ _ fs _ s w HBK.out HFI.out).mono ?_
    rintro e u ⟨rfl, hu⟩
    replace hu := hu.symm
    subst hu
    rw [atI_eq]
    obtain ⟨P, hP⟩ : ∃ P, place fs s = P := ⟨_, rfl⟩
    rw [hP]
    have HPL := Lib.hid hP
    clear hP
    cases P with
    | none =>
      have e0 : iOf none = -1 := rfl
      have b0 : decide ((-1 : Int) < 0) = true := rfl
      go_wp2_with fail
      refine bodyPost_ret (v := .tuple #[.slice none 0 0, .int .i64 8]) (by simp [results, Try.results31, go_sem]) rfl ?_
      have hT := HT.out
      rw [if_neg (by simp), HPL.out] at hT
      subst hT
      exact ⟨none, 0, 0, rfl, Rd.nil_ _, Below.refl _ _⟩
    | some i =>
      have e0 : iOf (some i) = (i : Int) := rfl
      obtain ⟨f, hfk, hnm⟩ := place_some HPL.out
      obtain ⟨gr, o, SA, sc, TA, tc, rfl, ho0, hgr, q0, q1, q2, r1, r2⟩ := HFI.out.at_ hfk
      have hin : i < n := by rw [← HN.out]; exact (List.getElem?_eq_some_iff.1 hfk).1
      have hle := len_used hfk
      have hal := all_any f.nm SA TA f.sure.length sc f.tail.length tc f.sure f.tail w r1.1 r2.1 (by omega) (by omega)
      have hga : fs.getD i ⟨s, [], []⟩ = f := by rw [List.getD_eq_getElem?_getD, hfk]; rfl
      have b0 : decide ((i : Int) < 0) = false := decide_eq_false (by omega)
      have b2 : decide ((n : Int) ≤ (i : Int)) = false := decide_eq_false (by omega)
      have b3 : ¬ n ≤ i := by omega
      have HAL := Lib.hid hal
      have HGA := Lib.hid hga
      clear hfk hnm r1 r2 hal hle hga ho0
      go_wp2_with fail
      refine HAL.out.mono ?_
      rintro e u ⟨V7, c7, rfl, ho7, hb7⟩
      have HO7 := Lib.hid ho7
      have HB7 := Lib.hid hb7
      clear ho7 hb7 q0 q1 q2
      go_wp2_with fail
      refine bodyPost_ret (v := .tuple #[.slice V7 (f.sure.length + f.tail.length) c7, .int .i64 0]) (by simp [results, Try.results31, go_sem]) rfl ?_
      have hT := HT.out
      rw [if_neg (by simp), HPL.out] at hT
      simp only at hT
      rw [HGA.out] at hT
      subst hT
      exact ⟨V7, f.sure.length + f.tail.length, c7, rfl, Rd.own HO7.out, HB7.out⟩
end Go.Proofs.Ytcnjjabjdepjgaa.Dsk
