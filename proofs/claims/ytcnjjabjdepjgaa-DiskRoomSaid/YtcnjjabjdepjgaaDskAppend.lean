/-
  Texts of earlier layers, as one.
-/
import Derived.Test.YtcnjjabjdepjgaaDskCut
import Derived.Test.YtcnjjabjdepjgaaRBase
import Derived.Deep.RegionHeld
import Derived.Deep.Cut
/- The document's Append. -/
namespace Go.Proofs.Ytcnjjabjdepjgaa.Dsk
open Go.RowKit Mem Cod

set_option maxRecDepth 20000 in
set_option maxHeartbeats 8000000 in
theorem append_any (g : Nat) (S : Nat → Prop) (d : Dk) (s : ByteArray) (BA : Option Addr) (bn bc : Nat) (bs : List Nat) (w : World) (h : IsRef w S g d) (hfine : Fine d) (hrb : Rd w BA bn bc (cs bs)) (hbS : 0 < bn → ∀ ad, BA = some ad → ¬ S ad.block) (hs : s.size ≤ 9223372036854775807) (hbn : bn ≤ 1099511627776) :
    Calls Try.prog 27 #[.pointer (some ⟨g, 0, none⟩), .string s, .slice BA bn bc] w (RefDoes g S (whole (doAppend s bs) d) w) := by
  have hir := h
  have hrbk : ∀ u, w.grownBy u (some g) → Rd u BA bn bc (cs bs) := fun u hu => by
    obtain ⟨A, c, _, hSg, _⟩ := h
    refine ⟨hrb.len, hrb.le, hrb.cap, hrb.nil, fun h0 => ?_⟩
    obtain ⟨ad, e, hlt, hc⟩ := hrb.spot h0
    refine ⟨ad, e, Nat.lt_of_lt_of_le hlt hu.size, fun j v hv => ?_⟩
    have hb : (ad.add j).block = ad.block := add_block _ _
    exact (World.cell?_of_block (by rw [hb]; exact hu.block _ hlt fun e' => hbS h0 ad e (by injection e' with e'; rw [e']; exact hSg))).trans (hc j v hv)
  have hbl := hrb.len
  rw [length_cs] at hbl
  obtain ⟨A, c, hb, hSg, hlt, hown, hfi⟩ := h
  have hdd := deed_any g (.slice A d.fs.length c) d w hb hfine.2.2
  have hfd := hfine.deed
  have hfs := (deed_fs d).1
  have hroom := (deed_fs d).2
  obtain ⟨T, hT⟩ : ∃ T, whole (doAppend s bs) d = T := ⟨_, rfl⟩
  rw [hT]
  unfold whole at hT
  have hdn : fails d = true → deed d = { d with dn := true } := fun h => by unfold deed; rw [if_pos h]
  obtain ⟨d1, hd1⟩ : ∃ d1, deed d = d1 := ⟨_, rfl⟩
  rw [hd1] at hdd hfd hfs hroom hT
  have hir1 : ∀ u, w.grownBy u (some g) → Blk u g 60 #[.slice A d.fs.length c, .int .i64 d1.room, .int .i64 d1.fuse, .bool d1.dn] → IsRef u S g d1 := fun u hu hbu => by
    refine IsRef.mk hbu hSg (fun k hk => Nat.lt_of_lt_of_le (hlt k hk) hu.size) hown ?_
    rw [hfs]
    exact hfi.keep hu.size (fun b hb hl => ⟨hb, hu.block b hl fun e => hb.2 (by injection e)⟩) fun b hb => hu.block b (files_lt hfi b hb) fun e => (hown b hb).2 (by injection e)
  have hk1 : ∀ u, w.grownBy u (some g) → Keeps S w u := fun u hu => Keeps.ofGrown hu hSg
  generalize fails d = t at hdd hT
  have HDD := Lib.hid hdd
  have HT := Lib.hid hT
  have HIR := Lib.hid hir1
  have HKP := Lib.hid hk1
  have HFD := Lib.hid hfd
  have HSG := Lib.hid hSg
  clear hdd hT hir1 hk1 hfd hfs hroom hir hb hlt hown hfi hfine hd1 hdn hSg
  go_enter Try.func27, Try.ntmps27
  go_wp2_with fail
  refine HDD.out.mono ?_
  rintro e w1 ⟨rfl, hb1, hg1⟩
  have HI1 := Lib.hid (HIR.out w1 hg1 hb1)
  have HK1 := Lib.hid (HKP.out w1 hg1)
  have HRB := Lib.hid (hrbk w1 hg1)
  clear hb1 hg1 HDD HIR HKP hrbk hrb
  cases t with
  | true =>
    go_wp2_with fail
    go_ret
    have hT := HT.out
    rw [if_pos (by first | rfl | trivial)] at hT
    subst hT
    exact ⟨rfl, S, HI1.out, Grew.refl S w, HK1.out⟩
  | false =>
    have hT := HT.out
    rw [if_neg (by simp)] at hT
    have HT1 := Lib.hid hT
    clear hT HT
    clear A c
    obtain ⟨A, c, hb, hSg, hlt, hown, hfi⟩ := HI1.out
    have hn16 := HFD.out.length
    have hus := HFD.out.used
    obtain ⟨n, hn⟩ : ∃ n, d1.fs.length = n := ⟨_, rfl⟩
    rw [hn] at hb hown hfi hn16
    have HN := Lib.hid hn
    have HBK := Lib.hid hb
    have HLT := Lib.hid hlt
    have HOW := Lib.hid hown
    have HFI := Lib.hid hfi
    clear hb hlt hown hfi hn hSg
    obtain ⟨i0, hi, hz0, hz1, hz2⟩ := info_parts info5
    go_wp2_with fail
    refine (name_any s w1 hs).mono ?_
    rintro e u ⟨rfl, hu⟩
    replace hu := hu.symm
    subst hu
    obtain ⟨q, hq⟩ : ∃ q, isName s = q := ⟨_, rfl⟩
    rw [hq]
    have HQ := Lib.hid hq
    clear hq
    cases q with
    | false =>
      go_wp2_with fail
      go_ret
      have hT := HT1.out
      unfold doAppend at hT
      rw [if_pos HQ.out] at hT
      subst hT
      exact ⟨rfl, S, HI1.out, Grew.refl S w, HK1.out⟩
    | true =>
      have hgl := HBK.out.lt
      have c1 := (cells_dk HBK.out).2.1
      obtain ⟨us, hus'⟩ : ∃ us, used d1.fs = us := ⟨_, rfl⟩
      have hu1 := fun (u : World) (hu : Below w1.heap.size w1 u) => used_any g A n c _ _ _ d1.fs _ u (HBK.out.bel hu) (HFI.out.below hu) (by omega)
      rw [hus'] at hus hu1
      have hwr : IntKind.i64.wrap ((us : Int) + (bn : Int)) = (us : Int) + (bn : Int) := wrap64 (by omega) (by omega)
      obtain ⟨tf, htf⟩ : ∃ tf, decide (d1.room < (us : Int) + (bn : Int)) = tf := ⟨_, rfl⟩
      have HUS := Lib.hid hu1
      have HUU := Lib.hid hus'
      have HWR := Lib.hid hwr
      have HTF := Lib.hid htf
      have HS5 := Lib.hid (show ∀ u, Below w1.heap.size w1 u → u.cell? ⟨g, 1, none⟩ = some (.int .i64 d1.room) from fun u hu => (hu.cell (p := ⟨g, 1, none⟩) hgl).trans c1)
      have HC := Lib.hid (Below.drew (Below.refl w1.heap.size w1))
      clear hu1 hus' hwr htf c1
      go_upto_region 5 with fail
      refine wp_region_held_drew (S := (fun w' => w'.cell? ⟨g, 1, none⟩ = some (.int .i64 d1.room))) (by kernel_rfl) (by with_reducible exact HS5.out _ HC.out) (fun hHeld => ?_)
      refine held_take (i := 0) (d := 13) (v := (.pointer (some ⟨g, 0, none⟩))) rfl rfl (by kernel_rfl) (by kernel_rfl) (by kernel_rfl) (fun _ _ _ h => h) (by kernel_rfl) (fun w hSw => by (obtain hS := hSw); go_simp) hHeld ?_
      try simp only [List.setIfInBounds_toArray, List.set_cons_zero, List.set_cons_succ]
      refine held_take (i := 2) (d := 15) (v := (.slice BA bn bc)) rfl rfl (by kernel_rfl) (by kernel_rfl) (by kernel_rfl) (fun _ _ _ h => h) (by kernel_rfl) (fun w hSw => by (obtain hS := hSw); go_simp) hHeld ?_
      try simp only [List.setIfInBounds_toArray, List.set_cons_zero, List.set_cons_succ]
      refine held_take (i := 3) (d := 16) (v := (.int .i64 (bn : Int))) rfl rfl (by kernel_rfl) (by kernel_rfl) (by kernel_rfl) (fun _ _ _ h => h) (by kernel_rfl) (fun w hS => by go_simp) hHeld ?_
      try simp only [List.setIfInBounds_toArray, List.set_cons_zero, List.set_cons_succ]
      refine held_take (i := 5) (d := 18) (v := (.pointer (some ⟨g, 0, none⟩))) rfl rfl (by kernel_rfl) (by kernel_rfl) (by kernel_rfl) (fun _ _ _ h => h) (by kernel_rfl) (fun w hSw => by (obtain hS := hSw); go_simp) hHeld ?_
      try simp only [List.setIfInBounds_toArray, List.set_cons_zero, List.set_cons_succ]
      refine held_take (i := 6) (d := 19) (v := (.pointer (some ⟨g, 0, none⟩))) rfl rfl (by kernel_rfl) (by kernel_rfl) (by kernel_rfl) (fun _ _ _ h => h) (by kernel_rfl) (fun w hSw => by (obtain hS := hSw); go_simp) hHeld ?_
      try simp only [List.setIfInBounds_toArray, List.set_cons_zero, List.set_cons_succ]
      refine held_take (i := 7) (d := 20) (v := (.pointer (some ⟨g, 1, none⟩))) rfl rfl (by kernel_rfl) (by kernel_rfl) (by kernel_rfl) (fun _ _ _ h => h) (by kernel_rfl) (fun w hSw => by (obtain hS := hSw); go_simp) hHeld ?_
      try simp only [List.setIfInBounds_toArray, List.set_cons_zero, List.set_cons_succ]
      refine held_take (i := 8) (d := 21) (v := (.int .i64 d1.room)) rfl rfl (by kernel_rfl) (by kernel_rfl) (by kernel_rfl) (fun _ _ _ h => h) (by kernel_rfl) (fun w hS => by go_simp) hHeld ?_
      try simp only [List.setIfInBounds_toArray, List.set_cons_zero, List.set_cons_succ]
      refine wpAnyH_ready (rs := [1]) (by kernel_rfl) (by simp) ?_
      refine AllReadyH.cons rfl (fun K hK => ?_) AllReadyH.nil
      go_simp
      go_at_call 34
      refine (HUS.out _ HC.out).mono ?_
      rintro e u5 ⟨rfl, q5, hq5⟩
      replace HC := Lib.hid (show Below w1.heap.size w1 u5 by rw [hq5]; exact below_drewN HC.out q5)
      clear hq5
      refine hK.out _ _ (by with_reducible exact HS5.out _ HC.out) (fun hHeld => ?_)
      clear hK K
      refine held_take (i := 4) (d := 17) (v := (.int .i64 ((us : Int) + (bn : Int)))) rfl rfl (by kernel_rfl) (by kernel_rfl) (by kernel_rfl) (fun _ _ _ h => h) (by kernel_rfl) (fun w hS => by go_simp; exact HWR.out) hHeld ?_
      try simp only [List.setIfInBounds_toArray, List.set_cons_zero, List.set_cons_succ]
      refine held_take (i := 9) (d := 22) (v := (.bool tf)) rfl rfl (by kernel_rfl) (by kernel_rfl) (by kernel_rfl) (fun _ _ _ h => h) (by kernel_rfl) (fun w hS => by go_simp; exact HTF.out) hHeld ?_
      try simp only [List.setIfInBounds_toArray, List.set_cons_zero, List.set_cons_succ]
      refine wpAnyH_done (by kernel_rfl) ?_ _
      have hB5 := HC.out
      have HB5 := Lib.hid hB5
      clear hB5
      cases tf with
      | true =>
        go_wp2_with fail
        go_ret
        have hT := HT1.out
        unfold doAppend at hT
        rw [if_neg (by rw [HQ.out]; simp), if_pos (by rw [HUU.out, hbl]; exact of_decide_eq_true HTF.out)] at hT
        subst hT
        exact ⟨rfl, S, HI1.out.below HB5.out, Grew.refl S w, HK1.out.trans (Keeps.ofBelow HB5.out) (Grew.refl S w)⟩
      | false =>
        have hT := HT1.out
        unfold doAppend at hT
        rw [if_neg (by rw [HQ.out]; simp), if_neg (by rw [HUU.out, hbl]; exact of_decide_eq_false HTF.out)] at hT
        have HT2 := Lib.hid hT
        clear hT HT1
        go_wp2_with fail
        refine (at_any g A n c _ _ _ d1.fs _ s u5 (HBK.out.bel HB5.out) (HFI.out.below HB5.out)).mono ?_
        rintro e u ⟨rfl, hu⟩
        replace hu := hu.symm
        subst hu
        rw [atI_eq]
        obtain ⟨P, hP⟩ : ∃ P, place d1.fs s = P := ⟨_, rfl⟩
        rw [hP]
        have HPL := Lib.hid hP
        clear hP
        cases P with
        | none =>
          have e0 : iOf none = -1 := rfl
          have b0 : decide ((-1 : Int) < 0) = true := rfl
          have c0 := (cells_dk (HBK.out.bel HB5.out)).1
          by_cases h16 : 16 ≤ n
          · have b1 : decide (16 ≤ (n : Int)) = true := decide_eq_true (by omega)
            go_wp2_with fail
            go_ret
            have hT := HT2.out
            rw [HPL.out] at hT
            simp only at hT
            rw [if_pos (by rw [HN.out]; exact h16)] at hT
            subst hT
            exact ⟨rfl, S, HI1.out.below HB5.out, Grew.refl S w, HK1.out.trans (Keeps.ofBelow HB5.out) (Grew.refl S w)⟩
          · have b1 : decide (16 ≤ (n : Int)) = false := decide_eq_false (by omega)
            have hr5 := (HRB.out.below HB5.out).alloc (.cells #[] 5)
            have HR5 := Lib.hid hr5
            clear hr5
            go_upto_region 11 with fail
            go_wp2_with (at_builtin; refine wpList_append_rd rfl (.tmp 40) (.tmp 41) 29 rfl u5.heap.size 5 i0 _ 1 Try.underlying29 hi hz0 hz1 hz2 rfl (some ⟨u5.heap.size, 0, none⟩) 0 0 [] rfl ⟨rfl, .inr ⟨u5.heap.size, 0, #[], rfl, Nat.le_refl _, heap_alloc_new u5 _, Nat.le_refl _, by unfold maxLen; omega, rfl, rfl⟩⟩ BA bn bc (cs bs) rfl HR5.out (cs_one _) (by unfold maxLen; omega) (by omega) (by rw [size_alloc]; omega) ?_; intro V4 c4 w4 hown4 hb4)
            rw [Nat.zero_add, List.nil_append] at hown4
            have hbu4 := (bel_alloc (Below.refl u5.heap.size u5) _).trans hb4
            have hb14 := HB5.out.trans (hbu4.mono HB5.out.size)
            have hg1 : g < w1.heap.size := HBK.out.lt
            have hs5 := HB5.out.size
            have hs4 := hbu4.size
            have hf4 := (HFI.out.below hb14).more (S' := fun b => (S b ∨ w1.heap.size ≤ b ∧ b < w4.heap.size) ∧ b ≠ g) fun b hb _ => ⟨.inl hb.1, hb.2⟩
            have hrd4 : RdS (fun b => (S b ∨ w1.heap.size ≤ b ∧ b < w4.heap.size) ∧ b ≠ g) w4 V4 bs.length c4 bs := by
              rw [hbl]
              exact RdS.new hown4 fun b hb hlt => ⟨.inr ⟨by omega, hlt⟩, by omega⟩
            have hpt := put_any g A n c _ _ _ d1.fs _ ⟨s, [], bs⟩ none V4 0 c4 w4 (HBK.out.bel hb14) hf4 ⟨RdS.none_ _ _, hrd4⟩ (fun b hb => hb.2) (by omega)
            simp only [List.length_nil, hbl] at hpt
            have HPT := Lib.hid hpt
            have HB4 := Lib.hid hb14
            clear hf4 hrd4 hpt hb14 hbu4 hb4 hown4
            go_wp2_with fail
            refine HPT.out.mono ?_
            rintro e w5 ⟨rfl, A5, m5, c5, hb5, hf5, hr5, hg5⟩
            have HB5' := Lib.hid hb5
            have HF5 := Lib.hid hf5
            have HR5' := Lib.hid hr5
            have HG5 := Lib.hid hg5
            clear hb5 hf5 hr5 hg5 HPT
            go_wp2_with fail
            go_ret
            have hT := HT2.out
            rw [HPL.out] at hT
            simp only at hT
            rw [if_neg (by rw [HN.out]; exact h16)] at hT
            subst hT
            have hs1 := HK1.out.size
            have hu5 := HG5.out.size
            refine ⟨rfl, fun b => S b ∨ w1.heap.size ≤ b ∧ b < w5.heap.size, IsRef.mk HB5'.out (.inl HSG.out) (fun k hk => ?_) (fun b hb => ?_) ?_, fun k hk => ?_, ?_⟩
            · rcases hk with hk | hk
              · have := HLT.out k hk
                omega
              · exact hk.2
            · have h1 := HR5'.out b hb
              have h2 := files_lt HF5.out b hb
              exact ⟨.inr ⟨by omega, h2⟩, by omega⟩
            · exact HF5.out.more fun b hb _ => ⟨hb.1.imp id fun h => ⟨h.1, by omega⟩, hb.2⟩
            · rcases hk with hk | hk
              · exact .inl hk
              · exact .inr (by omega)
            · exact HK1.out.trans ((Keeps.ofBelow (S := S) HB4.out).trans (Keeps.ofGrown HG5.out HSG.out) (Grew.refl S w1)) (Grew.refl S w)
        | some i =>
          obtain ⟨f, hfk, hnm⟩ := place_some HPL.out
          obtain ⟨gr, o, SA, sc, TA, tc, rfl, ho0, hgr, q0, q1, q2, r1, r2⟩ := (HFI.out.below HB5.out).at_ hfk
          subst ho0
          rw [Nat.zero_add] at q0 q1 q2
          have c0 := (cells_dk (HBK.out.bel HB5.out)).1
          have hgl : g < u5.heap.size := (HBK.out.bel HB5.out).lt
          have hin : i < n := by rw [← HN.out]; exact (List.getElem?_eq_some_iff.1 hfk).1
          have hle := len_used hfk
          rw [HUU.out] at hle
          have e0 : iOf (some i) = (i : Int) := rfl
          have b0 : decide ((i : Int) < 0) = false := decide_eq_false (by omega)
          have b2 : decide ((n : Int) ≤ (i : Int)) = false := decide_eq_false (by omega)
          have b3 : ¬ n ≤ i := by omega
          have hgg : ¬ g = gr := fun e => (HOW.out gr rfl).2 e.symm
          have hsg : S gr := (HOW.out gr rfl).1
          have hgrl : gr < w1.heap.size := HLT.out gr hsg
          have hu5 := HB5.out.size
          have hput : ∀ (u : World) (V : Option Addr) (k : Nat), Below u5.heap.size u5 u → u.ownsRow u5.heap.size 5 1 (.slice V (0 + f.tail.length + bn) k) (0 + f.tail.length + bn) ([] ++ cs f.tail ++ cs bs) →
              Files (fun b => (S b ∨ w1.heap.size ≤ b ∧ b < u.heap.size) ∧ b ≠ g) (u.setCell ⟨gr, i * 3 + 2, none⟩ (.slice V (f.tail.length + bn) k)) (some ⟨gr, 0, none⟩) n c (d1.fs.set i { f with tail := f.tail ++ bs }) ∧ u.grownBy (u.setCell ⟨gr, i * 3 + 2, none⟩ (.slice V (f.tail.length + bn) k)) (some gr) := fun u V k hu ho => by
            have hf := ((HFI.out.below HB5.out).below hu).more (S' := fun b => (S b ∨ w1.heap.size ≤ b ∧ b < u.heap.size) ∧ b ≠ g) fun b hb _ => ⟨.inl hb.1, hb.2⟩
            have e : (f.tail ++ bs).length = f.tail.length + bn := by rw [List.length_append, hbl]
            rw [List.nil_append, ← cs_append, Nat.zero_add, ← e] at ho
            rw [← e]
            exact files_tail hf hfk (RdS.new ho fun b hb hlt => ⟨⟨.inr ⟨by omega, hlt⟩, by have := HBK.out.lt; omega⟩, by omega⟩)
          have HEND := Lib.hid (show ∀ u u' : World, Below u5.heap.size u5 u → Files (fun b => (S b ∨ w1.heap.size ≤ b ∧ b < u.heap.size) ∧ b ≠ g) u' (some ⟨gr, 0, none⟩) n c (d1.fs.set i { f with tail := f.tail ++ bs }) → u.grownBy u' (some gr) → RefDoes g S (0, { d1 with fs := d1.fs.set i { f with tail := f.tail ++ bs } }) w (.returned (.int .i64 0)) u' from fun u u' hb hf hg => by
            have hb1 := HB5.out.trans (hb.mono HB5.out.size)
            have hs1 := hb1.size
            have hs2 := hg.size
            have hs3 := HK1.out.size
            refine ⟨rfl, fun b => S b ∨ w1.heap.size ≤ b ∧ b < u.heap.size, IsRef.mk ((HBK.out.bel hb1).grown hg (fun e => hgg (by injection e))) (.inl HSG.out) (fun k hk => ?_) (fun b hb => ?_) hf, fun k hk => ?_, ?_⟩
            · rcases hk with hk | hk
              · have := HLT.out k hk
                omega
              · omega
            · have h := HOW.out b hb
              exact ⟨.inl h.1, h.2⟩
            · rcases hk with hk | hk
              · exact .inl hk
              · exact .inr (by omega)
            · exact HK1.out.trans ((Keeps.ofBelow (S := S) hb1).trans (Keeps.ofGrown hg hsg) (Grew.refl S w1)) (Grew.refl S w))
          have HP2 := Lib.hid (show ∀ u, Below u5.heap.size u5 u → u.cell? ⟨gr, i * 3 + 2, none⟩ = some (.slice TA f.tail.length tc) from fun u hu => (hu.cell (p := ⟨gr, i * 3 + 2, none⟩) hgr).trans q2)
          have HZ2 := Lib.hid (show ∀ u, Below u5.heap.size u5 u → u.frozen? ⟨gr, i * 3 + 2, none⟩ = false from fun u hu => files_soft ((HFI.out.below HB5.out).below hu) _)
          have HCG := Lib.hid (show ∀ u, Below u5.heap.size u5 u → u.cell? ⟨g, 0, none⟩ = some (.slice (some ⟨gr, 0, none⟩) n c) from fun u hu => (hu.cell (p := ⟨g, 0, none⟩) hgl).trans c0)
          have HTA := Lib.hid r2.1
          have HPUT := Lib.hid hput
          have HGG := Lib.hid hgg
          have HFK := Lib.hid hfk
          have HRB0 := HRB
          have HRB := Lib.hid (HRB0.out.below HB5.out)
          have HC := Lib.hid (Below.drew (Below.refl u5.heap.size u5))
          clear hfk hnm q0 q1 q2 r1 r2 c0 hput hgg HRB0
          go_upto_region 13 with fail
          refine wp_region_held_drew (S := (fun w' => w'.cell? ⟨g, 0, none⟩ = some (.slice (some ⟨gr, 0, none⟩) n c))) (by kernel_rfl) (by first | (with_reducible exact HS3.out) | (with_reducible exact HCG.out _ HC.out)) (fun hHeld => ?_)
          refine held_take (i := 0) (d := 45) (v := (.pointer (some ⟨g, 0, none⟩))) rfl rfl (by kernel_rfl) (by kernel_rfl) (by kernel_rfl) (fun _ _ _ h => h) (by kernel_rfl) (fun w hSw => by (obtain hS := hSw); go_simp) hHeld ?_
          try simp only [List.setIfInBounds_toArray, List.set_cons_zero, List.set_cons_succ]
          refine held_take (i := 1) (d := 46) (v := (.pointer (some ⟨g, 0, none⟩))) rfl rfl (by kernel_rfl) (by kernel_rfl) (by kernel_rfl) (fun _ _ _ h => h) (by kernel_rfl) (fun w hSw => by (obtain hS := hSw); go_simp) hHeld ?_
          try simp only [List.setIfInBounds_toArray, List.set_cons_zero, List.set_cons_succ]
          refine held_take (i := 2) (d := 47) (v := (.pointer (some ⟨g, 0, none⟩))) rfl rfl (by kernel_rfl) (by kernel_rfl) (by kernel_rfl) (fun _ _ _ h => h) (by kernel_rfl) (fun w hSw => by (obtain hS := hSw); go_simp) hHeld ?_
          try simp only [List.setIfInBounds_toArray, List.set_cons_zero, List.set_cons_succ]
          refine held_take (i := 3) (d := 48) (v := (.slice (some ⟨gr, 0, none⟩) n c)) rfl rfl (by kernel_rfl) (by kernel_rfl) (by kernel_rfl) (fun _ _ _ h => h) (by kernel_rfl) (fun w hS => by go_simp) hHeld ?_
          try simp only [List.setIfInBounds_toArray, List.set_cons_zero, List.set_cons_succ]
          refine held_take (i := 4) (d := 49) (v := (.int .i64 (i : Int))) rfl rfl (by kernel_rfl) (by kernel_rfl) (by kernel_rfl) (fun _ _ _ h => h) (by kernel_rfl) (fun w hSw => by (obtain hS := hSw); go_simp) hHeld ?_
          try simp only [List.setIfInBounds_toArray, List.set_cons_zero, List.set_cons_succ]
          refine held_take (i := 6) (d := 51) (v := (.pointer (some ⟨g, 0, none⟩))) rfl rfl (by kernel_rfl) (by kernel_rfl) (by kernel_rfl) (fun _ _ _ h => h) (by kernel_rfl) (fun w hSw => by (obtain hS := hSw); go_simp) hHeld ?_
          try simp only [List.setIfInBounds_toArray, List.set_cons_zero, List.set_cons_succ]
          refine held_take (i := 7) (d := 52) (v := (.pointer (some ⟨g, 0, none⟩))) rfl rfl (by kernel_rfl) (by kernel_rfl) (by kernel_rfl) (fun _ _ _ h => h) (by kernel_rfl) (fun w hSw => by (obtain hS := hSw); go_simp) hHeld ?_
          try simp only [List.setIfInBounds_toArray, List.set_cons_zero, List.set_cons_succ]
          refine held_take (i := 8) (d := 53) (v := (.pointer (some ⟨g, 0, none⟩))) rfl rfl (by kernel_rfl) (by kernel_rfl) (by kernel_rfl) (fun _ _ _ h => h) (by kernel_rfl) (fun w hSw => by (obtain hS := hSw); go_simp) hHeld ?_
          try simp only [List.setIfInBounds_toArray, List.set_cons_zero, List.set_cons_succ]
          refine held_take (i := 9) (d := 54) (v := (.slice (some ⟨gr, 0, none⟩) n c)) rfl rfl (by kernel_rfl) (by kernel_rfl) (by kernel_rfl) (fun _ _ _ h => h) (by kernel_rfl) (fun w hS => by go_simp) hHeld ?_
          try simp only [List.setIfInBounds_toArray, List.set_cons_zero, List.set_cons_succ]
          refine held_take (i := 10) (d := 55) (v := (.int .i64 (i : Int))) rfl rfl (by kernel_rfl) (by kernel_rfl) (by kernel_rfl) (fun _ _ _ h => h) (by kernel_rfl) (fun w hSw => by (obtain hS := hSw); go_simp) hHeld ?_
          try simp only [List.setIfInBounds_toArray, List.set_cons_zero, List.set_cons_succ]
          refine held_take (i := 11) (d := 56) (v := (.pointer (some ⟨gr, i * 3, none⟩))) rfl rfl (by kernel_rfl) (by kernel_rfl) (by kernel_rfl) (fun _ _ _ h => h) (by kernel_rfl) (fun w hSw => by (obtain hS := hSw); go_simp) hHeld ?_
          try simp only [List.setIfInBounds_toArray, List.set_cons_zero, List.set_cons_succ]
          refine held_take (i := 12) (d := 57) (v := (.pointer (some ⟨gr, i * 3 + 2, none⟩))) rfl rfl (by kernel_rfl) (by kernel_rfl) (by kernel_rfl) (fun _ _ _ h => h) (by kernel_rfl) (fun w hSw => by (obtain hS := hSw); go_simp) hHeld ?_
          try simp only [List.setIfInBounds_toArray, List.set_cons_zero, List.set_cons_succ]
          refine held_take (i := 15) (d := 60) (v := (.slice BA bn bc)) rfl rfl (by kernel_rfl) (by kernel_rfl) (by kernel_rfl) (fun _ _ _ h => h) (by kernel_rfl) (fun w hSw => by (obtain hS := hSw); go_simp) hHeld ?_
          try simp only [List.setIfInBounds_toArray, List.set_cons_zero, List.set_cons_succ]
          refine wpAnyH_ready (rs := [5, 13]) (by kernel_rfl) (by simp) ?_
          refine AllReadyH.cons rfl (fun K hK => ?_) (AllReadyH.cons rfl (fun K hK => ?_) AllReadyH.nil)
          · go_simp
            have HO := Lib.hid (show ((u5.alloc (.cells #[] 5)).drew).ownsRow u5.heap.size 5 1 (.slice (some ⟨u5.heap.size, 0, none⟩) 0 0) 0 [] from ⟨rfl, .inr ⟨u5.heap.size, 0, #[], rfl, Nat.le_refl _, heap_alloc_new u5 _, Nat.le_refl _, by unfold maxLen; omega, rfl, rfl⟩⟩)
            replace HC := Lib.hid (show Below u5.heap.size u5 (u5.alloc (.cells #[] 5)).drew from Below.drew (bel_alloc (Below.refl _ _) _))
            refine hK.out _ _ (by first | (with_reducible exact HS3.out) | (with_reducible exact HCG.out _ HC.out)) (fun hHeld => ?_)
            clear hK K
            refine wpAnyH_ready (rs := [13]) (by kernel_rfl) (by simp) ?_
            refine AllReadyH.cons rfl (fun K hK => ?_) AllReadyH.nil
            have p2 := HP2.out _ HC.out
            go_simp
            clear p2
            skip
            refine hK.out _ _ (by first | (with_reducible exact HS3.out) | (with_reducible exact HCG.out _ HC.out)) (fun hHeld => ?_)
            clear hK K
            refine wpAnyH_ready (rs := [14]) (by kernel_rfl) (by simp) ?_
            refine AllReadyH.cons rfl (fun K hK => ?_) AllReadyH.nil
            refine step_append_rd rfl (.tmp 50) (.tmp 58) 29 rfl u5.heap.size 5 i0 _ 1 Try.underlying29 hi hz0 hz1 hz2 rfl (some ⟨u5.heap.size, 0, none⟩) 0 0 [] (by rfl) HO.out TA f.tail.length tc (cs f.tail) (by rfl) (HTA.out.below HC.out) (cs_one _) (by unfold maxLen; omega) (by omega) HC.out.size ?_
            intro V5 c5 x5 hown hb
            replace HO := Lib.hid hown
            replace HC := Lib.hid (HC.out.trans hb)
            clear hown hb
            show K (Act.put _ (some 59) _) _
            try simp only [Act.put]
            refine hK.out _ _ (by first | (with_reducible exact HS3.out) | (with_reducible exact HCG.out _ HC.out)) (fun hHeld => ?_)
            clear hK K
            refine wpAnyH_ready (rs := [16]) (by kernel_rfl) (by simp) ?_
            refine AllReadyH.cons rfl (fun K hK => ?_) AllReadyH.nil
            refine step_append_rd rfl (.tmp 59) (.tmp 60) 29 rfl u5.heap.size 5 i0 _ 1 Try.underlying29 hi hz0 hz1 hz2 rfl V5 (0 + f.tail.length) c5 ([] ++ cs f.tail) (by rfl) HO.out BA bn bc (cs bs) (by rfl) (HRB.out.below HC.out) (cs_one _) (by unfold maxLen; omega) (by omega) HC.out.size ?_
            intro V6 c6 x6 hown hb
            replace HO := Lib.hid hown
            replace HC := Lib.hid (HC.out.trans hb)
            clear hown hb
            show K (Act.put _ (some 61) _) _
            try simp only [Act.put]
            refine hK.out _ _ (by first | (with_reducible exact HS3.out) | (with_reducible exact HCG.out _ HC.out)) (fun hHeld => ?_)
            clear hK K
            refine held_take (i := 17) (d := 62) (v := (.pointer (some ⟨gr, i * 3, none⟩))) rfl rfl (by kernel_rfl) (by kernel_rfl) (by kernel_rfl) (fun _ _ _ h => h) (by kernel_rfl) (fun w hSw => by (obtain hS := hSw); go_simp) hHeld ?_
            try simp only [List.setIfInBounds_toArray]
            refine held_take (i := 18) (d := 63) (v := (.pointer (some ⟨gr, i * 3 + 2, none⟩))) rfl rfl (by kernel_rfl) (by kernel_rfl) (by kernel_rfl) (fun _ _ _ h => h) (by kernel_rfl) (fun w hSw => by (obtain hS := hSw); go_simp) hHeld ?_
            try simp only [List.setIfInBounds_toArray]
            refine wpAnyH_ready (rs := [19]) (by kernel_rfl) (by simp) ?_
            refine AllReadyH.cons rfl (fun K hK => ?_) AllReadyH.nil
            have p2 := HP2.out _ HC.out
            have z2 := HZ2.out _ HC.out
            go_simp
            clear p2 z2
            have hfs := HPUT.out _ _ _ HC.out HO.out
            generalize hgen : World.setCell _ ⟨gr, i * 3 + 2, none⟩ (.slice V6 (f.tail.length + bn) c6) = u8 at hfs ⊢
            clear hgen
            have HS3 := Lib.hid (show u8.cell? ⟨g, 0, none⟩ = some (.slice (some ⟨gr, 0, none⟩) n c) from (hfs.2.cell (HCG.out _ HC.out) (fun e => HGG.out (by injection e))))
            have HF8 := Lib.hid hfs
            clear hfs
            refine hK.out _ _ (by first | (with_reducible exact HS3.out) | (with_reducible exact HCG.out _ HC.out)) (fun hHeld => ?_)
            clear hK K
            refine wpAnyH_done (by kernel_rfl) ?_ _
            go_wp2_with fail
            go_ret
            have hT := HT2.out
            rw [HPL.out] at hT
            simp only at hT
            rw [modify_set _ HFK.out] at hT
            subst hT
            exact HEND.out _ _ HC.out HF8.out.1 HF8.out.2
          · have p2 := HP2.out _ HC.out
            go_simp
            clear p2
            skip
            refine hK.out _ _ (by first | (with_reducible exact HS3.out) | (with_reducible exact HCG.out _ HC.out)) (fun hHeld => ?_)
            clear hK K
            refine wpAnyH_ready (rs := [5]) (by kernel_rfl) (by simp) ?_
            refine AllReadyH.cons rfl (fun K hK => ?_) AllReadyH.nil
            go_simp
            have HO := Lib.hid (show ((u5.alloc (.cells #[] 5)).drew).ownsRow u5.heap.size 5 1 (.slice (some ⟨u5.heap.size, 0, none⟩) 0 0) 0 [] from ⟨rfl, .inr ⟨u5.heap.size, 0, #[], rfl, Nat.le_refl _, heap_alloc_new u5 _, Nat.le_refl _, by unfold maxLen; omega, rfl, rfl⟩⟩)
            replace HC := Lib.hid (show Below u5.heap.size u5 (u5.alloc (.cells #[] 5)).drew from Below.drew (bel_alloc (Below.refl _ _) _))
            refine hK.out _ _ (by first | (with_reducible exact HS3.out) | (with_reducible exact HCG.out _ HC.out)) (fun hHeld => ?_)
            clear hK K
            refine wpAnyH_ready (rs := [14]) (by kernel_rfl) (by simp) ?_
            refine AllReadyH.cons rfl (fun K hK => ?_) AllReadyH.nil
            refine step_append_rd rfl (.tmp 50) (.tmp 58) 29 rfl u5.heap.size 5 i0 _ 1 Try.underlying29 hi hz0 hz1 hz2 rfl (some ⟨u5.heap.size, 0, none⟩) 0 0 [] (by rfl) HO.out TA f.tail.length tc (cs f.tail) (by rfl) (HTA.out.below HC.out) (cs_one _) (by unfold maxLen; omega) (by omega) HC.out.size ?_
            intro V5 c5 x5 hown hb
            replace HO := Lib.hid hown
            replace HC := Lib.hid (HC.out.trans hb)
            clear hown hb
            show K (Act.put _ (some 59) _) _
            try simp only [Act.put]
            refine hK.out _ _ (by first | (with_reducible exact HS3.out) | (with_reducible exact HCG.out _ HC.out)) (fun hHeld => ?_)
            clear hK K
            refine wpAnyH_ready (rs := [16]) (by kernel_rfl) (by simp) ?_
            refine AllReadyH.cons rfl (fun K hK => ?_) AllReadyH.nil
            refine step_append_rd rfl (.tmp 59) (.tmp 60) 29 rfl u5.heap.size 5 i0 _ 1 Try.underlying29 hi hz0 hz1 hz2 rfl V5 (0 + f.tail.length) c5 ([] ++ cs f.tail) (by rfl) HO.out BA bn bc (cs bs) (by rfl) (HRB.out.below HC.out) (cs_one _) (by unfold maxLen; omega) (by omega) HC.out.size ?_
            intro V6 c6 x6 hown hb
            replace HO := Lib.hid hown
            replace HC := Lib.hid (HC.out.trans hb)
            clear hown hb
            show K (Act.put _ (some 61) _) _
            try simp only [Act.put]
            refine hK.out _ _ (by first | (with_reducible exact HS3.out) | (with_reducible exact HCG.out _ HC.out)) (fun hHeld => ?_)
            clear hK K
            refine held_take (i := 17) (d := 62) (v := (.pointer (some ⟨gr, i * 3, none⟩))) rfl rfl (by kernel_rfl) (by kernel_rfl) (by kernel_rfl) (fun _ _ _ h => h) (by kernel_rfl) (fun w hSw => by (obtain hS := hSw); go_simp) hHeld ?_
            try simp only [List.setIfInBounds_toArray]
            refine held_take (i := 18) (d := 63) (v := (.pointer (some ⟨gr, i * 3 + 2, none⟩))) rfl rfl (by kernel_rfl) (by kernel_rfl) (by kernel_rfl) (fun _ _ _ h => h) (by kernel_rfl) (fun w hSw => by (obtain hS := hSw); go_simp) hHeld ?_
            try simp only [List.setIfInBounds_toArray]
            refine wpAnyH_ready (rs := [19]) (by kernel_rfl) (by simp) ?_
            refine AllReadyH.cons rfl (fun K hK => ?_) AllReadyH.nil
            have p2 := HP2.out _ HC.out
            have z2 := HZ2.out _ HC.out
            go_simp
            clear p2 z2
            have hfs := HPUT.out _ _ _ HC.out HO.out
            generalize hgen : World.setCell _ ⟨gr, i * 3 + 2, none⟩ (.slice V6 (f.tail.length + bn) c6) = u8 at hfs ⊢
            clear hgen
            have HS3 := Lib.hid (show u8.cell? ⟨g, 0, none⟩ = some (.slice (some ⟨gr, 0, none⟩) n c) from (hfs.2.cell (HCG.out _ HC.out) (fun e => HGG.out (by injection e))))
            have HF8 := Lib.hid hfs
            clear hfs
            refine hK.out _ _ (by first | (with_reducible exact HS3.out) | (with_reducible exact HCG.out _ HC.out)) (fun hHeld => ?_)
            clear hK K
            refine wpAnyH_done (by kernel_rfl) ?_ _
            go_wp2_with fail
            go_ret
            have hT := HT2.out
            rw [HPL.out] at hT
            simp only at hT
            rw [modify_set _ HFK.out] at hT
            subst hT
            exact HEND.out _ _ HC.out HF8.out.1 HF8.out.2
end Go.Proofs.Ytcnjjabjdepjgaa.Dsk
