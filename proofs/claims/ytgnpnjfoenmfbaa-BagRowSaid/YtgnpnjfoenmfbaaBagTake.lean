/-
  Texts of earlier layers, as one.
-/
import Derived.Test.YtgnpnjfoenmfbaaBagAt
import Derived.Test.YtgnpnjfoenmfbaaBagOut
/- The program's Take: an envelope of the bag, which is out. -/
namespace Go.Proofs.Ytgnpnjfoenmfbaa.Bg
open Go.RowKit Mem Dsk

theorem call_isit (args : Array Value) (W : World) : (callFunc 20 args).run Try.prog W = .ok (.enter 20 args) W := by kernel_rfl
set_option maxRecDepth 20000 in
set_option maxHeartbeats 4000000 in
theorem take_any (p : Nat) (S : Nat → Prop) (b : Bag) (i : Int) (w : World) (h : BI w S p b) (hf : Fine b) :
    Calls Try.prog 10 #[ptr p, .int .i64 i] w (fun e w' => Shows (atB i b) w e w' ∧ BI w' S p (takeB i b) ∧ Keeps S w w') := by
  have hb0 := bel_alloc (Below.refl w.heap.size w) (.cells #[.int .i64 0, .int .i64 0, .slice none 0 0] 29)
  have hk0 := Blk.new w 29 #[.int .i64 0, .int .i64 0, .slice none 0 0]
  obtain ⟨W, hW⟩ : ∃ v, w.alloc (.cells #[.int .i64 0, .int .i64 0, .slice none 0 0] 29) = v := ⟨_, rfl⟩
  have hs0 : W.heap.size = w.heap.size + 1 := by rw [← hW]; simp
  rw [hW] at hb0 hk0
  have hbi := bi_below h hb0
  have hat := at_any p S b i W hbi hf
  have hlt := bi_low h
  unfold Shows at hat ⊢
  obtain ⟨o, ho⟩ : ∃ o, atB i b = o := ⟨_, rfl⟩
  rw [ho] at hat ⊢
  obtain ⟨x, hx⟩ : ∃ x, o.getD noEn = x := ⟨_, rfl⟩
  rw [hx] at hat ⊢
  obtain ⟨f, t, bs⟩ := x
  obtain ⟨m, hm⟩ : ∃ m, bs.length = m := ⟨_, rfl⟩
  simp only [hm] at hat ⊢
  unfold ptr at hat ⊢
  cases o with
  | none =>
    simp only [Option.isSome_none] at hat ⊢
    have htk : takeB i b = b := by
      unfold takeB
      unfold atB at ho
      split
      · rename_i h0
        rw [if_pos h0] at ho
        rw [List.eraseIdx_of_length_le (by simpa using ho)]
      · rfl
    rw [htk]
    have HA := Lib.hid hat
    have HB := Lib.hid (And.intro hb0 (And.intro hk0 hs0))
    have HW := Lib.hid hW
    have HI := Lib.hid h
    clear hlt
    clear hat hb0 hk0 hs0 hW hbi h hf ho hx htk hm
    go_enter Try.func10, Try.ntmps10
    go_upto_region 1 with fail
    rw [HW.out]
    go_wp2_with fail
    refine HA.out.mono ?_
    rintro e u ⟨⟨B, d, rfl, hby⟩, hb⟩
    have hk1 := HB.out.2.1.bel hb
    have hk2 := hk1.alloc (.cells #[.int .i64 f, .int .i64 t, .slice B m d] 29)
    have hkn := Blk.new u 29 #[.int .i64 f, .int .i64 t, .slice B m d]
    have HK2 := Lib.hid hk2
    have hb2 := bel_alloc (HB.out.1.trans (hb.mono HB.out.1.size)) (.cells #[.int .i64 f, .int .i64 t, .slice B m d] 29)
    have HB2 := Lib.hid (And.intro hb2 hb)
    have HBY := Lib.hid (hby.alloc (.cells #[.int .i64 f, .int .i64 t, .slice B m d] 29))
    obtain ⟨U, hU⟩ : ∃ v, u.alloc (.cells #[.int .i64 f, .int .i64 t, .slice B m d] 29) = v := ⟨_, rfl⟩
    rw [hU] at hkn HK2 HB2 HBY
    have HU := Lib.hid hU
    obtain ⟨e0, e1, e2⟩ := blk3 hkn
    clear hby hb hk1 hk2 hkn hb2 hU HA
    go_upto_region 2 with fail
    rw [HU.out]
    go_wp2_with (with_reducible refine wpList_store_blk rfl 29 (.tmp 4) (.tmp 27) rfl w.heap.size 29 #[.int .i64 0, .int .i64 0, .slice none 0 0] #[.int .i64 f, .int .i64 t, .slice B m d] rfl rfl HK2.out (by kernel_rfl) rfl (by kernel_rfl) ?_; intro w4 hblk hg4)
    obtain ⟨f0, f1, f2⟩ := blk3 hblk
    refine bodyPost_ret (v := .tuple #[.agg #[.int .i64 f, .int .i64 t, .slice B m d], .bool false]) (by simp [results, Try.results10, go_sem, f0, f1, f2]) rfl ?_
    have hbe := HB2.out.1.grown hg4 HB2.out.1.size fun k e => by injection e with e; omega
    refine ⟨⟨B, d, rfl, own_low (HBY.out.kept hg4 (.inr fun e => ?_)) HB.out.1.size⟩, bi_below HI.out hbe, Keeps.ofBelow hbe⟩
    have h1 := (HBY.out.lt _ e).1
    have h2 := HB.out.2.2
    omega
  | some x =>
    simp only [Option.isSome_some] at hat ⊢
    obtain ⟨xs, r, nx⟩ := b
    obtain ⟨k, rfl, hxk⟩ := at_in ho
    obtain ⟨A, c, es, hown, he⟩ := h
    simp only at he hown
    have hxk' := hxk
    rw [← he, List.getElem?_map, Option.map_eq_some_iff] at hxk'
    obtain ⟨y, hyk, hyx⟩ := hxk'
    have htk : takeB ((k : Nat) : Int) ⟨xs, r, nx⟩ = ⟨xs.eraseIdx k, r, nx⟩ := by
      unfold takeB
      rw [if_pos (by omega), Int.toNat_natCast]
    rw [htk]
    have her : es.filter (fun z => !decide (z.k = y.k)) = es.eraseIdx k := erase_filter es k y hown.up.1 hyk
    obtain ⟨n, hn⟩ : ∃ n, es.length = n := ⟨_, rfl⟩
    have hkn : k < n := by rw [← hn]; exact (List.getElem?_eq_some_iff.1 hyk).1
    have hlc := hown.rw_.le
    have hcc := hown.rw_.cap
    unfold maxLen at hcc
    rw [hn] at hlc
    obtain ⟨yk, hyk'⟩ : ∃ v, y.k = v := ⟨_, rfl⟩
    have HA := Lib.hid hat
    have HB := Lib.hid (And.intro hb0 (And.intro hk0 hs0))
    have HW := Lib.hid hW
    have HO := Lib.hid hown
    have HL := Lib.hid hlt
    have HE := Lib.hid (And.intro he (And.intro hn (And.intro hyk (And.intro her hyk'))))
    clear hat hb0 hk0 hs0 hW hbi hlt hown hf ho hx htk hm hxk hyx he hn hyk her hyk'
    go_enter Try.func10, Try.ntmps10
    go_upto_region 1 with fail
    rw [HW.out]
    go_wp2_with fail
    refine HA.out.mono ?_
    rintro e u ⟨⟨B, d, rfl, hby⟩, hb⟩
    have hk2 := (HB.out.2.1.bel hb).alloc (.cells #[.int .i64 f, .int .i64 t, .slice B m d] 29)
    have hkn2 := Blk.new u 29 #[.int .i64 f, .int .i64 t, .slice B m d]
    have hb2 := bel_alloc (HB.out.1.trans (hb.mono HB.out.1.size)) (.cells #[.int .i64 f, .int .i64 t, .slice B m d] 29)
    have hby2 := hby.alloc (.cells #[.int .i64 f, .int .i64 t, .slice B m d] 29)
    obtain ⟨U, hU⟩ : ∃ v, u.alloc (.cells #[.int .i64 f, .int .i64 t, .slice B m d] 29) = v := ⟨_, rfl⟩
    have hsU : U.heap.size = u.heap.size + 1 := by rw [← hU]; simp
    rw [hU] at hkn2 hk2 hb2 hby2
    have hoU := HO.out.below hb2
    obtain ⟨g, rfl, hg, hrng, _⟩ := hoU.at_ HE.out.2.2.1
    obtain ⟨c0, _, _, _⟩ := four hrng
    obtain ⟨d0, _, _⟩ := hoU.cells
    rw [HE.out.2.1] at d0
    rw [HE.out.2.2.2.2] at c0
    have hkv := Blk.new U 3 #[.int .i64 yk]
    have hb3 := bel_alloc hb2 (.cells #[.int .i64 yk] 3)
    have HV := Lib.hid (And.intro hkv (And.intro hb3 (And.intro hb2 (And.intro hb hsU))))
    have HK := Lib.hid (And.intro hk2 (And.intro hkn2 hby2))
    have HU := Lib.hid hU
    obtain ⟨V, hV⟩ : ∃ v, U.alloc (.cells #[.int .i64 yk] 3) = v := ⟨_, rfl⟩
    have hto := takeout_any 20 (.pointer (some ⟨U.heap.size, 0, none⟩)) (fun z => decide (z.k = yk)) p S (some ⟨g, 0, none⟩) c es r nx V (hV ▸ HO.out.below hb3) call_isit (fun v z _ hkk => by
      refine isit_any z U.heap.size yk v ?_
      refine (hkk.block U.heap.size (by rw [← hV]; simp) fun hrow => ?_).trans (hV ▸ hkv)
      have h1 := HL.out _ (HO.out.sr _ hrow)
      have h2 := hb2.size
      omega)
    rw [← HE.out.2.2.2.2, HE.out.2.2.2.1, HE.out.2.1] at hto
    have HT := Lib.hid hto
    have HVV := Lib.hid hV
    unfold ptr at HT
    clear hby hb hk2 hkn2 hb2 hby2 hU hsU hoU hrng hkv hb3 hV hto HA hg
    go_upto_region 2 with fail
    rw [HU.out]
    go_upto_region 4 with fail
    rw [HVV.out]
    clear c0 d0
    go_wp2_with fail
    refine HT.out.mono ?_
    rintro e v2 ⟨rfl, ho2, hk2⟩
    have hzs := HB.out.2.2
    have hzb := HV.out.2.2.2.1.size
    have hbV : Below w.heap.size w V := HVV.out ▸ HV.out.2.1
    have hmono : w.heap.size ≤ V.heap.size := hbV.size
    have hsV : V.heap.size = U.heap.size + 1 := by rw [← HVV.out]; simp
    have hkeep : ∀ j, ¬ S j → j < U.heap.size → v2.heap[j]? = U.heap[j]? := fun j hj hlt => (hk2.block j (by omega) hj).trans (by rw [← HVV.out]; exact Below.heap_alloc U _ j hlt)
    have hnS : ∀ j, w.heap.size ≤ j → ¬ S j := fun j hj hs => by have := HL.out j hs; omega
    have hsU := HV.out.2.2.2.2
    have hr0 : Blk v2 w.heap.size 29 #[.int .i64 0, .int .i64 0, .slice none 0 0] := (hkeep _ (hnS _ (Nat.le_refl _)) (by omega)).trans HK.out.1
    have hr1 : Blk v2 u.heap.size 29 #[.int .i64 f, .int .i64 t, .slice B m d] := (hkeep _ (hnS _ (by omega)) (by omega)).trans HK.out.2.1
    obtain ⟨e0, e1, e2⟩ := blk3 hr1
    have hkw : Keeps S w v2 := (Keeps.ofBelow hbV).trans hk2 (Grew.refl S w)
    have hrow : v2.ownsRow W.heap.size 5 1 (.slice B m d) m (cs bs) := row_keep HK.out.2.2 fun j hj => hkeep j (hnS j (by have := (HK.out.2.2.lt j hj).1; omega)) (HK.out.2.2.lt j hj).2
    have HR0 := Lib.hid hr0
    have HF := Lib.hid (And.intro ho2 (And.intro hkw hrow))
    clear ho2 hk2 hzs hzb hbV hmono hsV hkeep hsU hr0 hr1 hkw hrow HT
    go_wp2_with (with_reducible refine wpList_store_blk rfl 29 (.tmp 4) (.tmp 27) rfl w.heap.size 29 #[.int .i64 0, .int .i64 0, .slice none 0 0] #[.int .i64 f, .int .i64 t, .slice B m d] rfl rfl HR0.out (by kernel_rfl) rfl (by kernel_rfl) ?_; intro w4 hblk hg4)
    obtain ⟨f0, f1, f2⟩ := blk3 hblk
    refine bodyPost_ret (v := .tuple #[.agg #[.int .i64 f, .int .i64 t, .slice B m d], .bool true]) (by simp [results, Try.results10, go_sem, f0, f1, f2]) rfl ?_
    have hbo := HF.out.1.keep (T := fun j => j = w.heap.size) (Keeps.ofGrown hg4 rfl) (fun j hs e => hnS j (by omega) hs)
    refine ⟨⟨B, d, rfl, own_low (HF.out.2.2.kept hg4 (.inr fun e => ?_)) HB.out.1.size⟩, ⟨_, c, _, hbo, by rw [map_erase, HE.out.1]⟩, ?_⟩
    · have h1 := (HF.out.2.2.lt _ e).1
      have h2 := HB.out.2.2
      omega
    · have hk := HF.out.2.1
      exact ⟨hg4.os.trans hk.os, hg4.tape.trans hk.tape, hg4.output.trans hk.output, Nat.le_trans hk.size hg4.size, fun j hj hn => (hg4.block j (by have := hk.size; omega) fun e => by injection e with e; omega).trans (hk.block j hj hn)⟩
end Go.Proofs.Ytgnpnjfoenmfbaa.Bg
