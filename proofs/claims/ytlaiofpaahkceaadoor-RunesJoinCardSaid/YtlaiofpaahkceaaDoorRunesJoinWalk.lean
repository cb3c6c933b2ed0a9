/-
  RunesJoin answers true of any two texts.
-/
import Derived.Test.YtlaiofpaahkceaaDoorRunAwake
namespace Go.Proofs.YtlaiofpaahkceaaDoor
open Go.RowKit Mem Run

theorem beg_append {s t : List Nat} (hs : ∀ b ∈ s, b < 256) (h1 : beg s = true) (h2 : beg t = true) : beg (s ++ t) = decide ((pieces s).length + (pieces t).length ≤ 32) := by
  have ha := pieces_append s hs (beg_alone h1) t
  simp only [beg, Bool.and_eq_true, decide_eq_true_eq] at h1 h2
  simp [beg, ha, h1.2, h2.2]
theorem begRet_true : begRet true = 0 := rfl
theorem begRet_false : begRet false = 11 := rfl

set_option maxHeartbeats 4000000 in
theorem runesjoin_main (s t : ByteArray) (w : World) (hT : Tab w) (h1 : s.size ≤ 200) (h2 : t.size ≤ 200) (hs : beg (bts s) = true) (ht : beg (bts t) = true) : Calls Tryd.prog 7 #[.string s, .string t] w (Tells true w) := by
  have HTT : Hid (∀ W : World, Below w.heap.size w W → Tab W) := Lib.hid fun W h => hT.below h hT.lt
  have b1 : decide ((s.size : Int) > 200) = false := by simp; omega
  have b2 : decide ((t.size : Int) > 200) = false := by simp; omega
  have hbs := begin_any s
  have hbt := begin_any t
  rw [hs, begRet_true] at hbs
  rw [ht, begRet_true] at hbt
  have hps := pieces_le (bts s)
  have hpt := pieces_le (bts t)
  rw [length_bts] at hps hpt
  have happ := pieces_append (bts s) (bts_lt s) (beg_alone hs) (bts t)
  have hcat : ∀ W : World, (Op.stringOp .add s t).run Tryd.prog W = .ok (.string (s ++ t)) W := fun W => run_string_add_sum W s t (by omega)
  obtain ⟨st, hst⟩ : ∃ st, s ++ t = st := ⟨_, rfl⟩
  have hbst : bts st = bts s ++ bts t := by rw [← hst, bts_append]
  rw [hst] at hcat
  have hszst : st.size = s.size + t.size := by rw [size_bts hbst, List.length_append, length_bts, length_bts]
  have hcs := fun W => count_any s W (by omega)
  have hct := fun W => count_any t W (by omega)
  have hcst := fun W => count_any st W (by omega)
  rw [hbst, happ, List.length_append] at hcst
  obtain ⟨ns, hns⟩ : ∃ n, (pieces (bts s)).length = n := ⟨_, rfl⟩
  obtain ⟨nt, hnt⟩ : ∃ n, (pieces (bts t)).length = n := ⟨_, rfl⟩
  have hbb := beg_append (bts_lt s) hs ht
  rw [hns] at hcs hcst hbb hps
  rw [hnt] at hct hcst hbb hpt
  have hbgst := begin_any st
  rw [hbst, hbb] at hbgst
  have hbegins := begins_any st s
  have hpre : decide (bts s <+: bts st) = true := by rw [hbst]; simp
  rw [hpre] at hbegins
  have hQs := quote_any s (by omega)
  have hQt := quote_any t (by omega)
  have hQst := quote_any st (by omega)
  rw [hbst] at hQst
  have hjoin := quote_append (s := bts s) (t := bts t) (bts_lt s) (beg_alone hs)
  have hls := quote_len (bts_lt s)
  have hlt := quote_len (bts_lt t)
  have hl1 : 2 ≤ (quote (bts s)).length := by simp [quote]
  have hl2 : 2 ≤ (quote (bts t)).length := by simp [quote]
  rw [length_bts] at hls hlt
  obtain ⟨q, hq⟩ : ∃ q, txt (quote (bts s)) = q := ⟨_, rfl⟩
  obtain ⟨p, hp⟩ : ∃ p, txt (quote (bts t)) = p := ⟨_, rfl⟩
  obtain ⟨r, hr⟩ : ∃ r, txt (quote (bts s ++ bts t)) = r := ⟨_, rfl⟩
  rw [hq] at hQs
  rw [hp] at hQt
  rw [hr] at hQst
  have hbq : bts q = quote (bts s) := by rw [← hq]; exact bts_txt _ (quote_lt (bts_lt s))
  have hbp : bts p = quote (bts t) := by rw [← hp]; exact bts_txt _ (quote_lt (bts_lt t))
  have hbr : bts r = quote (bts s ++ bts t) := by
    rw [← hr]
    refine bts_txt _ (quote_lt ?_)
    rw [← hbst]
    exact bts_lt st
  have hsq := size_bts hbq
  have hsp := size_bts hbp
  have i1 : 1 ≤ q.size := by omega
  have i2 : (1 : Int) ≤ (p.size : Int) := by omega
  have i3 : 0 ≤ (q.size : Int) - 1 := by omega
  have i4 : (q.size : Int) - 1 ≤ (q.size : Int) := by omega
  have i5 : q.size ≤ 10000 := by omega
  have et : ((q.size : Int) - 1).toNat = q.size - 1 := by omega
  have hw1 : IntKind.i64.wrap ((q.size : Int) - 1) = (q.size : Int) - 1 := by rw [IntKind.wrap_i64]; omega
  have hsl : ∀ W : World, (Instr.slice 9 (.string q) none (some (.int .i64 ((q.size : Int) - 1))) none).run Tryd.prog W = .ok (.string (q.extract 0 (q.size - 1))) W := fun W => by rw [run_slice_string_to_if W 9 q .i64 _ Tryd.underlying9, if_pos ⟨i3, i4⟩, et]
  have hxq : bts (q.extract 0 (q.size - 1)) = (bts q).take (q.size - 1) := by rw [bts_extract, List.drop_zero, Nat.sub_zero]
  have hxp : bts (p.extract 1 p.size) = (bts p).drop 1 := bts_tail p 1
  have hcat2 : ∀ W : World, (Op.stringOp .add (q.extract 0 (q.size - 1)) (p.extract 1 p.size)).run Tryd.prog W = .ok (.string (q.extract 0 (q.size - 1) ++ p.extract 1 p.size)) W := fun W => run_string_add_sum W _ _ (by rw [size_bts hxq, size_bts hxp, List.length_take, List.length_drop, length_bts, length_bts]; omega)
  obtain ⟨x, hx⟩ : ∃ x, q.extract 0 (q.size - 1) ++ p.extract 1 p.size = x := ⟨_, rfl⟩
  rw [hx] at hcat2
  have hcmp : (r.toList == x.toList) = true := by
    rw [eq_tell, hbr, ← hx, bts_append, hxq, hxp, hbq, hbp, hsq, hjoin]
    simp
  have HBS := Lib.hid hbs
  have HBT := Lib.hid hbt
  have HCS := Lib.hid hcs
  have HCT := Lib.hid hct
  have HCST := Lib.hid hcst
  have HBG := Lib.hid hbgst
  have HBE := Lib.hid hbegins
  have HQS := Lib.hid hQs
  have HQT := Lib.hid hQt
  have HST := Lib.hid hQst
  have b5 : ((ns : Int) + (nt : Int) != (ns : Int) + (nt : Int)) = false := by simp
  have e5 : ((ns + nt : Nat) : Int) = (ns : Int) + (nt : Int) := by omega
  rw [e5] at HCST
  have hfin : ∀ (b : Bool), decide (ns + nt ≤ 32) = b → decide ((ns : Int) + (nt : Int) ≤ 32) = b := by
    intro b h
    rw [← h]
    by_cases hh : ns + nt ≤ 32
    · simp [hh]; omega
    · simp [hh]; omega
  have HFIN := Lib.hid hfin
  clear hbs hbt hcs hct hcst hbgst hbegins hQs hQt hQst hs ht hbst hst happ hns hnt hbb hpre hjoin hls hlt hl1 hl2 hq hp hr hbq hbp hbr hsq hsp hxq hxp hx hT e5 hfin
  cases hd : decide (ns + nt ≤ 32) with
  | true =>
    have hd' := HFIN.out _ hd
    rw [hd, begRet_true] at HBG
    clear hd
    go_enter Tryd.func7, Tryd.ntmps7
    go_wp2_with fail
    refine (HBS.out w).mono ?_
    rintro e w1 ⟨rfl, hb1⟩
    go_wp2_with fail
    refine (HBT.out w1).mono ?_
    rintro e w2 ⟨rfl, hb2'⟩
    have hb2 := bel_trans hb1 hb2'
    go_wp2_with fail
    refine (HCS.out w2).mono ?_
    rintro e w3 ⟨rfl, hb3'⟩
    have hb3 := bel_trans hb2 hb3'
    go_wp2_with fail
    refine (HCT.out w3).mono ?_
    rintro e w4 ⟨rfl, hb4'⟩
    have hb4 := bel_trans hb3 hb4'
    go_wp2_with fail
    refine (HCST.out w4).mono ?_
    rintro e w5 ⟨rfl, hb5'⟩
    have hb5 := bel_trans hb4 hb5'
    go_wp2_with fail
    refine (HBE.out w5).mono ?_
    rintro e w6 ⟨rfl, rfl⟩
    go_wp2_with fail
    refine (HBG.out w5).mono ?_
    rintro e w7 ⟨rfl, hb7'⟩
    have hb7 := bel_trans hb5 hb7'
    go_wp2_with fail
    refine (HQS.out w7 (HTT.out w7 hb7)).mono ?_
    rintro e w8 ⟨rfl, hb8'⟩
    have hb8 := bel_trans hb7 hb8'
    go_wp2_with fail
    refine (HQT.out w8 (HTT.out w8 hb8)).mono ?_
    rintro e w9 ⟨rfl, hb9'⟩
    have hb9 := bel_trans hb8 hb9'
    go_wp2_with fail
    refine wp_region_any (by kernel_rfl) ?_
    change wpAny _ _ _ _ _ _ _ (World.drew _)
    refine wpAny_take (i := 0) (v := .string s) rfl (by kernel_rfl) (by kernel_rfl) (by kernel_rfl) (fun _ _ _ h => h) (Or.inl ⟨by kernel_rfl, fun w => by go_simp⟩) ?_
    refine wpAny_take (i := 1) (v := .string t) rfl (by kernel_rfl) (by kernel_rfl) (by kernel_rfl) (fun _ _ _ h => h) (Or.inl ⟨by kernel_rfl, fun w => by go_simp⟩) ?_
    refine wpAny_take (i := 2) (v := .string st) rfl (by kernel_rfl) (by kernel_rfl) (by kernel_rfl) (fun _ _ _ h => h) (Or.inl ⟨by kernel_rfl, fun w => by go_simp⟩) ?_
    refine wpAny_take (i := 4) (v := .string q) rfl (by kernel_rfl) (by kernel_rfl) (by kernel_rfl) (fun _ _ _ h => h) (Or.inl ⟨by kernel_rfl, fun w => by go_simp⟩) ?_
    refine wpAny_take (i := 5) (v := .string q) rfl (by kernel_rfl) (by kernel_rfl) (by kernel_rfl) (fun _ _ _ h => h) (Or.inl ⟨by kernel_rfl, fun w => by go_simp⟩) ?_
    refine wpAny_take (i := 6) (v := .int .i64 (q.size : Int)) rfl (by kernel_rfl) (by kernel_rfl) (by kernel_rfl) (fun _ _ _ h => h) (Or.inl ⟨by kernel_rfl, fun w => by go_simp⟩) ?_
    refine wpAny_take (i := 7) (v := .int .i64 ((q.size : Int) - 1)) rfl (by kernel_rfl) (by kernel_rfl) (by kernel_rfl) (fun _ _ _ h => h) (Or.inl ⟨by kernel_rfl, fun w => by go_simp⟩) ?_
    refine wpAny_take (i := 8) (v := .string (q.extract 0 (q.size - 1))) rfl (by kernel_rfl) (by kernel_rfl) (by kernel_rfl) (fun _ _ _ h => h) (Or.inl ⟨by kernel_rfl, fun w => by go_simp⟩) ?_
    refine wpAny_take (i := 9) (v := .string p) rfl (by kernel_rfl) (by kernel_rfl) (by kernel_rfl) (fun _ _ _ h => h) (Or.inl ⟨by kernel_rfl, fun w => by go_simp⟩) ?_
    refine wpAny_take (i := 10) (v := .string (p.extract 1 p.size)) rfl (by kernel_rfl) (by kernel_rfl) (by kernel_rfl) (fun _ _ _ h => h) (Or.inl ⟨by kernel_rfl, fun w => by go_simp⟩) ?_
    refine wpAny_take (i := 11) (v := .string x) rfl (by kernel_rfl) (by kernel_rfl) (by kernel_rfl) (fun _ _ _ h => h) (Or.inl ⟨by kernel_rfl, fun w => by go_simp⟩) ?_
    refine wpAny_ready (rs := [3]) (by kernel_rfl) (by simp) ?_
    refine AllReady.cons rfl (fun K hK => ?_) AllReady.nil
    go_simp
    refine (HST.out w9.drew (show Tab w9.drew from HTT.out w9 hb9)).mono ?_
    rintro e wA ⟨rfl, hbA⟩
    have hbA9 : Below w.heap.size w wA := hb9.trans (((Below.refl _ w9).drew.trans (hbA : Below w9.heap.size w9.drew wA)).mono hb9.size)
    refine hK _ _ ?_
    clear hK K
    refine wpAny_take (i := 12) (v := .bool true) rfl (by kernel_rfl) (by kernel_rfl) (by kernel_rfl) (fun _ _ _ h => h) (Or.inl ⟨by kernel_rfl, fun w => by go_simp⟩) ?_
    refine wpAny_take (i := 13) (v := .bool true) rfl (by kernel_rfl) (by kernel_rfl) (by kernel_rfl) (fun _ _ _ h => h) (Or.inl ⟨by kernel_rfl, fun w => by go_simp⟩) ?_
    refine wpAny_ready (rs := [14]) (by kernel_rfl) (by simp) ?_
    refine AllReady.cons rfl (fun K hK => ?_) AllReady.nil
    go_simp
    refine (awake_any wA (HTT.out wA hbA9)).mono ?_
    rintro e wB ⟨rfl, hbB⟩
    refine hK _ _ ?_
    clear hK K
    refine wpAny_take (i := 15) (v := .bool true) rfl (by kernel_rfl) (by kernel_rfl) (by kernel_rfl) (fun _ _ _ h => h) (Or.inl ⟨by kernel_rfl, fun w => by go_simp⟩) ?_
    refine wpAny_take (i := 16) (v := .bool true) rfl (by kernel_rfl) (by kernel_rfl) (by kernel_rfl) (fun _ _ _ h => h) (Or.inl ⟨by kernel_rfl, fun w => by go_simp⟩) ?_
    refine wpAny_done (by kernel_rfl) ?_ _
    go_wp2
    go_ret
    exact ⟨by kernel_rfl, bel_trans hbA9 hbB⟩
  | false =>
    have hd' := HFIN.out _ hd
    rw [hd, begRet_false] at HBG
    clear hd
    go_enter Tryd.func7, Tryd.ntmps7
    go_wp2_with fail
    refine (HBS.out w).mono ?_
    rintro e w1 ⟨rfl, hb1⟩
    go_wp2_with fail
    refine (HBT.out w1).mono ?_
    rintro e w2 ⟨rfl, hb2'⟩
    have hb2 := bel_trans hb1 hb2'
    go_wp2_with fail
    refine (HCS.out w2).mono ?_
    rintro e w3 ⟨rfl, hb3'⟩
    have hb3 := bel_trans hb2 hb3'
    go_wp2_with fail
    refine (HCT.out w3).mono ?_
    rintro e w4 ⟨rfl, hb4'⟩
    have hb4 := bel_trans hb3 hb4'
    go_wp2_with fail
    refine (HCST.out w4).mono ?_
    rintro e w5 ⟨rfl, hb5'⟩
    have hb5 := bel_trans hb4 hb5'
    go_wp2_with fail
    refine (HBE.out w5).mono ?_
    rintro e w6 ⟨rfl, rfl⟩
    go_wp2_with fail
    refine (HBG.out w5).mono ?_
    rintro e w7 ⟨rfl, hb7'⟩
    have hb7 := bel_trans hb5 hb7'
    go_wp2_with fail
    refine (HQS.out w7 (HTT.out w7 hb7)).mono ?_
    rintro e w8 ⟨rfl, hb8'⟩
    have hb8 := bel_trans hb7 hb8'
    go_wp2_with fail
    refine (HQT.out w8 (HTT.out w8 hb8)).mono ?_
    rintro e w9 ⟨rfl, hb9'⟩
    have hb9 := bel_trans hb8 hb9'
    go_wp2_with fail
    refine wp_region_any (by kernel_rfl) ?_
    change wpAny _ _ _ _ _ _ _ (World.drew _)
    refine wpAny_take (i := 0) (v := .string s) rfl (by kernel_rfl) (by kernel_rfl) (by kernel_rfl) (fun _ _ _ h => h) (Or.inl ⟨by kernel_rfl, fun w => by go_simp⟩) ?_
    refine wpAny_take (i := 1) (v := .string t) rfl (by kernel_rfl) (by kernel_rfl) (by kernel_rfl) (fun _ _ _ h => h) (Or.inl ⟨by kernel_rfl, fun w => by go_simp⟩) ?_
    refine wpAny_take (i := 2) (v := .string st) rfl (by kernel_rfl) (by kernel_rfl) (by kernel_rfl) (fun _ _ _ h => h) (Or.inl ⟨by kernel_rfl, fun w => by go_simp⟩) ?_
    refine wpAny_take (i := 4) (v := .string q) rfl (by kernel_rfl) (by kernel_rfl) (by kernel_rfl) (fun _ _ _ h => h) (Or.inl ⟨by kernel_rfl, fun w => by go_simp⟩) ?_
    refine wpAny_take (i := 5) (v := .string q) rfl (by kernel_rfl) (by kernel_rfl) (by kernel_rfl) (fun _ _ _ h => h) (Or.inl ⟨by kernel_rfl, fun w => by go_simp⟩) ?_
    refine wpAny_take (i := 6) (v := .int .i64 (q.size : Int)) rfl (by kernel_rfl) (by kernel_rfl) (by kernel_rfl) (fun _ _ _ h => h) (Or.inl ⟨by kernel_rfl, fun w => by go_simp⟩) ?_
    refine wpAny_take (i := 7) (v := .int .i64 ((q.size : Int) - 1)) rfl (by kernel_rfl) (by kernel_rfl) (by kernel_rfl) (fun _ _ _ h => h) (Or.inl ⟨by kernel_rfl, fun w => by go_simp⟩) ?_
    refine wpAny_take (i := 8) (v := .string (q.extract 0 (q.size - 1))) rfl (by kernel_rfl) (by kernel_rfl) (by kernel_rfl) (fun _ _ _ h => h) (Or.inl ⟨by kernel_rfl, fun w => by go_simp⟩) ?_
    refine wpAny_take (i := 9) (v := .string p) rfl (by kernel_rfl) (by kernel_rfl) (by kernel_rfl) (fun _ _ _ h => h) (Or.inl ⟨by kernel_rfl, fun w => by go_simp⟩) ?_
    refine wpAny_take (i := 10) (v := .string (p.extract 1 p.size)) rfl (by kernel_rfl) (by kernel_rfl) (by kernel_rfl) (fun _ _ _ h => h) (Or.inl ⟨by kernel_rfl, fun w => by go_simp⟩) ?_
    refine wpAny_take (i := 11) (v := .string x) rfl (by kernel_rfl) (by kernel_rfl) (by kernel_rfl) (fun _ _ _ h => h) (Or.inl ⟨by kernel_rfl, fun w => by go_simp⟩) ?_
    refine wpAny_ready (rs := [3]) (by kernel_rfl) (by simp) ?_
    refine AllReady.cons rfl (fun K hK => ?_) AllReady.nil
    go_simp
    refine (HST.out w9.drew (show Tab w9.drew from HTT.out w9 hb9)).mono ?_
    rintro e wA ⟨rfl, hbA⟩
    have hbA9 : Below w.heap.size w wA := hb9.trans (((Below.refl _ w9).drew.trans (hbA : Below w9.heap.size w9.drew wA)).mono hb9.size)
    refine hK _ _ ?_
    clear hK K
    refine wpAny_take (i := 12) (v := .bool true) rfl (by kernel_rfl) (by kernel_rfl) (by kernel_rfl) (fun _ _ _ h => h) (Or.inl ⟨by kernel_rfl, fun w => by go_simp⟩) ?_
    refine wpAny_take (i := 13) (v := .bool true) rfl (by kernel_rfl) (by kernel_rfl) (by kernel_rfl) (fun _ _ _ h => h) (Or.inl ⟨by kernel_rfl, fun w => by go_simp⟩) ?_
    refine wpAny_ready (rs := [14]) (by kernel_rfl) (by simp) ?_
    refine AllReady.cons rfl (fun K hK => ?_) AllReady.nil
    go_simp
    refine (awake_any wA (HTT.out wA hbA9)).mono ?_
    rintro e wB ⟨rfl, hbB⟩
    refine hK _ _ ?_
    clear hK K
    refine wpAny_take (i := 15) (v := .bool true) rfl (by kernel_rfl) (by kernel_rfl) (by kernel_rfl) (fun _ _ _ h => h) (Or.inl ⟨by kernel_rfl, fun w => by go_simp⟩) ?_
    refine wpAny_take (i := 16) (v := .bool true) rfl (by kernel_rfl) (by kernel_rfl) (by kernel_rfl) (fun _ _ _ h => h) (Or.inl ⟨by kernel_rfl, fun w => by go_simp⟩) ?_
    refine wpAny_done (by kernel_rfl) ?_ _
    go_wp2
    go_ret
    exact ⟨by kernel_rfl, bel_trans hbA9 hbB⟩

theorem runesjoin_true (s t : ByteArray) (w : World) (hT : Tab w) : Calls Tryd.prog 7 #[.string s, .string t] w (Tells true w) := by
  have HTT : Hid (∀ W : World, Below w.heap.size w W → Tab W) := Lib.hid fun W h => hT.below h hT.lt
  have HBS := Lib.hid (begin_any s)
  have HBT := Lib.hid (begin_any t)
  by_cases h1 : s.size ≤ 200
  · by_cases h2 : t.size ≤ 200
    · have b1 : decide ((s.size : Int) > 200) = false := by simp; omega
      have b2 : decide ((t.size : Int) > 200) = false := by simp; omega
      cases hs : beg (bts s) with
      | true =>
        cases ht : beg (bts t) with
        | true => exact runesjoin_main s t w hT h1 h2 hs ht
        | false =>
          rw [hs, begRet_true] at HBS
          rw [ht, begRet_false] at HBT
          clear hs ht
          go_enter Tryd.func7, Tryd.ntmps7
          go_wp2_with fail
          refine (HBS.out w).mono ?_
          rintro e w1 ⟨rfl, hb1⟩
          go_wp2_with fail
          refine (HBT.out w1).mono ?_
          rintro e w2 ⟨rfl, hb2'⟩
          have hb2 := bel_trans hb1 hb2'
          go_wp2_with fail
          refine (awake_any w2 (HTT.out w2 hb2)).mono ?_
          rintro e w3 ⟨rfl, hb3⟩
          go_wp2
          go_ret
          exact ⟨rfl, bel_trans hb2 hb3⟩
      | false =>
        rw [hs, begRet_false] at HBS
        clear hs
        go_enter Tryd.func7, Tryd.ntmps7
        go_wp2_with fail
        refine (HBS.out w).mono ?_
        rintro e w1 ⟨rfl, hb1⟩
        go_wp2_with fail
        refine (awake_any w1 (HTT.out w1 hb1)).mono ?_
        rintro e w3 ⟨rfl, hb3⟩
        go_wp2
        go_ret
        exact ⟨rfl, bel_trans hb1 hb3⟩
    · have b1 : decide ((s.size : Int) > 200) = false := by simp; omega
      have b2 : decide ((t.size : Int) > 200) = true := by simp; omega
      go_enter Tryd.func7, Tryd.ntmps7
      go_wp2_with fail
      refine (awake_any w hT).mono ?_
      rintro e w3 ⟨rfl, hb3⟩
      go_wp2
      go_ret
      exact ⟨rfl, hb3⟩
  · have b1 : decide ((s.size : Int) > 200) = true := by simp; omega
    go_enter Tryd.func7, Tryd.ntmps7
    go_wp2_with fail
    refine (awake_any w hT).mono ?_
    rintro e w3 ⟨rfl, hb3⟩
    go_wp2
    go_ret
    exact ⟨rfl, hb3⟩
end Go.Proofs.YtlaiofpaahkceaaDoor
