/-
  runes.unquoteRune at \x and \u, and at any text.
-/
import Derived.Test.YtlaiofpaahkceaaDoorRunUnq
import Derived.Deep.RegionWith
namespace Go.Proofs.YtlaiofpaahkceaaDoor
open Go.RowKit Mem Run

/-- Whether an error is nil. -/
theorem err_nil {r : Option Nat} {v : Nat} {er : Value} (h : (∃ x, r = some x ∧ v = x ∧ er = .nilIface) ∨ (r = none ∧ ∃ t p, er = .iface t p)) :
    ∃ z : Bool, (∀ w : World, (binOp .eql 46 er .nilIface).run Tryd.prog w = .ok (.bool z) w) ∧ (∀ x, r = some x → v = x ∧ z = true) ∧ (∀ (k : Nat) (w : World), (eqGuard .eql 46 (.tmp k) (.const .nilIface) er .nilIface).run Tryd.prog w = .ok () w) := by
  rcases h with ⟨x, rfl, rfl, rfl⟩ | ⟨rfl, t, p, rfl⟩
  · exact ⟨true, fun w => run_eql_nil_nil w 46 (by kernel_rfl), (fun y hy => by cases hy; exact ⟨rfl, rfl⟩), fun _ _ => rfl⟩
  · exact ⟨false, fun w => run_eql_held_nil w 46 t p (by kernel_rfl), (fun y hy => by cases hy), fun _ _ => rfl⟩

theorem pun_two {b : Nat} (h : 128 ≤ b) (h' : b < 256) : pun 255 (hexd b) = some b := by
  have h1 := hexd_two (b := b) (by omega) h'
  rw [pun, if_neg (by rw [h1]; simp), pu_hexd 255 b (by omega)]

/-- \x -/
theorem step_x (base n : Nat) (V : Option Addr) (c : Nat) (bs : List Nat) (s : ByteArray) (l : List Nat) (w : World) (hown : w.ownsRow base 5 1 (.slice V n c) n (cs bs)) (hb : base ≤ w.heap.size) (hn : n ≤ 1099511627776) (hs : bts s = 92 :: 120 :: l) (hl4 : 4 ≤ s.size) (hlim : s.size ≤ 1099511627776) (hE : Errs w) :
    Calls Tryd.prog 25 #[.slice V n c, .string s] w (Step base bs s w) := by
  have hix0 := byte_at s .i64 0 (b := 92) (by omega) (by rw [hs]; rfl)
  rw [show ((0 : Nat) : Int) = 0 from rfl, show ((92 : Nat) : Int) = 92 from rfl] at hix0
  have i2 : (2 : Int) ≤ (s.size : Int) := by omega
  have i4 : (4 : Int) ≤ (s.size : Int) := by omega
  have b4 : decide ((s.size : Int) ≥ 4) = true := by simp; omega
  obtain ⟨z, hask, h34, h92, h120⟩ : ∃ z : UInt8 → Bool, Asks s z w ∧ z 34 = false ∧ z 92 = false ∧ z 120 = true := ⟨_, asks_back s 120 l hs w, by decide, by decide, by decide⟩
  have hex2 : bts (s.extract 2 4) = l.take 2 := by rw [bts_extract, hs]; rfl
  have hsz2 : (s.extract 2 4).size ≤ 1099511627776 := by
    rw [size_bts hex2, List.length_take]; omega
  have hpar := parse8_any (s.extract 2 4) hsz2 w hE
  rw [hex2] at hpar
  have hpp : ∀ p r, p.good → bts s = form p ++ r → ∃ x, p = .lone x ∧ pun 255 (l.take 2) = some x ∧ l = hexd x ++ r ∧ (hexd x).length = 2 := by
    intro p r hp h
    rw [hs] at h
    rcases form_back h with ⟨_, hb', _⟩ | ⟨x, rfl, _, hl⟩ | ⟨x, _, h117, _⟩
    · omega
    · have h2 := hexd_two (b := x) (by simp [Pc.good] at hp; omega) hp.2
      refine ⟨x, rfl, ?_, hl, by rw [h2]; rfl⟩
      have : l.take 2 = hexd x := by rw [hl, h2]; rfl
      rw [this]
      exact pun_two hp.1 hp.2
    · omega
  have HA := Lib.hid hask
  have HO := Lib.hid hown
  have HS := Lib.hid hs
  have HP := Lib.hid hpar
  have HPP := Lib.hid hpp
  clear hask hown hs hpar hpp hex2 hsz2 hE
  go_enter Tryd.func25, Tryd.ntmps25
  go_wp2_with (go_at_call 22; refine (HA.out _).mono ?_; rintro e w' ⟨rfl, rfl⟩)
  refine HP.out.mono ?_
  rintro e w1 ⟨v, er, rfl, hv, hN, hb1⟩
  obtain ⟨z2, hnil, hzz, hgd⟩ := err_nil hN
  have hw8 := u8_ofNat v (by omega)
  have HO1 := Lib.hid (ownsRow_below HO.out hb1)
  have HZ := Lib.hid hzz
  have hsz := hb1.size
  clear hN hzz
  go_wp2
  go_region_law (refine step_append_kept rfl (.tmp 53) (.tmp 56) rfl base V n c bs (by simp [Act.eval]) (HO1.out.alloc _) ⟨w1.heap.size, 0, none⟩ 1 1 [v] (by simp [Act.eval]) (Rd.few _ [v] _ _ rfl 1 rfl (by omega)).drew (by omega) (by simp; omega) ?_; intro V2 c2 w2 hown2 hk2)
  all_goals go_wp2
  all_goals go_ret3
  refine ⟨V2, _, c2, _, _, z2, rfl, hown2, ((hb1.mono hb).trans ((Below.refl _ w1).alloc (by omega) _).drew).trans hk2.1, ?_, ?_, fun p r hp h => ?_⟩
  · rw [size_bts (bts_tail s 4), List.length_drop, length_bts]; omega
  · have := own_len HO.out; omega
  · obtain ⟨x, rfl, hx, hl, h2⟩ := HPP.out p r hp h
    obtain ⟨rfl, rfl⟩ := HZ.out x hx
    refine ⟨rfl, ?_, rfl⟩
    rw [bts_tail, HS.out]
    show l.drop 2 = r
    rw [hl, ← h2]
    exact List.drop_left

theorem i32_ofNat (b : Nat) (h : b ≤ 2097151) : IntKind.i32.wrap (b : Int) = (b : Int) := by rw [IntKind.wrap_i32]; omega
theorem point_hex (n : Nat) : 46 ∉ hexd n := fun h => by
  have := hexd_is n 46 h
  unfold isdg at this
  omega
theorem pun_hex {c : Nat} (h : fit c = true) : pun 2097151 (hexd c) = some c := by
  have h1 : c ≤ 1114111 := by have := (fit_iff c).1 h; omega
  have h2 := hexd_len 5 c (by omega)
  rw [pun, if_neg (by intro e; rw [e] at h2; simp at h2), pu_hexd 2097151 c (by omega)]

theorem step_eq {base : Nat} {bs : List Nat} {s : ByteArray} {w w' : World} {e e' : Ending} (h : e = e') (hs : Step base bs s w e' w') : Step base bs s w e w' := h ▸ hs
/-- \u -/
theorem step_u (base n : Nat) (V : Option Addr) (c : Nat) (bs : List Nat) (s : ByteArray) (l : List Nat) (w : World) (hown : w.ownsRow base 5 1 (.slice V n c) n (cs bs)) (hb : base ≤ w.heap.size) (hn : n ≤ 1099511627776) (hs : bts s = 92 :: 117 :: l) (hlim : s.size ≤ 1099511627776) (hE : Errs w) :
    Calls Tryd.prog 25 #[.slice V n c, .string s] w (Step base bs s w) := by
  have hsz := size_bts hs
  rw [List.length_cons, List.length_cons] at hsz
  have hix0 := byte_at s .i64 0 (b := 92) (by omega) (by rw [hs]; rfl)
  rw [show ((0 : Nat) : Int) = 0 from rfl, show ((92 : Nat) : Int) = 92 from rfl] at hix0
  have i2 : (2 : Int) ≤ (s.size : Int) := by omega
  have i3 : 2 ≤ s.size := by omega
  obtain ⟨z, hask, h34, h92, h120, h117⟩ : ∃ z : UInt8 → Bool, Asks s z w ∧ z 34 = false ∧ z 92 = false ∧ z 120 = false ∧ z 117 = true := ⟨_, asks_back s 117 l hs w, by decide, by decide, by decide, by decide⟩
  have hex2 : bts (s.extract 2 s.size) = l := by rw [bts_tail, hs]; rfl
  have hsz2 : (s.extract 2 s.size).size = s.size - 2 := by rw [size_bts hex2]; omega
  have hcut := cut_any (s.extract 2 s.size) (by omega) w
  have HA := Lib.hid hask
  have HO := Lib.hid hown
  have HS := Lib.hid hs
  have HC := Lib.hid hcut
  have HE := Lib.hid hE
  have HX := Lib.hid (And.intro hex2 hsz2)
  clear hask hown hs hcut hex2 hsz2 hE hsz
  go_enter Tryd.func25, Tryd.ntmps25
  go_wp2_with (go_at_call 22; refine (HA.out _).mono ?_; rintro e w' ⟨rfl, rfl⟩)
  refine HC.out.mono ?_
  rintro e w1 ⟨ta, tb, is, rfl, ha1, hb1', his1, his2, hcc, hb1⟩
  have hta : ta.size ≤ 1099511627776 := by rw [HX.out.2] at ha1; omega
  have HP := Lib.hid (parse21_any ta hta w1 (HE.out.bel hb1))
  have HCC := Lib.hid hcc
  clear hcc
  go_wp2_with fail
  refine HP.out.mono ?_
  rintro e w2 ⟨v, er, rfl, hv, hN, hb2⟩
  obtain ⟨z2, hnil, hzz, hgd⟩ := err_nil hN
  have hw8 := i32_ofNat v hv
  have hbel := bel_trans hb1 hb2
  have HO1 := Lib.hid (ownsRow_below HO.out hbel)
  have HZ := Lib.hid hzz
  have hsz := hbel.size
  have HAR := Lib.hid (fun (W : World) (ho : W.ownsRow base 5 1 (.slice V n c) n (cs bs)) (hw : base ≤ W.heap.size) => appendRune_any v hv base n V c bs W ho hw hn)
  clear hN hzz
  have hfin : ∀ (V' : Option Addr) (c' : Nat) (lr : List Nat) (w' : World), w'.ownsRow base 5 1 (.slice V' (n + lr.length) c') (n + lr.length) (cs (bs ++ lr)) → lr.length ≤ 4 → (fit v = true → lr = enc v) → Below base w w' → Step base bs s w (.returned (.tuple #[.slice V' (n + lr.length) c', .string tb, .bool (is && z2)])) w' := by
    intro V' c' lr w' h1 h2 h3 h4
    refine ⟨V', _, c', _, _, _, rfl, h1, h4, ?_, ?_, fun p r hp h => ?_⟩
    · rw [HX.out.2] at hb1'; omega
    · have := own_len HO.out; omega
    · rw [HS.out] at h
      rcases form_back h with ⟨_, hb', _⟩ | ⟨x, _, h120, _⟩ | ⟨x, rfl, _, hl⟩
      · omega
      · omega
      · have hfx : fit x = true := hp
        obtain ⟨e1, e2, e3⟩ := HCC.out (hexd x) r (by rw [HX.out.1, hl]) (point_hex x) (fun c hc => dg_lt (hexd_is _ _ hc))
        rw [e1] at HZ
        obtain ⟨rfl, rfl⟩ := HZ.out x (pun_hex hfx)
        subst e3
        exact ⟨by rw [h3 hfx]; rfl, e2, rfl⟩
  have HF := Lib.hid hfin
  clear hfin
  cases is with
  | true =>
    go_wp2
    go_region_with (go_at_call 32; refine (HAR.out _ (by exact HO1.out) (by simp; omega)).mono ?_; rintro e w3 ⟨V3, c3, lr, rfl, hown3, hl4, hlr, hb3⟩)
    go_wp2
    go_ret3
    exact step_eq (e' := .returned (.tuple #[.slice V3 (n + lr.length) c3, .string tb, .bool (true && z2)])) (by kernel_rfl) (HF.out V3 c3 lr w3 hown3 hl4 hlr (((hbel.mono hb).trans (Below.refl _ w2).drew).trans hb3))
  | false =>
    go_wp2
    refine wp_region_any (by kernel_rfl) ?_
    change wpAny _ _ _ _ _ _ _ (World.drew _)
    refine wpAny_take (i := 0) (v := .slice V n c) rfl (by kernel_rfl) (by kernel_rfl) (by kernel_rfl) (fun _ _ _ h => h) (Or.inl ⟨by kernel_rfl, fun w => by go_simp⟩) ?_
    refine wpAny_take (i := 1) (v := .int .u64 (v : Int)) rfl (by kernel_rfl) (by kernel_rfl) (by kernel_rfl) (fun _ _ _ h => h) (Or.inl ⟨by kernel_rfl, fun w => by go_simp⟩) ?_
    refine wpAny_take (i := 2) (v := .int .i32 (v : Int)) rfl (by kernel_rfl) (by kernel_rfl) (by kernel_rfl) (fun _ _ _ h => h) (Or.inl ⟨by kernel_rfl, fun w => by go_simp⟩) ?_
    refine wpAny_take (i := 4) (v := .string tb) rfl (by kernel_rfl) (by kernel_rfl) (by kernel_rfl) (fun _ _ _ h => h) (Or.inl ⟨by kernel_rfl, fun w => by go_simp⟩) ?_
    refine wpAny_take (i := 5) (v := .bool false) rfl (by kernel_rfl) (by kernel_rfl) (by kernel_rfl) (fun _ _ _ h => h) (Or.inl ⟨by kernel_rfl, fun w => by go_simp⟩) ?_
    refine wpAny_ready (rs := [3]) (by kernel_rfl) (by simp) ?_
    refine AllReady.cons rfl (fun K hK => ?_) AllReady.nil
    go_simp
    refine (HAR.out _ (show World.ownsRow w2.drew base 5 1 (.slice V n c) n (cs bs) from HO1.out) (show base ≤ w2.drew.heap.size by show base ≤ w2.heap.size; omega)).mono ?_
    rintro e w3 ⟨V3, c3, lr, rfl, hown3, hl4, hlr, hb3⟩
    refine hK _ _ ?_
    clear hK K
    refine wpAny_take (i := 6) (v := .bool false) rfl (by kernel_rfl) (by kernel_rfl) (by kernel_rfl) (fun _ _ _ h => h) (Or.inl ⟨by kernel_rfl, fun w => by go_simp⟩) ?_
    refine wpAny_take (i := 7) (v := undef) rfl (by kernel_rfl) (by kernel_rfl) (by kernel_rfl) (fun _ _ _ h => h) (Or.inr ⟨by kernel_rfl, rfl⟩) ?_
    refine wpAny_take (i := 8) (v := undef) rfl (by kernel_rfl) (by kernel_rfl) (by kernel_rfl) (fun _ _ _ h => h) (Or.inr ⟨by kernel_rfl, rfl⟩) ?_
    refine wpAny_take (i := 9) (v := .bool false) rfl (by kernel_rfl) (by kernel_rfl) (by kernel_rfl) (fun _ _ _ h => h) (Or.inl ⟨by kernel_rfl, fun w => by go_simp⟩) ?_
    refine wpAny_take (i := 10) (v := .slice V3 (n + lr.length) c3) rfl (by kernel_rfl) (by kernel_rfl) (by kernel_rfl) (fun _ _ _ h => h) (Or.inl ⟨by kernel_rfl, fun w => by go_simp⟩) ?_
    refine wpAny_take (i := 11) (v := .string tb) rfl (by kernel_rfl) (by kernel_rfl) (by kernel_rfl) (fun _ _ _ h => h) (Or.inl ⟨by kernel_rfl, fun w => by go_simp⟩) ?_
    refine wpAny_take (i := 12) (v := .bool false) rfl (by kernel_rfl) (by kernel_rfl) (by kernel_rfl) (fun _ _ _ h => h) (Or.inl ⟨by kernel_rfl, fun w => by go_simp⟩) ?_
    refine wpAny_done (by kernel_rfl) ?_ _
    go_wp2
    go_ret3
    exact step_eq (e' := .returned (.tuple #[.slice V3 (n + lr.length) c3, .string tb, .bool (false && z2)])) (by kernel_rfl) (HF.out V3 c3 lr w3 hown3 hl4 hlr (((hbel.mono hb).trans (Below.refl _ w2).drew).trans hb3))

/-- Of any text. -/
theorem step_any (base n : Nat) (V : Option Addr) (c : Nat) (bs : List Nat) (s : ByteArray) (w : World) (hown : w.ownsRow base 5 1 (.slice V n c) n (cs bs)) (hb : base ≤ w.heap.size) (hn : n ≤ 1099511627776) (h0 : 0 < s.size) (hlim : s.size ≤ 1099511627776) (hE : Errs w) :
    Calls Tryd.prog 25 #[.slice V n c, .string s] w (Step base bs s w) := by
  have hl := length_bts s
  cases hs : bts s with
  | nil => rw [hs] at hl; simp at hl; omega
  | cons b l =>
    by_cases h92 : b = 92
    · subst h92
      cases l with
      | nil => exact step_bad base n V c bs s w _ (asks_one s hs w) rfl rfl rfl (fun h => by cases h) (by rw [hs]; rfl) h0 (fun p r _ h => form_short (hs.symm.trans h))
      | cons x l =>
        by_cases h34 : x = 34
        · subst h34
          exact step_back base n V c bs s 34 l w hown hb hn hs _ (asks_back s 34 l hs w) (.inl (by decide)) (.inl rfl)
        by_cases h92 : x = 92
        · subst h92
          exact step_back base n V c bs s 92 l w hown hb hn hs _ (asks_back s 92 l hs w) (.inr ⟨by decide, by decide⟩) (.inr rfl)
        by_cases h117 : x = 117
        · subst h117
          exact step_u base n V c bs s l w hown hb hn hs hlim hE
        have e34 : decide ((34 : UInt8).toNat = x) = false := by simp; omega
        have e92 : decide ((92 : UInt8).toNat = x) = false := by simp; omega
        have e117 : decide ((117 : UInt8).toNat = x) = false := by simp; omega
        by_cases h120 : x = 120
        · subst h120
          by_cases h4 : 4 ≤ s.size
          · exact step_x base n V c bs s l w hown hb hn hs h4 hlim hE
          · refine step_bad base n V c bs s w _ (asks_back s 120 l hs w) e34 e92 e117 (fun _ => by simp; omega) (by rw [hs]; rfl) h0 (fun p r hp h => ?_)
            rw [hs] at h
            rcases form_back h with ⟨_, hb', _⟩ | ⟨y, rfl, _, hl'⟩ | ⟨y, _, h117, _⟩
            · omega
            · have h2 := hexd_two (b := y) (by simp [Pc.good] at hp; omega) hp.2
              rw [hs, hl', h2] at hl
              simp at hl
              omega
            · omega
        · refine step_bad base n V c bs s w _ (asks_back s x l hs w) e34 e92 e117 (fun h => absurd h (by simp; omega)) (by rw [hs]; rfl) h0 (fun p r hp h => ?_)
          rw [hs] at h
          rcases form_back h with ⟨_, hb', _⟩ | ⟨y, rfl, _, hl'⟩ | ⟨y, _, h117, _⟩ <;> omega
    · exact step_plain base n V c bs s b l w hown hb hn hs h92
end Go.Proofs.YtlaiofpaahkceaaDoor
