/-
  What runes.Unquote calls of the library: strconv.ParseUint to the base 16, strings.Cut at a point, utf8.AppendRune; and runes.within.
-/
import Derived.Test.YtlaiofpaahkceaaDoorRunParse21
import Derived.WideLaws
namespace Go.Proofs.YtlaiofpaahkceaaDoor
open Go.RowKit Mem Run

/-- The library's two errors hold something. -/
def Err (g : Nat) (w : World) : Prop := ∃ ev, w.cell? ⟨g, 0, none⟩ = some ev ∧ (ev = .nilIface ∨ ∃ te pe, ev = .iface te pe)
def Errs (w : World) : Prop := Err 1 w ∧ Err 2 w
theorem Err.below {g base : Nat} {w w' : World} (h : Err g w) (hb : Below base w w') (hg : g < base) : Err g w' := by
  obtain ⟨ev, h1, h2⟩ := h
  exact ⟨ev, (hb.cell (p := ⟨g, 0, none⟩) hg).trans h1, h2⟩
theorem Errs.below {base : Nat} {w w' : World} (h : Errs w) (hb : Below base w w') (h1 : 1 < base) (h2 : 2 < base) : Errs w' := ⟨h.1.below hb h1, h.2.below hb h2⟩
theorem Err.lt {g : Nat} {w : World} (h : Err g w) : g < w.heap.size := by
  obtain ⟨ev, h1, _⟩ := h
  exact World.block_lt_of_cell? w ⟨g, 0, none⟩ h1
theorem Errs.bel {w w' : World} (h : Errs w) (hb : Below w.heap.size w w') : Errs w' := h.below hb h.1.lt h.2.lt

/-- ParseUint of an empty text tells an error, too. -/
def pun (mx : Nat) (l : List Nat) : Option Nat := if l = [] then none else pu mx 0 l
def Parsed (mx : Nat) (r : Option Nat) (w : World) (e : Ending) (w' : World) : Prop :=
  ∃ (v : Nat) (er : Value), e = .returned (.tuple #[.int .u64 (v : Int), er]) ∧ v ≤ mx ∧ ((∃ x, r = some x ∧ v = x ∧ er = .nilIface) ∨ (r = none ∧ ∃ t p, er = .iface t p)) ∧ Below w.heap.size w w'

theorem toError_any (s : ByteArray) (base bts : Int) (er : Value) (w : World) (hs : s.size ≤ 1099511627776) (hE : Errs w) (her : er = .iface 59 (.int .i64 2) ∨ er = .iface 59 (.int .i64 1)) (fn : ByteArray) :
    Calls Tryd.prog 35 #[.string fn, .string s, .int .i64 base, .int .i64 bts, er] w fun e w' => ∃ t p, e = .returned (.iface t p) ∧ Below w.heap.size w w' := by
  obtain ⟨⟨e1, h1, h1'⟩, ⟨e2, h2, h2'⟩⟩ := hE
  rcases her with rfl | rfl
  · refine (Tryd.strconv_toError_syntax fn s base bts e1 w (by omega) h1 h1').mono ?_
    rintro e w' ⟨N, rfl, _, _, hb⟩
    exact ⟨_, _, rfl, hb⟩
  · refine (Tryd.strconv_toError_range fn s base bts e2 w (by omega) h2 h2').mono ?_
    rintro e w' ⟨N, rfl, _, _, hb⟩
    exact ⟨_, _, rfl, hb⟩

theorem parse_wrap (B : Int) (mx : Nat) (t : ByteArray) (hmax : t.size ≤ 1099511627776) (w : World) (hE : Errs w)
    (hin : t.size ≠ 0 → Calls Tryd.prog 34 #[.string t, .int .i64 16, .int .i64 B] w (ParsedIn mx (pu mx 0 (bts t)) w)) :
    Calls Tryd.prog 30 #[.string t, .int .i64 16, .int .i64 B] w (Parsed mx (pun mx (bts t)) w) := by
  have hany : Calls Tryd.prog 34 #[.string t, .int .i64 16, .int .i64 B] w (ParsedIn mx (pun mx (bts t)) w) := by
    by_cases h0 : t.size = 0
    · have hb : bts t = [] := List.eq_nil_of_length_eq_zero (by rw [length_bts]; exact h0)
      have ht : t = ⟨#[]⟩ := bts_inj (hb.trans rfl)
      subst ht
      refine (Tryd.internal_strconv_ParseUint_empty 16 B w).mono ?_
      rintro e w' ⟨rfl, rfl⟩
      exact parsed_none (v := 0) rfl (Nat.zero_le _) (.inl rfl) (Below.refl _ _)
    · have hb : bts t ≠ [] := by
        intro e
        have := length_bts t
        rw [e] at this
        exact h0 this.symm
      rw [pun, if_neg hb]
      exact hin h0
  have HA := Lib.hid hany
  have HE := Lib.hid hE
  clear hany hin hE
  obtain ⟨r, hr⟩ : ∃ r, pun mx (bts t) = r := ⟨_, rfl⟩
  rw [hr] at HA ⊢
  clear hr
  cases r with
  | some x =>
    have hs : Calls Tryd.prog 34 #[.string t, .int .i64 16, .int .i64 B] w fun e w' => e = .returned (.tuple #[.int .u64 (x : Int), .nilIface]) ∧ x ≤ mx ∧ Below w.heap.size w w' := by
      refine HA.out.mono ?_
      rintro e w1 ⟨v, er, rfl, hv, hN, hb1⟩
      obtain ⟨rfl, rfl⟩ := hN.1 x rfl
      exact ⟨rfl, hv, hb1⟩
    have HS := Lib.hid hs
    clear hs HA
    go_enter Tryd.func30, Tryd.ntmps30
    go_wp2_with (go_at_call 34; refine HS.out.mono ?_; rintro e w1 ⟨rfl, hv, hb1⟩)
    go_ret2
    exact ⟨x, _, rfl, hv, .inl ⟨x, rfl, rfl, rfl⟩, hb1⟩
  | none =>
    have hs : Calls Tryd.prog 34 #[.string t, .int .i64 16, .int .i64 B] w fun e w' => ∃ (v : Nat) (te : TypeId) (pe : Value), e = .returned (.tuple #[.int .u64 (v : Int), .iface te pe]) ∧ v ≤ mx ∧ (Value.iface te pe = .iface 59 (.int .i64 2) ∨ Value.iface te pe = .iface 59 (.int .i64 1)) ∧ Below w.heap.size w w' := by
      refine HA.out.mono ?_
      rintro e w1 ⟨v, er, rfl, hv, hN, hb1⟩
      have her := hN.2 rfl
      have hneq : ∃ t p, er = .iface t p := by rcases her with rfl | rfl <;> exact ⟨_, _, rfl⟩
      obtain ⟨te, pe, rfl⟩ := hneq
      exact ⟨v, te, pe, rfl, hv, her, hb1⟩
    have HS := Lib.hid hs
    clear hs HA
    go_enter Tryd.func30, Tryd.ntmps30
    go_wp2_with (go_at_call 34; refine HS.out.mono ?_; rintro e w1 ⟨v, te, pe, rfl, hv, her, hb1⟩; have HER := Lib.hid her; clear her)
    refine (toError_any t 16 B _ w1 hmax (HE.out.bel hb1) HER.out _).mono ?_
    rintro e w2 ⟨t2, p2, rfl, hb2⟩
    go_wp2
    go_ret2
    exact ⟨v, _, rfl, hv, .inr ⟨rfl, t2, p2, rfl⟩, bel_trans hb1 hb2⟩
theorem parse8_any (t : ByteArray) (hmax : t.size ≤ 1099511627776) (w : World) (hE : Errs w) : Calls Tryd.prog 30 #[.string t, .int .i64 16, .int .i64 8] w (Parsed 255 (pun 255 (bts t)) w) :=
  parse_wrap 8 255 t hmax w hE fun h => parse_in_8 t h hmax w
theorem parse21_any (t : ByteArray) (hmax : t.size ≤ 1099511627776) (w : World) (hE : Errs w) : Calls Tryd.prog 30 #[.string t, .int .i64 16, .int .i64 21] w (Parsed 2097151 (pun 2097151 (bts t)) w) :=
  parse_wrap 21 2097151 t hmax w hE fun h => parse_in_21 t h hmax w

/-! ### Cut -/
theorem index_tell (l : List UInt8) (c : UInt8) : (Lib.indexByte l c = -1 ∧ c ∉ l) ∨ ∃ k : Nat, Lib.indexByte l c = k ∧ k < l.length ∧ (∀ a b : List UInt8, l = a ++ c :: b → c ∉ a → a.length = k) := by
  induction l with
  | nil => exact .inl ⟨rfl, by simp⟩
  | cons x l ih =>
    by_cases hx : x = c
    · subst hx
      refine .inr ⟨0, by simp [Lib.indexByte], by simp, fun a b h hn => ?_⟩
      cases a with
      | nil => rfl
      | cons y a =>
        simp only [List.cons_append, List.cons.injEq] at h
        exact absurd (by rw [h.1]; exact List.mem_cons_self) hn
    · rcases ih with ⟨h1, h2⟩ | ⟨k, h1, h2, h3⟩
      · exact .inl ⟨by simp [Lib.indexByte, hx, h1], by simp [h2, Ne.symm hx]⟩
      · refine .inr ⟨k + 1, ?_, by simp; omega, fun a b h hn => ?_⟩
        · have : ¬ ((k : Int) = -1) := by omega
          simp [Lib.indexByte, hx, h1, this]
        · cases a with
          | nil => simp at h; exact absurd h.1 hx
          | cons y a =>
            simp only [List.cons_append, List.cons.injEq] at h
            rw [List.length_cons, h3 a b h.2 fun hm => hn (List.mem_cons_of_mem _ hm)]

/-- The ending of Cut at a point: two parts. -/
def CutAt (s : ByteArray) (w : World) (e : Ending) (w' : World) : Prop :=
  ∃ (a b : ByteArray) (is : Bool), e = .returned (.tuple #[.string a, .string b, .bool is]) ∧ a.size ≤ s.size ∧ b.size ≤ s.size ∧ (is = true → b.size < s.size) ∧ (is = false → b.size = 0) ∧
    (∀ x y : List Nat, bts s = x ++ 46 :: y → 46 ∉ x → (∀ c ∈ x, c < 256) → bts a = x ∧ bts b = y ∧ is = true) ∧ Below w.heap.size w w'
set_option maxHeartbeats 1000000 in
theorem cut_in (s : ByteArray) (hs : s.size ≤ 1099511627776) (w : World) : Calls Tryd.prog 36 #[.string s, .string ⟨#[46]⟩] w (CutAt s w) := by
  have hI := Tryd.stringslite_Index_one s 46 w
  have hlen : s.data.toList.length = s.size := (Lib.size_eq s).symm
  rcases index_tell s.data.toList 46 with ⟨h1, h2⟩ | ⟨k, h1, h2, h3⟩
  · rw [h1] at hI
    have HI := Lib.hid hI
    clear hI
    go_enter Tryd.func36, Tryd.ntmps36
    go_wp2_with (go_at_call 48; refine HI.out.mono ?_; rintro e w' ⟨rfl, rfl⟩)
    go_ret3
    refine ⟨s, ⟨#[]⟩, false, rfl, Nat.le_refl _, Nat.zero_le _, (fun h => by cases h), (fun _ => rfl), fun x y h => ?_, Below.refl _ _⟩
    exfalso
    have hm : 46 ∈ bts s := by rw [h]; simp
    obtain ⟨u, hu, hu'⟩ := List.mem_map.1 hm
    have : u = 46 := UInt8.toNat_inj.1 hu'
    exact h2 (this ▸ hu)
  · rw [h1] at hI
    rw [hlen] at h2
    have HI := Lib.hid hI
    have H3 := Lib.hid h3
    have i1 : (k : Int) ≤ (s.size : Int) := by omega
    have i2 : (k : Int) + 1 ≤ (s.size : Int) := by omega
    clear hI h3 h1
    go_enter Tryd.func36, Tryd.ntmps36
    go_wp2_with (go_at_call 48; refine HI.out.mono ?_; rintro e w' ⟨rfl, rfl⟩)
    go_region
    go_wp2
    go_ret3
    have hsz : (s.extract 0 k).size = k := by
      rw [size_bts (bts_extract s 0 k), List.length_take, List.length_drop, length_bts]
      omega
    have hsz2 : (s.extract (k + 1) s.size).size = s.size - (k + 1) := by
      rw [size_bts (bts_tail s (k + 1)), List.length_drop, length_bts]
    refine ⟨s.extract 0 k, s.extract (k + 1) s.size, true, rfl, by omega, by omega, (fun _ => by omega), (fun h => by cases h), fun x y h hx hlt => ?_, (Below.refl _ _).drew⟩
    have hk : x.length = k := by
      have hl := congrArg (List.map UInt8.ofNat) h
      have e2 : (bts s).map UInt8.ofNat = s.data.toList := by
        have := congrArg (fun z : ByteArray => z.data.toList) (txt_bts s)
        simpa [txt] using this
      rw [e2, List.map_append, List.map_cons] at hl
      have := H3.out _ _ hl (fun hm => by
        obtain ⟨c, hc, hc'⟩ := List.mem_map.1 hm
        have h46 : c = 46 := by
          have := congrArg UInt8.toNat hc'
          simp [UInt8.toNat_ofNat', Nat.mod_eq_of_lt (hlt c hc)] at this
          exact this
        exact hx (h46 ▸ hc))
      simpa using this
    refine ⟨?_, ?_, rfl⟩
    · rw [bts_extract, h, List.drop_zero, Nat.sub_zero, ← hk]
      exact List.take_left
    · rw [bts_tail, h, ← hk]
      have e3 : x ++ 46 :: y = (x ++ [46]) ++ y := by simp
      rw [e3]
      have : (x ++ [46]).length = x.length + 1 := by simp
      rw [← this]
      exact List.drop_left
theorem cut_any (s : ByteArray) (hs : s.size ≤ 1099511627776) (w : World) : Calls Tryd.prog 31 #[.string s, .string ⟨#[46]⟩] w (CutAt s w) := by
  have h := cut_in s hs w
  have H := Lib.hid h
  clear h
  go_enter Tryd.func31, Tryd.ntmps31
  go_wp2_with (go_at_call 36; refine H.out.mono ?_; rintro e w1 ⟨a, b, is, rfl, h1, h2, h3, h4, h5, hb1⟩)
  go_ret3
  exact ⟨a, b, is, rfl, h1, h2, h3, h4, h5, hb1⟩

/-! ### AppendRune -/
theorem runeCells_fit {c : Nat} (h : fit c = true) : Lib.runeCells (c : Int) = cs (enc c) := by
  rw [fit_iff] at h
  unfold Lib.runeCells
  by_cases h1 : c < 128
  · rw [Lib.encodeRuneZ_one (by omega) (by omega), enc_one h1]
    rfl
  by_cases h2 : c < 2048
  · rw [Lib.encodeRuneZ_two (by omega) (by omega), enc_two (by omega) h2]
    simp [cs]
  by_cases h3 : c < 65536
  · rw [Lib.encodeRuneZ_three (by omega), enc_three (by omega) h3]
    simp [cs]
  · rw [Lib.encodeRuneZ_four (by omega) (by omega), enc_four (by omega)]
    simp [cs]
theorem runeCells_bytes (r : Int) : ∃ l : List Nat, Lib.runeCells r = cs l ∧ 1 ≤ l.length ∧ l.length ≤ 4 := by
  refine ⟨(Lib.encodeRuneZ r).map Int.toNat, ?_, ?_⟩
  · rw [Lib.runeCells, cs, List.map_map]
    refine List.map_congr_left fun x hx => ?_
    have := Lib.encodeRuneZ_byte r x hx
    simp only [Function.comp]
    rw [Int.toNat_of_nonneg this.1]
  · rw [List.length_map]
    exact Lib.encodeRuneZ_length r
/-- Behind bytes of the call's own the bytes of a rune (some bytes, if it is none). -/
theorem appendRune_any (r : Nat) (hr : r ≤ 2097151) (base n : Nat) (V : Option Addr) (c : Nat) (bs : List Nat) (w : World) (hown : w.ownsRow base 5 1 (.slice V n c) n (cs bs)) (hb : base ≤ w.heap.size) (hn : n ≤ 1099511627776) :
    Calls Tryd.prog 32 #[.slice V n c, .int .i32 (r : Int)] w fun e w' => ∃ V' c' l, e = .returned (.slice V' (n + l.length) c') ∧ w'.ownsRow base 5 1 (.slice V' (n + l.length) c') (n + l.length) (cs (bs ++ l)) ∧ l.length ≤ 4 ∧ (fit r = true → l = enc r) ∧ Below base w w' := by
  refine (Tryd.utf8_AppendRune_plain base (.slice V n c) n (cs bs) (r : Int) (by omega) (by omega) w hown (by omega) hb).mono ?_
  rintro e w' ⟨v', rfl, hown', o, hg⟩
  have hbel : Below base w w' := ((Below.refl _ _).alloc hb o).grown hg (by rw [size_alloc]; omega) fun k hk => (hown.lt k hk).1
  by_cases hf : fit r = true
  · rw [runeCells_fit hf, length_cs, ← cs_append] at hown'
    obtain ⟨V', c', rfl, _⟩ := Rd.of_own hown'
    exact ⟨V', c', enc r, rfl, hown', (enc_len r).2, fun _ => rfl, hbel⟩
  · obtain ⟨l, hl, h1, h2⟩ := runeCells_bytes (r : Int)
    rw [hl, length_cs, ← cs_append] at hown'
    obtain ⟨V', c', rfl, _⟩ := Rd.of_own hown'
    exact ⟨V', c', l, rfl, hown', h2, fun h => absurd h hf, hbel⟩
end Go.Proofs.YtlaiofpaahkceaaDoor
