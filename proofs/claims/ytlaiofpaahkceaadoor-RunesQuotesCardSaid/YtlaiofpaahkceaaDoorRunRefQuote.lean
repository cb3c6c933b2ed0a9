/-
  The document's answers: hex, and Quote of any text.
-/
import Derived.Test.YtlaiofpaahkceaaDoorRunRefBeg
namespace Go.Proofs.YtlaiofpaahkceaaDoor
open Go.RowKit Mem Run

def alldig : ByteArray := ⟨#[48, 49, 50, 51, 52, 53, 54, 55, 56, 57, 97, 98, 99, 100, 101, 102]⟩
theorem all_tab : ∀ d : Fin 16, bts (alldig.extract d.val (d.val + 1)) = [dg d.val] := by decide
theorem all_at {d : Nat} (h : d < 16) (w : World) : (Instr.slice 9 (.string ⟨#[48, 49, 50, 51, 52, 53, 54, 55, 56, 57, 97, 98, 99, 100, 101, 102]⟩) (some (.int .i64 (d : Int))) (some (.int .i64 ((d : Int) + 1))) none).run Tryd.prog w = .ok (.string (txt [dg d])) w := by
  have hs : (⟨#[48, 49, 50, 51, 52, 53, 54, 55, 56, 57, 97, 98, 99, 100, 101, 102]⟩ : ByteArray).size = 16 := rfl
  rw [run_slice_string w 9 _ .i64 .i64 (d : Int) ((d : Int) + 1) Tryd.underlying9 (by omega) (by omega) (by rw [hs]; omega)]
  have e : ((d : Int) + 1).toNat = d + 1 := by omega
  rw [e, Int.toNat_natCast]
  have := all_tab ⟨d, h⟩
  have h2 : alldig.extract d (d + 1) = txt [dg d] := bts_inj (by rw [this, bts_txt]; intro b hb; simp at hb; rw [hb]; exact dg_lt (dg_is h))
  exact congrArg (fun x => Result.ok (Value.string x) w) h2

/-- What holds at each round's head of hex. -/
def HexRel (n : Nat) (v0 v4 : Value) : Prop :=
  ∃ (x : Nat) (t : ByteArray), v0 = .int .i64 (x : Int) ∧ v4 = .string t ∧ x ≤ n ∧ (x < 16 → hexd n = bts t) ∧ (¬ x < 16 → hexd n = hexd (x / 16) ++ bts t) ∧ t.size + x ≤ n + 1
theorem hex_start (n : Nat) : (n < 16 → hexd n = bts (txt [dg (n % 16)])) ∧ (¬ n < 16 → hexd n = hexd (n / 16) ++ bts (txt [dg (n % 16)])) := by
  have h : bts (txt [dg (n % 16)]) = [dg (n % 16)] := bts_txt _ (by intro b hb; simp at hb; rw [hb]; exact dg_lt (dg_is (Nat.mod_lt _ (by omega))))
  rw [h]
  exact ⟨fun h => by rw [hexd_low h, Nat.mod_eq_of_lt h], fun h => hexd_more h⟩
theorem size_dg (d : Nat) : (txt [dg d]).size = 1 := by rw [size_txt]; rfl

set_option maxHeartbeats 1000000 in
theorem hex_any (n : Nat) (hn : n ≤ 1114111) (w : World) : Calls Tryd.prog 26 #[.int .i64 (n : Int)] w fun e w' => e = .returned (.string (txt (hexd n))) ∧ w = w' := by
  obtain ⟨d, hd⟩ : ∃ d : Nat, n % 16 = d := ⟨_, rfl⟩
  have hmod : (n : Int).tmod 16 = (d : Int) := by rw [Int.tmod_eq_emod_of_nonneg (by omega)]; omega
  have hsl := all_at (d := d) (by omega)
  have hst := hex_start n
  rw [hd] at hst
  have HS := Lib.hid hst
  have hd16 : d < 16 := by omega
  clear hd hst
  go_enter Tryd.func26, Tryd.ntmps26
  go_wp2
  go_loop [0, 4] (HexRel n) (fun v0 _ => (intOf v0).toNat)
  case atStart => exact ⟨n, txt [dg d], rfl, rfl, Nat.le_refl _, HS.out.1, HS.out.2, by rw [size_dg]; omega⟩
  case round =>
    obtain ⟨x, t, rfl, rfl, hx, h1, h2, h3⟩ := hrel
    by_cases h16 : x < 16
    · have b1 : decide ((x : Int) > 15) = false := by simp; omega
      have hfin := h1 h16
      have HF := Lib.hid hfin
      clear h1 h2 hfin
      go_wp2
      go_ret
      refine ⟨?_, rfl⟩
      rw [HF.out, txt_bts]
      rfl
    · have b1 : decide ((x : Int) > 15) = true := by simp; omega
      have hfin := h2 h16
      obtain ⟨y, hy⟩ : ∃ y : Nat, x / 16 = y := ⟨_, rfl⟩
      obtain ⟨e, he⟩ : ∃ e : Nat, y % 16 = e := ⟨_, rfl⟩
      have hdiv : (x : Int).tdiv 16 = (y : Int) := by rw [Int.tdiv_eq_ediv_of_nonneg (by omega)]; omega
      have hmod2 : (y : Int).tmod 16 = (e : Int) := by rw [Int.tmod_eq_emod_of_nonneg (by omega)]; omega
      have hsl2 := all_at (d := e) (by omega)
      have hcat : ∀ W : World, (Op.stringOp .add (txt [dg e]) t).run Tryd.prog W = .ok (.string (txt [dg e] ++ t)) W := fun W => run_string_add_sum W _ _ (by rw [size_dg]; omega)
      have hst := hex_start y
      have hsz : (txt [dg e] ++ t).size = t.size + 1 := by rw [size_bts (bts_append _ _), List.length_append, length_bts, length_bts, size_dg]; omega
      have hnext : (y < 16 → hexd n = bts (txt [dg e] ++ t)) ∧ (¬ y < 16 → hexd n = hexd (y / 16) ++ bts (txt [dg e] ++ t)) := by
        rw [he] at hst
        rw [bts_append]
        refine ⟨fun h => ?_, fun h => ?_⟩
        · rw [hfin, hy, hst.1 h]
        · rw [hfin, hy, hst.2 h, List.append_assoc]
      have hw1 : IntKind.i64.wrap (y : Int) = (y : Int) := by rw [IntKind.wrap_i64]; omega
      have he16 : e < 16 := by omega
      have hyx : y < x := by omega
      obtain ⟨t2, ht2⟩ : ∃ t2, txt [dg e] ++ t = t2 := ⟨_, rfl⟩
      rw [ht2] at hcat hsz hnext
      have HN := Lib.hid hnext
      have HZ := Lib.hid hsz
      clear h1 h2 hfin hst hy he ht2 hnext hsz
      go_wp2
      refine ⟨⟨y, t2, rfl, rfl, by omega, HN.out.1, HN.out.2, by rw [HZ.out]; omega⟩, by simp [intOf]; omega⟩
/-- Texts one behind the other. -/
theorem cat_some (a b : ByteArray) (h : a.size + b.size ≤ 1099511627776) : ∃ c : ByteArray, bts c = bts a ++ bts b ∧ c.size = a.size + b.size ∧ ∀ W : World, (Op.stringOp .add a b).run Tryd.prog W = .ok (.string c) W :=
  ⟨a ++ b, bts_append a b, by rw [size_bts (bts_append a b), List.length_append, length_bts, length_bts], fun W => run_string_add_sum W a b (by omega)⟩

def QRel (s : ByteArray) (ps : List Pc) (v3 v5 v6 : Value) : Prop :=
  ∃ (k pos : Nat) (t : ByteArray), v3 = .string t ∧ v5 = .int .i64 (pos : Int) ∧ v6 = .int .i64 (k : Int) ∧ k ≤ ps.length ∧ pos ≤ s.size ∧ rest s pos = ps.drop k ∧ bts t = 34 :: forms (ps.take k) ∧ t.size ≤ 1 + 9 * k

theorem q_next {s : ByteArray} {ps : List Pc} {k pos m : Nat} {p : Pc} {t t2 : ByteArray} (hp : ps[k]? = some p) (hm : p.bytes.length = m) (hpos : pos < s.size) (hr : rest s pos = ps.drop k) (ht : bts t = 34 :: forms (ps.take k)) (hsz : t.size ≤ 1 + 9 * k) (hg : p.good) (h2 : bts t2 = bts t ++ form p) :
    rest s (pos + m) = ps.drop (k + 1) ∧ bts t2 = 34 :: forms (ps.take (k + 1)) ∧ t2.size ≤ 1 + 9 * (k + 1) := by
  have hk : k < ps.length := (List.getElem?_eq_some_iff.1 hp).1
  have hpk : ps[k] = p := (List.getElem?_eq_some_iff.1 hp).2
  rw [List.drop_eq_getElem_cons hk, hpk, rest_more hpos] at hr
  injection hr with h3 h4
  rw [h3, hm] at h4
  refine ⟨h4, ?_, ?_⟩
  · rw [h2, ht, List.take_add_one, hp]
    simp [forms]
  · have := form_len hg
    rw [size_bts h2, List.length_append, length_bts]
    omega

set_option maxHeartbeats 4000000 in
set_option maxRecDepth 100000 in
theorem refquote_any (s : ByteArray) (hs : s.size ≤ 1000000) (w : World) : Calls Tryd.prog 19 #[.string s] w fun e w' => e = .returned (.string (txt (quote (bts s)))) ∧ Below w.heap.size w w' := by
  have hr := runes_any s (by omega) w
  have hpl := pieces_le (bts s)
  rw [length_bts] at hpl
  have hgood := pieces_good (bts s) (bts_lt s)
  have hrest : rest s 0 = pieces (bts s) := rfl
  have hq : quote (bts s) = 34 :: forms (pieces (bts s)) ++ [34] := rfl
  rw [hq]
  clear hq
  generalize pieces (bts s) = ps at hr hpl hgood hrest ⊢
  obtain ⟨n, hn⟩ : ∃ n, ps.length = n := ⟨_, rfl⟩
  rw [hn] at hr hpl
  have HR := Lib.hid hr
  have HN := Lib.hid hn
  have HG := Lib.hid hgood
  have HR0 := Lib.hid hrest
  clear hr hn hgood hrest
  go_enter Tryd.func19, Tryd.ntmps19
  go_wp2_with fail
  refine HR.out.mono ?_
  rintro e w1 ⟨A, c, rfl, hrow, hb1⟩
  have HW := Lib.hid hrow
  have HB := Lib.hid hb1
  clear hrow hb1
  go_wp2
  go_loop [3, 5, 6] (QRel s ps) (fun _ _ v6 => n - (intOf v6).toNat)
  case atStart => exact ⟨0, 0, ⟨#[34]⟩, rfl, rfl, rfl, Nat.zero_le _, Nat.zero_le _, HR0.out, rfl, Nat.le_refl _⟩
  case round =>
    obtain ⟨k, pos, t, rfl, rfl, rfl, hk, hpos, hrs, ht, htsz⟩ := hrel
    rw [HN.out] at hk
    by_cases hkn : k < n
    · obtain ⟨g, p, rfl, hp, hc0, hc1⟩ := HW.out.at_ hkn
      have hlt : decide ((k : Int) < (n : Int)) = true := by simp; omega
      have hpk : ps.drop k = p :: ps.drop (k + 1) := by
        have hk' : k < ps.length := (List.getElem?_eq_some_iff.1 hp).1
        rw [List.drop_eq_getElem_cons hk', (List.getElem?_eq_some_iff.1 hp).2]
      have hps : pos < s.size := by
        rcases Nat.lt_or_ge pos s.size with h | h
        · exact h
        · rw [rest_end (by omega), hpk] at hrs
          cases hrs
      have hfirst : first ((bts s).drop pos) = p := by
        have h := hrs
        rw [rest_more hps, hpk] at h
        injection h
      have hg : p.good := HG.out p (List.mem_of_getElem? hp)
      have hle := rest_le hps
      have hby := first_bytes (drop_ne hps)
      rw [hfirst] at hle hby
      have hblen := bytes_len p
      obtain ⟨m, hm⟩ : ∃ m, p.bytes.length = m := ⟨_, rfl⟩
      rw [hm] at hc1 hle hby hblen
      have hpart : ∀ W : World, (Instr.slice 9 (.string s) (some (.int .i64 (pos : Int))) (some (.int .i64 ((pos : Int) + (m : Int)))) none).run Tryd.prog W = .ok (.string (s.extract pos (pos + m))) W := fun W => by
        rw [run_slice_string W 9 s .i64 .i64 (pos : Int) ((pos : Int) + (m : Int)) Tryd.underlying9 (by omega) (by omega) (by omega)]
        rw [Int.toNat_natCast, show ((pos : Int) + (m : Int)).toNat = pos + m by omega]
      obtain ⟨part, hpt⟩ : ∃ x, s.extract pos (pos + m) = x := ⟨_, rfl⟩
      have hbpart : bts part = p.bytes := by rw [← hpt, bts_extract, hby, Nat.add_sub_cancel_left]
      have hszp := size_bts hbpart
      rw [hm] at hszp
      rw [hpt] at hpart
      have HNX : Hid (∀ t2 : ByteArray, bts t2 = bts t ++ form p → rest s (pos + m) = ps.drop (k + 1) ∧ bts t2 = 34 :: forms (ps.take (k + 1)) ∧ t2.size ≤ 1 + 9 * (k + 1)) := Lib.hid fun t2 h2 => q_next hp hm hps hrs ht htsz hg h2
      have w1' : IntKind.i64.wrap ((pos : Int) + (m : Int)) = (pos : Int) + (m : Int) := by rw [IntKind.wrap_i64]; omega
      have hend : ∀ t2 : ByteArray, bts t2 = bts t ++ form p → QRel s ps (.string t2) (.int .i64 ((pos : Int) + (m : Int))) (.int .i64 ((k : Int) + 1)) := fun t2 h2 => by
        obtain ⟨e1, e2, e3⟩ := HNX.out t2 h2
        exact ⟨k + 1, pos + m, t2, rfl, by simp, by simp, by rw [HN.out]; omega, hle, e1, e2, e3⟩
      have HE := Lib.hid hend
      have hmeas : n - (intOf (.int .i64 ((k : Int) + 1))).toNat < n - (intOf (.int .i64 (k : Int))).toNat := by simp [intOf]; omega
      cases hpc : p with
      | lone b =>
        rw [hpc] at hc0 hg HE hfirst
        have hb0 : (bts s).getD pos 0 = b := by
          have := first_split (drop_ne hps)
          rw [hfirst] at this
          have h2 := getD_drop (bts s) pos 0
          rw [this] at h2
          exact h2.symm
        have hix := byte_at s .i64 pos hps hb0
        have hh := fun W => hex_any b (by have := hg.2; omega) W
        obtain ⟨β, hβ⟩ : ∃ β : Int, (b : Int) = β := ⟨_, rfl⟩
        rw [hβ] at hix hh
        have β0 : 0 ≤ β := by omega
        have β1 : β ≤ 255 := by have := hg.2; omega
        have hh2 := hexd_two (b := b) (by have := hg.1; omega) hg.2
        have hxs : (txt (hexd b)).size = 2 := by rw [size_txt, hh2]; rfl
        have hxb : bts (txt (hexd b)) = hexd b := bts_txt _ fun c hc => dg_lt (hexd_is _ _ hc)
        obtain ⟨tw, htw⟩ : ∃ x, txt (hexd b) = x := ⟨_, rfl⟩
        rw [htw] at hh hxs hxb
        obtain ⟨t1, hb1, hs1, hcat1⟩ := cat_some t ⟨#[92, 120]⟩ (by show t.size + 2 ≤ _; omega)
        obtain ⟨t2, hb2, hs2, hcat2⟩ := cat_some t1 tw (by rw [hs1, hxs]; show t.size + 2 + 2 ≤ _; omega)
        have hfin := HE.out t2 (by rw [hb2, hb1, hxb]; simp [form, bts])
        have HFIN := Lib.hid hfin
        have HH := Lib.hid hh
        have d2 : decide ((tw.size : Int) < 2) = false := by rw [hxs]; rfl
        have hv : Pc.val (.lone b) = -1 := rfl
        rw [hv] at hc0
        clear hfin hh hb1 hb2 hs1 hs2 hxs hxb hh2 hb0 htw HE hend HNX hfirst hg hpc hp hpk hrs ht htsz hby hbpart hszp hpt hv hm hβ
        go_wp2_with (go_at_call 26; refine (HH.out _).mono ?_; rintro e w' ⟨rfl, rfl⟩)
        exact ⟨HFIN.out, hmeas⟩
      | rune c =>
        rw [hpc] at hc0 hg HE hbpart
        have hcle : c ≤ 1114111 := fit_le hg
        rw [show Pc.val (.rune c) = (c : Int) from rfl] at hc0
        obtain ⟨γ, hγ⟩ : ∃ γ : Int, (c : Int) = γ := ⟨_, rfl⟩
        rw [hγ] at hc0
        have g0 : 0 ≤ γ := by omega
        have n0 : decide (γ < 0) = false := by simp; omega
        by_cases h34 : c = 34 ∨ c = 92
        · have hf : form (.rune c) = [92, c] := by simp [form, h34]
          have hpb : bts part = [c] := by rw [hbpart, Pc.bytes, enc_one (by omega)]
          obtain ⟨t1, hb1, hs1, hcat1⟩ := cat_some t ⟨#[92]⟩ (by show t.size + 1 ≤ _; omega)
          obtain ⟨t2, hb2, hs2, hcat2⟩ := cat_some t1 part (by rw [hs1, hszp]; show t.size + 1 + m ≤ _; omega)
          have hfin := HE.out t2 (by rw [hb2, hb1, hpb, hf]; simp [bts])
          have HFIN := Lib.hid hfin
          have bb : (γ == 34) = true ∨ ((γ == 34) = false ∧ (γ == 92) = true) := by
            rcases h34 with h | h
            · exact .inl (by simp; omega)
            · exact .inr ⟨by simp; omega, by simp; omega⟩
          clear hfin hb1 hb2 hs1 hs2 HE hend HNX hfirst hg hpc hp hpk hrs ht htsz hby hbpart hszp hpt hm hf hpb h34 hγ
          rcases bb with b34 | ⟨b34, b92⟩
          · go_wp2
            exact ⟨HFIN.out, hmeas⟩
          · go_wp2
            exact ⟨HFIN.out, hmeas⟩
        · have b34 : (γ == 34) = false := by simp; omega
          have b92 : (γ == 92) = false := by simp; omega
          by_cases h32 : 32 ≤ c ∧ c ≤ 126
          · have hf : form (.rune c) = [c] := by simp [form, h34, h32]
            have hpb : bts part = [c] := by rw [hbpart, Pc.bytes, enc_one (by omega)]
            obtain ⟨t1, hb1, hs1, hcat1⟩ := cat_some t part (by rw [hszp]; omega)
            have hfin := HE.out t1 (by rw [hb1, hpb, hf])
            have HFIN := Lib.hid hfin
            have b32 : decide (γ ≥ 32) = true := by simp; omega
            have b126 : decide (γ ≤ 126) = true := by simp; omega
            clear hfin hb1 hs1 HE hend HNX hfirst hg hpc hp hpk hrs ht htsz hby hbpart hszp hpt hm hf hpb h34 h32 hγ
            go_wp2
            exact ⟨HFIN.out, hmeas⟩
          · have hf : form (.rune c) = [92, 117] ++ hexd c ++ [46] := by simp [form, h34, h32]
            have hh := fun W => hex_any c hcle W
            rw [hγ] at hh
            have hl := hexd_len 5 c (by omega)
            have hxs : (txt (hexd c)).size ≤ 6 := by rw [size_txt]; omega
            have hxb : bts (txt (hexd c)) = hexd c := bts_txt _ fun x hx => dg_lt (hexd_is _ _ hx)
            obtain ⟨tw, htw⟩ : ∃ x, txt (hexd c) = x := ⟨_, rfl⟩
            rw [htw] at hh hxs hxb
            obtain ⟨t1, hb1, hs1, hcat1⟩ := cat_some t ⟨#[92, 117]⟩ (by show t.size + 2 ≤ _; omega)
            have hs1' : t1.size = t.size + 2 := hs1
            obtain ⟨t2, hb2, hs2, hcat2⟩ := cat_some t1 tw (by omega)
            obtain ⟨t3, hb3, hs3, hcat3⟩ := cat_some t2 ⟨#[46]⟩ (by show t2.size + 1 ≤ _; omega)
            have hfin := HE.out t3 (by rw [hb3, hb2, hb1, hxb, hf]; simp [bts])
            have HFIN := Lib.hid hfin
            have HH := Lib.hid hh
            have bb : decide (γ ≥ 32) = false ∨ (decide (γ ≥ 32) = true ∧ decide (γ ≤ 126) = false) := by
              by_cases h : 32 ≤ c
              · exact .inr ⟨by simp; omega, by simp; omega⟩
              · exact .inl (by simp; omega)
            clear hfin hh hb1 hb2 hb3 hs1 hs1' hs2 hs3 hl hxs hxb htw HE hend HNX hfirst hg hpc hp hpk hrs ht htsz hby hbpart hszp hpt hm hf h34 h32 hγ
            rcases bb with b32 | ⟨b32, b126⟩
            · go_wp2_with (go_at_call 26; refine (HH.out _).mono ?_; rintro e w' ⟨rfl, rfl⟩)
              exact ⟨HFIN.out, hmeas⟩
            · go_wp2_with (go_at_call 26; refine (HH.out _).mono ?_; rintro e w' ⟨rfl, rfl⟩)
              exact ⟨HFIN.out, hmeas⟩
    · have hlt : decide ((k : Int) < (n : Int)) = false := by simp; omega
      obtain ⟨t1, hb1, hs1, hcat1⟩ := cat_some t ⟨#[34]⟩ (by show t.size + 1 ≤ _; omega)
      have hfin : t1 = txt (34 :: forms ps ++ [34]) := by
        have hkk : k = ps.length := by rw [HN.out]; omega
        rw [hkk, List.take_length] at ht
        rw [← txt_bts t1, hb1, ht]
        rfl
      have HF := Lib.hid hfin
      clear hfin hb1 hs1 hrs ht htsz
      go_wp2
      go_ret
      have hf := HF.out
      rw [List.cons_append] at hf
      refine ⟨?_, HB.out⟩
      rw [← hf]
      rfl
end Go.Proofs.YtlaiofpaahkceaaDoor
