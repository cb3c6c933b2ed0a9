/-
  runes.unquoteRune: behind bytes of the call's own what the first piece of a text in quotes stands for; whatever text it is, less is left of it.
-/
import Derived.Test.YtlaiofpaahkceaaDoorRunCalls
namespace Go.Proofs.YtlaiofpaahkceaaDoor
open Go.RowKit Mem Run

/-- The ending of unquoteRune. -/
def Step (base : Nat) (bs : List Nat) (s : ByteArray) (w : World) (e : Ending) (w' : World) : Prop :=
  ∃ (V : Option Addr) (n c : Nat) (bs' : List Nat) (t : ByteArray) (ok : Bool), e = .returned (.tuple #[.slice V n c, .string t, .bool ok]) ∧ w'.ownsRow base 5 1 (.slice V n c) n (cs bs') ∧ Below base w w' ∧ t.size < s.size ∧ n ≤ bs.length + 4 ∧
    (∀ p r, p.good → bts s = form p ++ r → bs' = bs ++ p.bytes ∧ bts t = r ∧ ok = true)

/-- Which piece it is, by its first two bytes. -/
theorem form_plain {p : Pc} {b : Nat} {r l : List Nat} (h : b :: l = form p ++ r) (hb : b ≠ 92) : p = .rune b ∧ b < 128 ∧ l = r := by
  cases p with
  | lone x => simp [form] at h; exact absurd h.1 hb
  | rune c =>
    simp only [form] at h
    split at h
    · simp at h; exact absurd h.1 hb
    · split at h
      · simp at h
        obtain ⟨rfl, rfl⟩ := h
        exact ⟨rfl, by omega, rfl⟩
      · simp at h; exact absurd h.1 hb
theorem form_back {p : Pc} {b : Nat} {r l : List Nat} (h : 92 :: b :: l = form p ++ r) :
    (p = .rune b ∧ (b = 34 ∨ b = 92) ∧ l = r) ∨ (∃ x, p = .lone x ∧ b = 120 ∧ l = hexd x ++ r) ∨ (∃ c, p = .rune c ∧ b = 117 ∧ l = hexd c ++ 46 :: r) := by
  cases p with
  | lone x =>
    simp [form] at h
    exact .inr (.inl ⟨x, rfl, h.1, h.2⟩)
  | rune c =>
    simp only [form] at h
    split at h
    · rename_i hc
      simp at h
      obtain ⟨rfl, rfl⟩ := h
      exact .inl ⟨rfl, hc, rfl⟩
    · split at h
      · rename_i h1 h2
        simp at h
        omega
      · simp at h
        exact .inr (.inr ⟨c, rfl, h.1, h.2⟩)
theorem form_short {p : Pc} {r : List Nat} : [92] ≠ form p ++ r := by
  intro h
  have hl := congrArg List.length h
  cases p with
  | lone x => simp [form] at h
  | rune c =>
    simp only [form] at h
    split at h
    · simp at h
    · split at h
      · simp at h; omega
      · simp at h

theorem pre_two (s : ByteArray) (x y : Nat) (l : List Nat) (h : bts s = 92 :: x :: l) : decide ([92, y] <+: bts s) = decide (y = x) := by
  rw [h, Bool.eq_iff_iff]
  simp [List.prefix_iff_eq_take]
theorem pre_one (s : ByteArray) (y : Nat) (h : bts s = [92]) : decide ([92, y] <+: bts s) = false := by
  rw [h]
  simp [List.prefix_iff_eq_take]

theorem step_plain (base n : Nat) (V : Option Addr) (c : Nat) (bs : List Nat) (s : ByteArray) (b : Nat) (l : List Nat) (w : World) (hown : w.ownsRow base 5 1 (.slice V n c) n (cs bs)) (hb : base ≤ w.heap.size) (hn : n ≤ 1099511627776) (hs : bts s = b :: l) (h92 : b ≠ 92) :
    Calls Tryd.prog 25 #[.slice V n c, .string s] w (Step base bs s w) := by
  have hsz := size_bts hs
  rw [List.length_cons] at hsz
  refine (unq_plain base n V c bs s b w hown hb hn (by omega) (by rw [hs]; rfl) h92).mono ?_
  rintro e w' ⟨V', c', rfl, hown', hbel⟩
  refine ⟨V', _, c', bs ++ [b], _, true, rfl, hown', hbel, ?_, by simp, fun p r hp h => ?_⟩
  · rw [size_bts (bts_tail s 1), List.length_drop, length_bts]; omega
  · rw [hs] at h
    obtain ⟨rfl, hlt, rfl⟩ := form_plain h h92
    exact ⟨by rw [Pc.bytes, enc_one hlt], by rw [bts_tail, hs]; rfl, rfl⟩

/-- A text's beginning is asked. -/
def Asks (s : ByteArray) (z : UInt8 → Bool) (w : World) : Prop := ∀ y : UInt8, Calls Tryd.prog 22 #[.string s, .string ⟨#[92, y]⟩] w fun e w' => e = .returned (.bool (z y)) ∧ w = w'
theorem asks_back (s : ByteArray) (x : Nat) (l : List Nat) (h : bts s = 92 :: x :: l) (w : World) : Asks s (fun y => decide (y.toNat = x)) w := by
  intro y
  have := has_any s ⟨#[92, y]⟩ w
  rw [show bts ⟨#[92, y]⟩ = [92, y.toNat] from rfl, pre_two s x _ l h] at this
  exact this
theorem asks_one (s : ByteArray) (h : bts s = [92]) (w : World) : Asks s (fun _ => false) w := by
  intro y
  have := has_any s ⟨#[92, y]⟩ w
  rw [show bts ⟨#[92, y]⟩ = [92, y.toNat] from rfl, pre_one s _ h] at this
  exact this

theorem own_nil (w : World) (base : Nat) : w.ownsRow base 5 1 (.slice none 0 0) 0 (cs []) := ⟨rfl, .inl ⟨rfl, rfl⟩⟩

/-- There is no such piece. -/
theorem step_bad (base n : Nat) (V : Option Addr) (c : Nat) (bs : List Nat) (s : ByteArray) (w : World) (z : UInt8 → Bool) (hask : Asks s z w) (h34 : z 34 = false) (h92 : z 92 = false) (h117 : z 117 = false) (hx : z 120 = true → decide ((s.size : Int) ≥ 4) = false)
    (h0 : (bts s).getD 0 0 = 92) (hs : 0 < s.size) (hno : ∀ p r, p.good → bts s ≠ form p ++ r) :
    Calls Tryd.prog 25 #[.slice V n c, .string s] w (Step base bs s w) := by
  have hix := byte_at s .i64 0 hs h0
  rw [show ((0 : Nat) : Int) = 0 from rfl, show ((92 : Nat) : Int) = 92 from rfl] at hix
  have HA := Lib.hid hask
  have HN := Lib.hid hno
  clear hask h0 hno
  cases h120 : z 120 with
  | false =>
    clear hx
    go_enter Tryd.func25, Tryd.ntmps25
    go_wp2_with (go_at_call 22; refine (HA.out _).mono ?_; rintro e w' ⟨rfl, rfl⟩)
    go_ret3
    exact ⟨none, 0, 0, [], ⟨#[]⟩, false, rfl, own_nil _ _, Below.refl _ _, hs, Nat.zero_le _, fun p r hp h => absurd h (HN.out p r hp)⟩
  | true =>
    have hz' := hx h120
    clear hx
    go_enter Tryd.func25, Tryd.ntmps25
    go_wp2_with (go_at_call 22; refine (HA.out _).mono ?_; rintro e w' ⟨rfl, rfl⟩)
    go_ret3
    exact ⟨none, 0, 0, [], ⟨#[]⟩, false, rfl, own_nil _ _, Below.refl _ _, hs, Nat.zero_le _, fun p r hp h => absurd h (HN.out p r hp)⟩

/-- A quote or a backslash. -/
theorem step_back (base n : Nat) (V : Option Addr) (c : Nat) (bs : List Nat) (s : ByteArray) (b : Nat) (l : List Nat) (w : World) (hown : w.ownsRow base 5 1 (.slice V n c) n (cs bs)) (hb : base ≤ w.heap.size) (hn : n ≤ 1099511627776) (hs : bts s = 92 :: b :: l) (z : UInt8 → Bool) (hask : Asks s z w) (hz : (z 34 = true) ∨ (z 34 = false ∧ z 92 = true)) (hb1 : b = 34 ∨ b = 92) :
    Calls Tryd.prog 25 #[.slice V n c, .string s] w (Step base bs s w) := by
  have hsz := size_bts hs
  rw [List.length_cons, List.length_cons] at hsz
  have hix0 := byte_at s .i64 0 (b := 92) (by omega) (by rw [hs]; rfl)
  have hix1 := byte_at s .i64 1 (b := b) (by omega) (by rw [hs]; rfl)
  rw [show ((0 : Nat) : Int) = 0 from rfl, show ((92 : Nat) : Int) = 92 from rfl] at hix0
  rw [show ((1 : Nat) : Int) = 1 from rfl] at hix1
  have i2 : (2 : Int) ≤ (s.size : Int) := by omega
  have i3 : 2 ≤ s.size := by omega
  have HA := Lib.hid hask
  have HO := Lib.hid hown
  have HS := Lib.hid hs
  have hfin : ∀ (V' : Option Addr) (c' : Nat) (w' : World), w'.ownsRow base 5 1 (.slice V' (n + 1) c') (n + 1) (cs (bs ++ [b])) → Below base w w' → Step base bs s w (.returned (.tuple #[.slice V' (n + 1) c', .string (s.extract 2 s.size), .bool true])) w' := by
    intro V' c' w' h1 h2
    refine ⟨V', _, c', _, _, true, rfl, h1, h2, ?_, ?_, fun p r hp h => ?_⟩
    · rw [size_bts (bts_tail s 2), List.length_drop, length_bts]; omega
    · have := own_len HO.out; omega
    · rw [HS.out] at h
      rcases form_back h with ⟨rfl, hb', rfl⟩ | ⟨x, _, h120, _⟩ | ⟨x, _, h117, _⟩
      · exact ⟨by rw [Pc.bytes, enc_one (by omega)], by rw [bts_tail, HS.out]; rfl, rfl⟩
      · omega
      · omega
  have HF := Lib.hid hfin
  clear hask hown hs hfin hb1 hsz
  rcases hz with h34 | ⟨h34, h92⟩
  · go_enter Tryd.func25, Tryd.ntmps25
    go_wp2_with (go_at_call 22; refine (HA.out _).mono ?_; rintro e w' ⟨rfl, rfl⟩)
    go_region_law (refine step_append_kept rfl (.tmp 32) (.tmp 35) rfl base V n c bs (by simp [Act.eval]) (HO.out.alloc _) ⟨w.heap.size, 0, none⟩ 1 1 [b] (by simp [Act.eval]) (Rd.few _ [b] _ _ rfl 1 rfl (by omega)).drew (by omega) (by simp; omega) ?_; intro V2 c2 w2 hown2 hk2)
    go_wp2
    go_ret3
    exact HF.out V2 c2 w2 hown2 ((((Below.refl _ w).alloc hb _).drew).trans hk2.1)
  · go_enter Tryd.func25, Tryd.ntmps25
    go_wp2_with (go_at_call 22; refine (HA.out _).mono ?_; rintro e w' ⟨rfl, rfl⟩)
    go_region_law (refine step_append_kept rfl (.tmp 32) (.tmp 35) rfl base V n c bs (by simp [Act.eval]) (HO.out.alloc _) ⟨w.heap.size, 0, none⟩ 1 1 [b] (by simp [Act.eval]) (Rd.few _ [b] _ _ rfl 1 rfl (by omega)).drew (by omega) (by simp; omega) ?_; intro V2 c2 w2 hown2 hk2)
    go_wp2
    go_ret3
    exact HF.out V2 c2 w2 hown2 ((((Below.refl _ w).alloc hb _).drew).trans hk2.1)
end Go.Proofs.YtlaiofpaahkceaaDoor
