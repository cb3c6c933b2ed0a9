/-
  runes.Quote of any text: the text in quotes. runes.Unquote of any text: whatever it is, it tells a text only if that text is quoted so; and what is quoted is unquoted as it was.
-/
import Derived.Test.YtlaiofpaahkceaaDoorRunQuote
namespace Go.Proofs.YtlaiofpaahkceaaDoor
open Go.RowKit Mem Run

theorem own_iterAt {w : World} {base : Nat} {v : Value} {n : Nat} {xs : List Value} (h : w.ownsRow base 5 1 v n xs) {k : Nat} {s : ByteArray} {pos : Nat} (hk : w.heap[k]? = some (.stringIter s pos)) (pos' : Nat) : (w.iterAt k s pos').ownsRow base 5 1 v n xs := by
  refine ⟨h.1, ?_⟩
  rcases h.2 with h | ⟨g, cap, cur, hv, hg, hh, r⟩
  · exact .inl h
  · refine .inr ⟨g, cap, cur, hv, hg, ?_, r⟩
    rw [Lib.iterAt_other w k g s pos' ?_]
    · exact hh
    · rintro rfl
      rw [hk] at hh
      cases hh

/-- What holds at each round's head of Quote. -/
def QuoRel (s : ByteArray) (w : World) (vb : Value) (wr : World) : Prop :=
  ∃ (pos : Nat) (V : Option Addr) (n c : Nat) (bs : List Nat), vb = .slice V n c ∧ wr.ownsRow w.heap.size 5 1 (.slice V n c) n (cs bs) ∧ wr.heap[w.heap.size + 1]? = some (.stringIter s pos) ∧ Below w.heap.size w wr ∧ quote (bts s) = bs ++ forms (rest s pos) ++ [34] ∧ n ≤ 1 + 9 * pos ∧ pos ≤ s.size

set_option maxHeartbeats 2000000 in
theorem quote_any (s : ByteArray) (hs : s.size ≤ 1073741824) (w : World) (hT : Tab w) :
    Calls Tryd.prog 17 #[.string s] w fun e w' => e = .returned (.string (txt (quote (bts s)))) ∧ Below w.heap.size w w' := by
  have HT : Hid (∀ W : World, Below w.heap.size w W → Tab W) := Lib.hid fun W h => hT.below h hT.lt
  have hlt := hT.lt
  clear hT
  go_enter Tryd.func17, Tryd.ntmps17
  go_wp2
  go_loopw [3] (QuoRel s w) (fun _ wr => s.size - wr.iterPos (w.heap.size + 1))
  case atStart =>
    refine ⟨0, some ⟨w.heap.size, 0, none⟩, 1, 1, [34], rfl, ?_, ?_, ((Below.refl _ w).alloc (Nat.le_refl _) _).alloc (by simp) _, rfl, by omega, Nat.zero_le _⟩
    · exact (World.ownsRow_lit w #[.int .u8 34] 1 (Nat.le_refl _) (by simp [maxLen]) rfl).alloc _
    · have := World.iter_heap (w.alloc (.cells #[.int .u8 34] 5)) s 0
      simpa using this
  case round =>
    obtain ⟨pos, V, n, c, bs, rfl, hown, hit, hbel, hquo, hn, hps⟩ := hrel
    have hsz : w.heap.size + 1 < wr.heap.size := (Array.getElem?_eq_some_iff.1 hit).1
    by_cases hp : pos < s.size
    · obtain ⟨p, hpc⟩ : ∃ p, first ((bts s).drop pos) = p := ⟨_, rfl⟩
      obtain ⟨m, hm⟩ : ∃ m, p.bytes.length = m := ⟨_, rfl⟩
      obtain ⟨r, hr⟩ : ∃ r, p.num = r := ⟨_, rfl⟩
      have hm1 := bytes_len p
      have hle := rest_le hp
      have hrm := rest_more hp
      have hdec := decode_first s pos
      rw [hpc] at hle hrm hdec
      have hgood : p.good := by rw [← hpc]; exact first_good (drop_ne hp) (drop_lt s pos)
      have hfl := form_len hgood
      have hfirst : first (bts (s.extract pos s.size)) = p := by rw [bts_tail, hpc]
      have hesz : (s.extract pos s.size).size = s.size - pos := by rw [size_bts (bts_tail s pos), List.length_drop, length_bts]
      rw [hm] at hm1 hle hrm
      rw [hm, hr] at hdec
      have hnx : ∀ ty, (Instr.next (.pointer (some ⟨w.heap.size + 1, 0, none⟩)) true ty).run Tryd.prog wr = .ok (.tuple #[.bool true, .int .i64 pos, .int .i32 r]) (wr.iterAt (w.heap.size + 1) s (pos + m)) := fun ty => by
        rw [Lib.run_next_any_at wr (w.heap.size + 1) s pos ty hit hp, hdec]
      have hown2 := own_iterAt hown hit (pos + m)
      have hit2 := Lib.iterAt_heap wr (w.heap.size + 1) s pos (pos + m) hit
      have hbel2 := Lib.below_iterAt hbel (k := w.heap.size + 1) (by omega) s (pos + m)
      have hq := quoteRune_any (s.extract pos s.size) (by omega) w.heap.size n V c bs (wr.iterAt (w.heap.size + 1) s (pos + m)) hown2 (by rw [Lib.iterAt_size]; omega) (by omega) (HT.out _ hbel2) hlt
      rw [hfirst, hr] at hq
      have HQ := Lib.hid hq
      have HH := Lib.hid (And.intro hquo hrm)
      have HB := Lib.hid hbel2
      have HI := Lib.hid hit2
      have HF := Lib.hid (And.intro hfl (own_len hown))
      clear hq hquo hrm hdec hown hown2 hbel2 hit2 hfirst hgood hpc hm hr hfl
      have i1 : (pos : Int) ≤ (s.size : Int) := by omega
      go_wp2_with (go_at_call 23; refine HQ.out.mono ?_; rintro e w2 ⟨V2, n2, c2, rfl, hown2, hk2⟩)
      go_roundw
      case rel =>
        refine ⟨pos + m, V2, n2, c2, _, rfl, hown2, hk2.2 _ _ HI.out (by simp) (by intro _ _ h; cases h), HB.out.trans hk2.1, ?_, ?_, by omega⟩
        · rw [HH.out.1, HH.out.2]
          simp [forms]
        · have h1 := own_len hown2
          have h2 := HF.out.2
          rw [List.length_append] at h1
          have := HF.out.1
          omega
      case measure =>
        simp only [World.iterPos, hk2.2 _ _ HI.out (by simp) (by intro _ _ h; cases h), hit]
        omega
    · have hnx : ∀ ty, (Instr.next (.pointer (some ⟨w.heap.size + 1, 0, none⟩)) true ty).run Tryd.prog wr = _ := fun ty => Lib.run_next_end_at wr (w.heap.size + 1) s pos ty hit hp
      rw [rest_end hp] at hquo
      have HQ := Lib.hid hquo
      have HO := Lib.hid hown
      have HB := Lib.hid hbel
      clear hquo hown hbel
      go_wp2_with (at_builtin; refine wpList_append_kept rfl (.tmp 19) (.tmp 20) rfl w.heap.size V n c bs rfl (HO.out.alloc _) _ 1 1 [34] rfl (Rd.few _ [34] _ _ rfl 1 rfl (by omega)) (by omega) (by simp; omega) ?_; intro V2 c2 w2 hown2 hk2; have hrun := run_text (P := Tryd.prog) 35 9 5 Tryd.underlying35 Tryd.underlying5 Tryd.underlying9 (Rd.own hown2))
      go_ret
      refine ⟨?_, (HB.out.alloc (by omega) _).trans hk2.1⟩
      rw [HQ.out]
      simp [forms]

/-- runes.within. -/
def inner (s : ByteArray) : Option ByteArray := if 2 ≤ s.size ∧ (bts s).getD 0 0 = 34 ∧ (bts s).getD (s.size - 1) 0 = 34 then some (s.extract 1 (s.size - 1)) else none
theorem within_any (s : ByteArray) (w : World) (hs : s.size ≤ 1099511627776) : Calls Tryd.prog 24 #[.string s] w fun e w' => e = .returned (.tuple #[.string ((inner s).getD ⟨#[]⟩), .bool (inner s).isSome]) ∧ w = w' := by
  by_cases h2 : 2 ≤ s.size
  · have hb1 : decide ((s.size : Int) - 1 < 1) = false := by simp; omega
    have h0 := byte_at s .i64 0 (b := (bts s).getD 0 0) (by omega) rfl
    rw [show ((0 : Nat) : Int) = 0 from rfl] at h0
    have h1 := byte_at s .i64 (s.size - 1) (b := (bts s).getD (s.size - 1) 0) (by omega) rfl
    rw [show ((s.size - 1 : Nat) : Int) = (s.size : Int) - 1 by omega] at h1
    obtain ⟨x, hx⟩ : ∃ x, (bts s).getD 0 0 = x := ⟨_, rfl⟩
    obtain ⟨y, hy⟩ : ∃ y, (bts s).getD (s.size - 1) 0 = y := ⟨_, rfl⟩
    rw [hx] at h0
    rw [hy] at h1
    by_cases hx34 : x = 34
    · have bx : ((x : Int) != 34) = false := by simp; omega
      by_cases hy34 : y = 34
      · have byy : ((y : Int) != 34) = false := by simp; omega
        have hin : inner s = some (s.extract 1 (s.size - 1)) := by rw [inner, if_pos ⟨h2, by omega, by omega⟩]
        rw [hin]
        have i1 : (1 : Int) ≤ (s.size : Int) - 1 := by omega
        have i2 : (s.size : Int) - 1 ≤ (s.size : Int) := by omega
        have et : ((s.size : Int) - 1).toNat = s.size - 1 := by omega
        clear hin hx hy hx34 hy34
        go_enter Tryd.func24, Tryd.ntmps24
        go_wp2
        go_ret2
        exact ⟨by first | rfl | (rw [et]; rfl), rfl⟩
      · have byy : ((y : Int) != 34) = true := by simp; omega
        have hin : inner s = none := by rw [inner, if_neg (by omega)]
        rw [hin]
        clear hin hx hy hx34 hy34
        go_enter Tryd.func24, Tryd.ntmps24
        go_wp2
        go_ret2
        exact ⟨rfl, rfl⟩
    · have bx : ((x : Int) != 34) = true := by simp; omega
      have hin : inner s = none := by rw [inner, if_neg (by omega)]
      rw [hin]
      clear hin hx hy hx34
      go_enter Tryd.func24, Tryd.ntmps24
      go_wp2
      go_ret2
      exact ⟨rfl, rfl⟩
  · have hb1 : decide ((s.size : Int) - 1 < 1) = true := by simp; omega
    have hin : inner s = none := by rw [inner, if_neg (by omega)]
    rw [hin]
    clear hin
    go_enter Tryd.func24, Tryd.ntmps24
    go_wp2
    go_ret2
    exact ⟨rfl, rfl⟩
end Go.Proofs.YtlaiofpaahkceaaDoor
