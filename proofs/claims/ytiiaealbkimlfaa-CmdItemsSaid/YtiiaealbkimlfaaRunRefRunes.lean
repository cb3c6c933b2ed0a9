/-
  The document's answers: Runes (all pieces, as numbers and sizes), Beginning, Key, Begins.
-/
import Derived.Test.YtiiaealbkimlfaaRunRefAt
import Derived.Deep.AppendLies
namespace Go.Proofs.Ytiiaealbkimlfaa
open Go.RowKit Mem Run

theorem info34 : (Try.prog.info? 57).map (fun i => (i.zero, i.size, i.bytes)) = some (some (.agg #[.int .i64 0, .int .i64 0]), 2, 16) := by kernel_rfl

theorem own_form {w : World} {base : Nat} {e : TypeId} {size : Nat} {v : Value} {n : Nat} {xs : List Value} (h : w.ownsRow base e size v n xs) : ∃ V c, v = .slice V n c := by
  rcases h.2 with ⟨rfl, rfl⟩ | ⟨g, cap, cur, rfl, _⟩
  · exact ⟨none, 0, rfl⟩
  · exact ⟨_, _, rfl⟩
/-- The cells of a row of runes. -/
def prs (ps : List Pc) : List Value := ps.flatMap fun p => [.int .i64 p.val, .int .i64 (p.bytes.length : Int)]
theorem length_prs (ps : List Pc) : (prs ps).length = ps.length * 2 := by
  induction ps with
  | nil => rfl
  | cons p ps ih => simp only [prs, List.flatMap_cons, List.length_append, List.length_cons, List.length_nil] at *; omega
theorem prs_append (a b : List Pc) : prs (a ++ b) = prs a ++ prs b := by simp [prs]
theorem prs_at : ∀ (ps : List Pc) (k : Nat) (p : Pc), ps[k]? = some p → (prs ps)[2 * k]? = some (.int .i64 p.val) ∧ (prs ps)[2 * k + 1]? = some (.int .i64 (p.bytes.length : Int))
  | [], k, p, h => by simp at h
  | q :: ps, 0, p, h => by
    simp at h
    subst h
    exact ⟨rfl, rfl⟩
  | q :: ps, k + 1, p, h => by
    have := prs_at ps k p (by simpa using h)
    have e : prs (q :: ps) = .int .i64 q.val :: .int .i64 (q.bytes.length : Int) :: prs ps := rfl
    rw [e, show 2 * (k + 1) = 2 * k + 1 + 1 by omega]
    simpa using this

/-- A row of runes that can be read. -/
def Row (w : World) (A : Option Addr) (n : Nat) (ps : List Pc) : Prop :=
  ps.length = n ∧ ∀ k p, ps[k]? = some p → ∃ g, A = some ⟨g, 0, none⟩ ∧ g < w.heap.size ∧ w.cell? ⟨g, 2 * k, none⟩ = some (.int .i64 p.val) ∧ w.cell? ⟨g, 2 * k + 1, none⟩ = some (.int .i64 (p.bytes.length : Int))
theorem Row.of_own {w : World} {base : Nat} {V : Option Addr} {n c : Nat} {ps : List Pc} (h : w.ownsRow base 57 2 (.slice V n c) n (prs ps)) : Row w V n ps := by
  have hl := h.1
  rw [length_prs] at hl
  refine ⟨by omega, fun k p hp => ?_⟩
  have hk : k < ps.length := (List.getElem?_eq_some_iff.1 hp).1
  rcases h.2 with ⟨_, hn⟩ | ⟨g, cap, cur, hv, _, hh, hnc, _, hcs, htk⟩
  · omega
  · cases hv
    obtain ⟨h1, h2⟩ := prs_at ps k p hp
    refine ⟨g, rfl, (Array.getElem?_eq_some_iff.1 hh).1, ?_, ?_⟩
    · rw [cell_of_row w g _ cur _ _ hh]
      rw [← htk, List.getElem?_take, if_pos (by omega)] at h1
      simpa using h1
    · rw [cell_of_row w g _ cur _ _ hh]
      rw [← htk, List.getElem?_take, if_pos (by omega)] at h2
      simpa using h2
theorem Row.below {w w' : World} {V : Option Addr} {n : Nat} {ps : List Pc} (h : Row w V n ps) (hb : Below w.heap.size w w') : Row w' V n ps :=
  ⟨h.1, fun k p hp => by
    obtain ⟨g, e, hg, h1, h2⟩ := h.2 k p hp
    exact ⟨g, e, Nat.lt_of_lt_of_le hg hb.size, (hb.cell (p := ⟨g, 2 * k, none⟩) hg).trans h1, (hb.cell (p := ⟨g, 2 * k + 1, none⟩) hg).trans h2⟩⟩

def RunRel (s : ByteArray) (w : World) (v3 v4 : Value) (wr : World) : Prop :=
  ∃ (pos : Nat) (V : Option Addr) (n c : Nat) (ps : List Pc), v3 = .slice V n c ∧ v4 = .int .i64 pos ∧ wr.ownsRow w.heap.size 57 2 (.slice V n c) n (prs ps) ∧ Below w.heap.size w wr ∧ pieces (bts s) = ps ++ rest s pos ∧ n ≤ pos ∧ pos ≤ s.size

set_option maxHeartbeats 2000000 in
theorem runes_any (s : ByteArray) (hs : s.size ≤ 1073741824) (w : World) :
    Calls Try.prog 39 #[.string s] w fun e w' => ∃ A c, e = .returned (.slice A (pieces (bts s)).length c) ∧ Row w' A (pieces (bts s)).length (pieces (bts s)) ∧ Below w.heap.size w w' := by
  obtain ⟨i0, hi, hz0, hz1, hz2⟩ := info_parts info34
  go_enter Try.func39, Try.ntmps39
  go_wp2
  go_loopw [3, 4] (RunRel s w) (fun _ v4 _ => s.size - (intOf v4).toNat)
  case atStart => exact ⟨0, none, 0, 0, [], rfl, rfl, ⟨rfl, .inl ⟨rfl, rfl⟩⟩, Below.refl _ _, rfl, Nat.le_refl _, Nat.zero_le _⟩
  case round =>
    obtain ⟨pos, V, n, c, ps, rfl, rfl, hown, hbel, hps, hn, hpos⟩ := hrel
    have HO := Lib.hid hown
    have HB := Lib.hid hbel
    have hsz := hbel.size
    clear hown hbel
    by_cases hp : pos < s.size
    · obtain ⟨p, hpc⟩ : ∃ p, first ((bts s).drop pos) = p := ⟨_, rfl⟩
      have hat := at_any s pos hp hs wr p hpc
      unfold rv at hat
      have hm1 := bytes_len p
      have hle := rest_le hp
      have hrm := rest_more hp
      rw [hpc] at hle hrm
      obtain ⟨m, hm⟩ : ∃ m, p.bytes.length = m := ⟨_, rfl⟩
      obtain ⟨vp, hvp⟩ : ∃ v, p.val = v := ⟨_, rfl⟩
      rw [hm] at hm1 hle hrm hat
      rw [hvp] at hat
      have HA := Lib.hid hat
      have HH := Lib.hid (And.intro hps (And.intro hrm (And.intro hm hvp)))
      clear hat hps hrm hm hvp hpc
      go_wp2_with fail
      refine HA.out.mono ?_
      rintro e w2 ⟨rfl, hb2⟩
      have hs2 := hb2.size
      have HB2 := Lib.hid hb2
      have hown2 : w2.ownsRow w.heap.size 57 2 (.slice V n c) n (prs ps) := ownsRow_below HO.out hb2
      have HO2 := Lib.hid hown2
      have hnews : ∀ j u, ([.int .i64 vp, .int .i64 (m : Int)] : List Value)[j]? = some u → ((w2.alloc (.cells #[.int .i64 vp, .int .i64 (m : Int)] 57)).alloc (.cells #[.int .i64 vp, .int .i64 (m : Int)] 57)).cell? ((⟨w2.heap.size + 1, 0, none⟩ : Addr).add j) = some u := by
        have h := World.news_of_block (Blk.new (w2.alloc (.cells #[.int .i64 vp, .int .i64 (m : Int)] 57)) 57 #[.int .i64 vp, .int .i64 (m : Int)])
        rw [size_alloc] at h
        exact h
      have HNB := Lib.hid hnews
      clear hnews
      have HBX := Lib.hid ((Blk.new w2 57 #[.int .i64 vp, .int .i64 (m : Int)]).alloc (.cells #[.int .i64 vp, .int .i64 (m : Int)] 57))
      have hne : some w2.heap.size ≠ (Value.slice V n c).ownBlock := by
        intro e
        have := (HO2.out.lt w2.heap.size e.symm).2
        omega
      have HNE := Lib.hid hne
      clear hb2 hown2 hne
      go_wp2_with (at_builtin; refine wpList_append_own _ rfl (.tmp 13) (.tmp 15) 54 rfl w.heap.size 57 i0 _ 2 16 Try.underlying54 hi hz0 hz1 hz2 rfl (by omega) (.slice V n c) n (prs ps) rfl ((HO2.out.alloc _).alloc _) ⟨w2.heap.size + 1, 0, none⟩ 1 1 [.int .i64 vp, .int .i64 (m : Int)] rfl rfl HNB.out (by intro u hu; simp at hu; rcases hu with rfl | rfl <;> rfl) (by unfold maxLen; omega) (by omega) (by rw [size_alloc, size_alloc]; omega) ?_; intro v3 w3 hown3 hg3 _; obtain ⟨V3, c3, rfl⟩ := own_form hown3; have c1 : w3.cell? ⟨w2.heap.size, 1, none⟩ = some (.int .i64 (m : Int)) := (HBX.out.grown hg3 HNE.out).cell 1)
      have hbel3 : Below w.heap.size w w3 := ((((HB.out.trans (HB2.out.mono hsz)).alloc (by omega) _).alloc (by rw [size_alloc]; omega) _).grown hg3 (by rw [size_alloc, size_alloc]; omega) fun k hk => (HO2.out.lt k hk).1)
      have HB3 := Lib.hid hbel3
      have HO3 := Lib.hid hown3
      clear hbel3 hown3 hg3
      go_roundw
      case rel =>
        refine ⟨pos + m, V3, n + 1, c3, ps ++ [p], rfl, by simp, ?_, HB3.out, ?_, by omega, hle⟩
        · have e : prs (ps ++ [p]) = prs ps ++ [.int .i64 vp, .int .i64 (m : Int)] := by
            rw [prs_append, ← HH.out.2.2.1, ← HH.out.2.2.2]
            rfl
          rw [e]
          exact HO3.out
        · rw [HH.out.1, HH.out.2.1]
          simp
      case measure =>
        simp [intOf]
        omega
    · rw [rest_end hp, List.append_nil] at hps
      have hrow := Row.of_own HO.out
      have HR := Lib.hid (And.intro hps hrow)
      clear hps hrow
      go_wp2
      go_ret
      rw [HR.out.1]
      have hl := HR.out.2.1
      rw [hl]
      exact ⟨V, c, rfl, HR.out.2, HB.out⟩
end Go.Proofs.Ytiiaealbkimlfaa
