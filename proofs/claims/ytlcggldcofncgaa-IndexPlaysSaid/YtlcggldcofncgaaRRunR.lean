/-
  Texts of earlier layers, as one.
-/
import Derived.Test.YtlcggldcofncgaaRRun
import Derived.Deep.AppendLies
/- The document's answer: the rune at a place of a text (stonecropref04.At) is the piece with which the bytes from there on begin. -/
namespace Go.Proofs.Ytlcggldcofncgaa
open Go.RowKit Mem Run

/-- What a byte behind the first tells. -/
def tlv (b : Nat) : Int := if tl b then (b : Int) - 128 else -1
theorem tlv_some {b : Nat} (h : tl b = true) : tlv b = (b : Int) - 128 ∧ 128 ≤ b ∧ b < 192 := by
  have := (tl_iff b).1 h
  simp [tlv, h, this]
theorem tlv_none {b : Nat} (h : tl b = false) : tlv b = -1 := by simp [tlv, h]
/-- A rune as the document's answer has it. -/
def rv (v n : Int) : Value := .agg #[.int .i64 v, .int .i64 n]
/-- The number of the first bytes. -/
def vv (f : Nat → Nat) (v0 : Int) : Nat → Int
  | 0 => v0
  | j + 1 => 64 * vv f v0 j + ((f (j + 1) : Int) - 128)
def AtRel (f : Nat → Nat) (v0 : Int) (M : Nat) (v i : Value) : Prop :=
  ∃ j : Nat, j ≤ M ∧ i = .int .i64 ((j : Int) + 1) ∧ v = .int .i64 (vv f v0 j) ∧ ∀ m, 1 ≤ m → m ≤ j → tl (f m) = true
theorem vv_le {f : Nat → Nat} {v0 : Int} {M : Nat} (h0 : 0 ≤ v0) (h1 : v0 ≤ 31) (hM : M ≤ 3) (ht : ∀ m, 1 ≤ m → m ≤ M → tl (f m) = true) : 0 ≤ vv f v0 M ∧ vv f v0 M < 8388608 := by
  match M, hM with
  | 0, _ => simp only [vv]; omega
  | 1, _ =>
    have a := (tl_iff _).1 (ht 1 (by omega) (by omega))
    simp only [vv, Nat.zero_add]; omega
  | 2, _ =>
    have a := (tl_iff _).1 (ht 1 (by omega) (by omega))
    have b := (tl_iff _).1 (ht 2 (by omega) (by omega))
    simp only [vv, Nat.zero_add, Nat.reduceAdd]; omega
  | 3, _ =>
    have a := (tl_iff _).1 (ht 1 (by omega) (by omega))
    have b := (tl_iff _).1 (ht 2 (by omega) (by omega))
    have c := (tl_iff _).1 (ht 3 (by omega) (by omega))
    simp only [vv, Nat.zero_add, Nat.reduceAdd]; omega

/-- The ending of At, where M more bytes are told. -/
def AtEnd (M : Nat) (B : Int) (okv : Int → Bool) (f : Nat → Nat) (α : Int) (w : World) (e : Ending) (w' : World) : Prop :=
  ((∀ m, 1 ≤ m → m ≤ M → tl (f m) = true) → e = .returned (if okv (vv f (α - B) M) then rv (vv f (α - B) M) ((M : Int) + 1) else rv (-1) 1)) ∧ ((∃ m, 1 ≤ m ∧ m ≤ M ∧ tl (f m) = false) → e = .returned (rv (-1) 1)) ∧ Below w.heap.size w w'
theorem at_no {M : Nat} {B : Int} {okv : Int → Bool} {f : Nat → Nat} {α : Int} {w w' : World} (m : Nat) (h1 : 1 ≤ m) (h2 : m ≤ M) (h3 : tl (f m) = false) (hb : Below w.heap.size w w') : AtEnd M B okv f α w (.returned (rv (-1) 1)) w' :=
  ⟨(fun h => by rw [h m h1 h2] at h3; cases h3), fun _ => rfl, hb⟩
theorem at_yes {M : Nat} {B : Int} {okv : Int → Bool} {f : Nat → Nat} {α x : Int} {w w' : World} (ha : ∀ m, 1 ≤ m → m ≤ M → tl (f m) = true) (hx : vv f (α - B) M = x) (hok : okv x = true) (n : Int) (hn : n = (M : Int) + 1) (hb : Below w.heap.size w w') : AtEnd M B okv f α w (.returned (rv x n)) w' :=
  ⟨(fun _ => by rw [hx, if_pos hok, hn]), (fun ⟨m, h1, h2, h3⟩ => by rw [ha m h1 h2] at h3; cases h3), hb⟩
theorem at_bad {M : Nat} {B : Int} {okv : Int → Bool} {f : Nat → Nat} {α x : Int} {w w' : World} (_ha : ∀ m, 1 ≤ m → m ≤ M → tl (f m) = true) (hx : vv f (α - B) M = x) (hok : okv x = false) (hb : Below w.heap.size w w') : AtEnd M B okv f α w (.returned (rv (-1) 1)) w' := by
  refine ⟨fun _ => ?_, fun _ => ?_, hb⟩
  · rw [hx, hok]
    simp
  · rfl

/-- Whether the number fits. -/
def ok1 (v : Int) : Bool := decide (0 ≤ v)
/-- Whether the number fits. -/
def ok2 (v : Int) : Bool := decide (2048 ≤ v ∧ v < 55296) || decide (57343 < v)
/-- Whether the number fits. -/
def ok3 (v : Int) : Bool := decide (65536 ≤ v ∧ v ≤ 1114111)
end Go.Proofs.Ytlcggldcofncgaa
/- The document's answers: Runes (all pieces, as numbers and sizes), Beginning, Key, Begins. -/
namespace Go.Proofs.Ytlcggldcofncgaa
open Go.RowKit Mem Run

theorem own_form {w : World} {base : Nat} {e : TypeId} {size : Nat} {v : Value} {n : Nat} {xs : List Value} (h : w.ownsRow base e size v n xs) : ∃ V c, v = .slice V n c := by
  rcases h.2 with ⟨rfl, rfl⟩ | ⟨g, cap, cur, rfl, _⟩
  · exact ⟨none, 0, rfl⟩
  · exact ⟨_, _, rfl⟩
/-- The cells of a row of runes. -/
def prs (ps : List Pc) : List Value := ps.flatMap fun p => [.int .i64 p.val, .int .i64 (p.bytes.length : Int)]
theorem length_prs (ps : List Pc) : (prs ps).length = ps.length * 2 := by
  induction ps with
  | nil => rfl
  | cons p ps ih => simp only [prs, List.flatMap_cons, List.length_append, List.length_cons, List.length_nil] at *; omega
theorem prs_append (a b : List Pc) : prs (a ++ b) = prs a ++ prs b := by simp [prs]
theorem prs_at : ∀ (ps : List Pc) (k : Nat) (p : Pc), ps[k]? = some p → (prs ps)[2 * k]? = some (.int .i64 p.val) ∧ (prs ps)[2 * k + 1]? = some (.int .i64 (p.bytes.length : Int))
  | [], k, p, h => by simp at h
  | q :: ps, 0, p, h => by
    simp at h
    subst h
    exact ⟨rfl, rfl⟩
  | q :: ps, k + 1, p, h => by
    have := prs_at ps k p (by simpa using h)
    have e : prs (q :: ps) = .int .i64 q.val :: .int .i64 (q.bytes.length : Int) :: prs ps := rfl
    rw [e, show 2 * (k + 1) = 2 * k + 1 + 1 by omega]
    simpa using this

/-- A row of runes that can be read. -/
def Row (w : World) (A : Option Addr) (n : Nat) (ps : List Pc) : Prop :=
  ps.length = n ∧ ∀ k p, ps[k]? = some p → ∃ g, A = some ⟨g, 0, none⟩ ∧ g < w.heap.size ∧ w.cell? ⟨g, 2 * k, none⟩ = some (.int .i64 p.val) ∧ w.cell? ⟨g, 2 * k + 1, none⟩ = some (.int .i64 (p.bytes.length : Int))
theorem Row.below {w w' : World} {V : Option Addr} {n : Nat} {ps : List Pc} (h : Row w V n ps) (hb : Below w.heap.size w w') : Row w' V n ps :=
  ⟨h.1, fun k p hp => by
    obtain ⟨g, e, hg, h1, h2⟩ := h.2 k p hp
    exact ⟨g, e, Nat.lt_of_lt_of_le hg hb.size, (hb.cell (p := ⟨g, 2 * k, none⟩) hg).trans h1, (hb.cell (p := ⟨g, 2 * k + 1, none⟩) hg).trans h2⟩⟩

end Go.Proofs.Ytlcggldcofncgaa
/- The document's answers: Beginning, Key, Begins. -/
namespace Go.Proofs.Ytlcggldcofncgaa
open Go.RowKit Mem Run

theorem fine_val (p : Pc) : p.fine = (!decide (p.val < 32) && !decide (p.val = 127)) := by
  cases p with
  | lone b => rfl
  | rune c =>
    show (!decide (c < 32) && !decide (c = 127)) = (!decide ((c : Int) < 32) && !decide ((c : Int) = 127))
    have e1 : decide (c < 32) = decide ((c : Int) < 32) := decide_eq_decide.2 (by omega)
    have e2 : decide (c = 127) = decide ((c : Int) = 127) := decide_eq_decide.2 (by omega)
    rw [e1, e2]
theorem Row.at_ {w : World} {A : Option Addr} {n : Nat} {ps : List Pc} (h : Row w A n ps) {k : Nat} (hk : k < n) : ∃ g p, A = some ⟨g, 0, none⟩ ∧ ps[k]? = some p ∧ w.cell? ⟨g, k * 2, none⟩ = some (.int .i64 p.val) ∧ w.cell? ⟨g, k * 2 + 1, none⟩ = some (.int .i64 (p.bytes.length : Int)) := by
  have hl := h.1
  have e : ps[k]? = some (ps[k]'(by omega)) := List.getElem?_eq_getElem (by omega)
  obtain ⟨g, h1, _, h2, h3⟩ := h.2 k _ e
  rw [Nat.mul_comm 2 k] at h2 h3
  exact ⟨g, _, h1, e, h2, h3⟩

theorem refbegins_any (s t : ByteArray) (w : World) : Calls Try.prog 47 #[.string s, .string t] w fun e w' => e = .returned (.bool (decide (bts t <+: bts s))) ∧ w = w' := by
  by_cases h : t.size ≤ s.size
  · have b1 : decide ((t.size : Int) ≤ (s.size : Int)) = true := by simp; omega
    have i1 : (t.size : Int) ≤ (s.size : Int) := by omega
    have hcmp := eq_tell (s.extract 0 t.size) t
    rw [bts_extract, List.drop_zero, Nat.sub_zero] at hcmp
    have hpre : decide ((bts s).take t.size = bts t) = decide (bts t <+: bts s) := by
      rw [Bool.eq_iff_iff]
      simp only [decide_eq_true_eq]
      rw [List.prefix_iff_eq_take, length_bts]
      exact eq_comm
    rw [hpre] at hcmp
    generalize decide (bts t <+: bts s) = z at hcmp ⊢
    clear hpre h
    go_enter Try.func47, Try.ntmps47
    go_wp2
    go_ret
    exact ⟨ret_bool (by first | rfl | exact hcmp), rfl⟩
  · have b1 : decide ((t.size : Int) ≤ (s.size : Int)) = false := by simp; omega
    have hz : decide (bts t <+: bts s) = false := by
      rw [decide_eq_false_iff_not]
      intro hp
      have := hp.length_le
      rw [length_bts, length_bts] at this
      omega
    rw [hz]
    clear hz
    go_enter Try.func47, Try.ntmps47
    go_wp2
    go_ret
    exact ⟨rfl, rfl⟩
end Go.Proofs.Ytlcggldcofncgaa
