/-
  Texts of earlier layers, as one.
-/
import Derived.Test.YtpalmnjapiijaaaProg
import Derived.Test.YtpalmnjapiijaaaCompMem
import Derived.Deep.RegionHeld3
import Derived.Deep.Cut
import Derived.Deep.CutRange
import Derived.BigRegion
/- The document's: whether two rows of integers are the same; whether a graph is great. -/
namespace Go.Proofs.Ytpalmnjapiijaaa.Gr
open Go.RowKit Mem Dsk

def SiRel (a b : List Int) (w : World) (v5 : Value) (wr : World) : Prop := ∃ k : Nat, v5 = .int .i64 (k : Int) ∧ k ≤ a.length ∧ a.take k = b.take k ∧ Below w.heap.size w wr
set_option maxRecDepth 20000 in
set_option maxHeartbeats 8000000 in
theorem sameints_any (a b : List Int) (A B : Option Addr) (n c m d : Nat) (w : World) (ha : Rw LN w A n c a) (hb : Rw LN w B m d b) :
    Calls Try.prog 12 #[.slice A n c, .slice B m d] w (Tells (decide (a = b)) w) := by
  obtain ⟨t, ht⟩ : ∃ t, decide (a = b) = t := ⟨_, rfl⟩
  rw [ht]
  have hla := ha.len
  have hlb := hb.len
  have HA := Lib.hid ha
  have HB := Lib.hid hb
  have hca := And.intro ha.le ha.cap
  have hcb := And.intro hb.le hb.cap
  unfold maxLen at hca hcb
  have HT := Lib.hid ht
  clear ht ha hb
  go_enter Try.func12, Try.ntmps12
  by_cases hnm : n = m
  · subst hnm
    go_wp2_with fail
    go_loopw [5] (SiRel a b w) (fun v _ => n - (intOf v).toNat)
    case atStart => exact ⟨0, rfl, Nat.zero_le _, rfl, Below.refl _ _⟩
    case round =>
      obtain ⟨k, rfl, hk, heq, hbw⟩ := hrel
      by_cases hlt : k < n
      · obtain ⟨g, o, x, rfl, hg, hx, c1⟩ := int_at (HA.out.below hbw) hlt
        obtain ⟨g', o', y, rfl, hg', hy, d1⟩ := int_at (HB.out.below hbw) hlt
        have HX := Lib.hid (And.intro hx (And.intro hy (And.intro heq hbw)))
        clear hx hy hbw heq
        by_cases hxy : x = y
        · subst hxy
          go_wp2_with fail
          go_quiet (fail)
          go_wp2_with fail
          go_roundw
          case rel =>
            obtain ⟨hx, hy, heq, hbw⟩ := HX.out
            refine ⟨k + 1, by simp, by omega, ?_, below_drewN hbw _⟩
            rw [List.take_add_one, List.take_add_one, heq, hx, hy]
          case measure =>
            simp [intOf]
            omega
        · have hne : (x != y) = true := by simpa using hxy
          go_wp2_with fail
          go_quiet (fail)
          go_wp2_with fail
          go_ret
          obtain ⟨hx, hy, heq, hbw⟩ := HX.out
          refine ⟨?_, below_drewN hbw _⟩
          have : t = false := by
            rw [← HT.out, decide_eq_false_iff_not]
            intro e
            rw [e, hy] at hx
            exact hxy (Option.some.inj hx).symm
          rw [this]
          rfl
      · have hkn : k = n := by omega
        have HX := Lib.hid (And.intro heq hbw)
        clear heq hbw
        subst hkn
        go_wp2_with fail
        go_ret
        refine ⟨?_, HX.out.2⟩
        have : t = true := by
          rw [← HT.out, decide_eq_true_iff]
          have := HX.out.1
          rw [List.take_of_length_le (by omega), List.take_of_length_le (by omega)] at this
          exact this
        rw [this]
        rfl
  · have hnm' : ¬ (n : Int) = (m : Int) := by omega
    go_wp2_with fail
    go_ret
    refine ⟨?_, Below.refl _ _⟩
    have : t = false := by
      rw [← HT.out, decide_eq_false_iff_not]
      intro e
      exact hnm (by rw [← hla, ← hlb, e])
    rw [this]
    rfl
/-- How many edges the first nodes have. -/
def edges : Graph → Nat
  | [] => 0
  | l :: e => l.length + edges e
theorem edges_append (a b : Graph) : edges (a ++ b) = edges a + edges b := by
  induction a with
  | nil => simp [edges]
  | cons l a ih =>
    show l.length + edges (a ++ b) = l.length + edges a + edges b
    rw [ih]
    omega
theorem edges_snoc {e : Graph} {k : Nat} {l : List Int} (h : e[k]? = some l) : edges (e.take (k + 1)) = edges (e.take k) + l.length := by
  rw [List.take_add_one, h, edges_append]
  rfl
theorem edges_le {b : Nat} : ∀ {e : Graph}, (∀ l ∈ e, l.length ≤ b) → edges e ≤ e.length * b
  | [], _ => by simp [edges]
  | l :: e, h => by
    have h1 := edges_le (e := e) fun x hx => h x (List.mem_cons_of_mem _ hx)
    have h2 := h l (List.mem_cons_self ..)
    have h3 := Nat.add_mul e.length 1 b
    show l.length + edges e ≤ (e.length + 1) * b
    omega
/-- Has a graph more than is looked at? -/
def great (e : Graph) : Bool := decide (40 < e.length) || decide (400 < edges (e.take 40))
theorem great_no {e : Graph} (h : great e = false) : e.length ≤ 40 ∧ edges e ≤ 400 := by
  unfold great at h
  rw [Bool.or_eq_false_iff, decide_eq_false_iff_not, decide_eq_false_iff_not] at h
  have h1 : e.length ≤ 40 := by omega
  have h2 := h.2
  rw [List.take_of_length_le h1] at h2
  exact ⟨h1, by omega⟩
theorem edges_one {e : Graph} {l : List Int} (h : l ∈ e) : l.length ≤ edges e := by
  induction e with
  | nil => cases h
  | cons x e ih =>
    show l.length ≤ x.length + edges e
    rcases List.mem_cons.1 h with rfl | h
    · omega
    · have := ih h
      omega
def GtRel (e : Graph) (w : World) (v3 v4 : Value) (wr : World) : Prop := ∃ k : Nat, v3 = .int .i64 (edges (e.take k) : Int) ∧ v4 = .int .i64 (k : Int) ∧ k ≤ e.length ∧ k ≤ 40 ∧ Below w.heap.size w wr
set_option maxRecDepth 20000 in
set_option maxHeartbeats 8000000 in
theorem great_any {A : Option Addr} {n c : Nat} {e : Graph} (w : World) (h : Mat w A n c e) (hz : ∀ l ∈ e, l.length ≤ 17592186044416) : Calls Try.prog 8 #[.slice A n c] w (Tells (great e) w) := by
  have hln := h.len
  have hcap := h.cap
  unfold maxLen at hcap
  have H := Lib.hid (And.intro h hz)
  have hb : ∀ k, k ≤ 40 → edges (e.take k) ≤ 703687441776640 := fun k hk => by
    have := edges_le (b := 17592186044416) (e := e.take k) fun l hl => hz l (List.mem_of_mem_take hl)
    have h2 : (e.take k).length ≤ 40 := by rw [List.length_take]; omega
    have h3 := Nat.mul_le_mul_right 17592186044416 h2
    omega
  have HBD := Lib.hid hb
  clear h hz hb
  go_enter Try.func8, Try.ntmps8
  go_wp2_with fail
  go_loopw [3, 4] (GtRel e w) (fun _ v _ => n - (intOf v).toNat)
  case atStart => exact ⟨0, by simp [edges], rfl, Nat.zero_le _, Nat.zero_le _, Below.refl _ _⟩
  case round =>
    obtain ⟨k, rfl, rfl, hk, hk40, hbw⟩ := hrel
    have hs := HBD.out k hk40
    obtain ⟨s, hse⟩ : ∃ s, edges (e.take k) = s := ⟨_, rfl⟩
    rw [hse] at hs ⊢
    have HSE := Lib.hid hse
    clear hse
    by_cases hlt : k < n
    · by_cases h40 : k < 40
      · obtain ⟨g, o, R, rn, rc, l, rfl, hg, hl, hc, hr⟩ := (H.out.1.below hbw).at_ hlt
        have hrl := hr.len
        have hlz := H.out.2 l (List.mem_of_getElem? hl)
        have hs1 := edges_snoc hl
        rw [HSE.out, hrl] at hs1
        have HX := Lib.hid (And.intro hs1 hbw)
        have hrn : rn ≤ 17592186044416 := by omega
        clear hl hr hs1 hbw hlz hrl
        go_wp2_with fail
        go_roundw
        case rel => exact ⟨k + 1, by rw [HX.out.1]; simp, by simp, by omega, by omega, HX.out.2⟩
        case measure =>
          simp [intOf]
          omega
      · have hk' : k = 40 := by omega
        have hgt : (40 : Int) < (n : Int) := by omega
        have HX := Lib.hid hbw
        clear hbw
        subst hk'
        go_wp2_with fail
        go_ret
        refine ⟨?_, HX.out⟩
        have : great e = true := by
          unfold great
          rw [Bool.or_eq_true]
          exact .inl (decide_eq_true (by omega))
        rw [this]
        rfl
    · have hkn : k = n := by omega
      have hle : ¬ (40 : Int) < (n : Int) := by omega
      have hse := HSE.out
      rw [List.take_of_length_le (by omega)] at hse
      have hgr : great e = decide (400 < s) := by
        unfold great
        rw [decide_eq_false (by omega), Bool.false_or, List.take_of_length_le (by omega), hse]
      have HX := Lib.hid (And.intro hgr hbw)
      clear hbw hse hgr
      by_cases h4 : (400 : Int) < (s : Int)
      · go_wp2_with fail
        go_ret
        refine ⟨?_, HX.out.2⟩
        rw [HX.out.1, decide_eq_true (by omega)]
        rfl
      · go_wp2_with fail
        go_ret
        refine ⟨?_, HX.out.2⟩
        rw [HX.out.1, decide_eq_false (by omega)]
        rfl
end Go.Proofs.Ytpalmnjapiijaaa.Gr
