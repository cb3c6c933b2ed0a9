/-
  Texts of earlier layers, as one.
-/
import Derived.Test.YtgnpnjfoenmfbaaRBase
/- The plain bag, of no program: envelopes in a row, what each call makes of them; of the program, entries with numbers that rise. -/
namespace Go.Proofs.Ytgnpnjfoenmfbaa.Bg
open Go.RowKit Mem

/-- An envelope. -/
structure En where
  f : Int
  t : Int
  bs : List Nat
def noEn : En := ⟨0, 0, []⟩
/-- A bag: its envelopes, its room, how many it has taken. -/
structure Bag where
  xs : List En
  r : Int
  nx : Int
def newBag (room : Int) : Bag := ⟨[], max 0 (min room 4096), 0⟩
def fits (b : Bag) : Bool := decide ((b.xs.length : Int) < b.r)
def putB (e : En) (b : Bag) : Bag := if fits b = true then ⟨b.xs ++ [e], b.r, b.nx + 1⟩ else b
/-- The envelope at a place. -/
def atB (i : Int) (b : Bag) : Option En := if 0 ≤ i then b.xs[i.toNat]? else none
def takeB (i : Int) (b : Bag) : Bag := if 0 ≤ i then ⟨b.xs.eraseIdx i.toNat, b.r, b.nx⟩ else b
def twiceB (i : Int) (b : Bag) : Bag := match atB i b with
  | some e => putB e b
  | none => b
def keepB (t : Int) (b : Bag) : Bag := ⟨b.xs.filter fun e => !decide (e.t = t), b.r, b.nx⟩
/-- Small enough for the walks. -/
def Fine (b : Bag) : Prop := b.xs.length ≤ 100000 ∧ 0 ≤ b.nx ∧ b.nx ≤ 1000000 ∧ ∀ x ∈ b.xs, x.bs.length ≤ 1000
theorem mem_keepB {t : Int} {b : Bag} {x : En} (h : x ∈ (keepB t b).xs) : x ∈ b.xs := (List.mem_filter.1 h).1
theorem mem_takeB {i : Int} {b : Bag} {x : En} (h : x ∈ (takeB i b).xs) : x ∈ b.xs := by
  unfold takeB at h
  split at h
  · exact List.mem_of_mem_eraseIdx h
  · exact h
theorem mem_atB {i : Int} {b : Bag} {x : En} (h : atB i b = some x) : x ∈ b.xs := by
  unfold atB at h
  split at h
  · exact List.mem_of_getElem? h
  · cases h
/-- Of a walk of so many steps. -/
def Few (n : Nat) (b : Bag) : Prop := b.xs.length ≤ n ∧ 0 ≤ b.nx ∧ b.nx ≤ n ∧ ∀ x ∈ b.xs, x.bs.length ≤ 1000
theorem Few.fine {n : Nat} {b : Bag} (h : Few n b) (hn : n ≤ 1000) : Fine b := ⟨by have := h.1; omega, h.2.1, by have := h.2.2.1; omega, h.2.2.2⟩
theorem few_new (room : Int) : Few 0 (newBag room) := ⟨Nat.le_refl _, Int.le_refl _, Int.le_refl _, fun x h => by cases h⟩
theorem Few.more {n m : Nat} {b : Bag} (h : Few n b) (hn : n ≤ m) : Few m b := ⟨by have := h.1; omega, h.2.1, by have := h.2.2.1; omega, h.2.2.2⟩
theorem Few.put {n : Nat} {b : Bag} (h : Few n b) (e : En) (he : e.bs.length ≤ 1000) : Few (n + 1) (putB e b) := by
  obtain ⟨h1, h2, h3, h4⟩ := h
  unfold putB
  split
  · refine ⟨by simp; omega, by show 0 ≤ b.nx + 1; omega, by show b.nx + 1 ≤ _; omega, fun x hx => ?_⟩
    rcases List.mem_append.1 hx with hx | hx
    · exact h4 x hx
    · rw [List.mem_singleton.1 hx]
      exact he
  · exact ⟨by omega, h2, by omega, h4⟩
theorem Few.take {n : Nat} {b : Bag} (h : Few n b) (i : Int) : Few n (takeB i b) := by
  obtain ⟨h1, h2, h3, h4⟩ := h
  have hm := fun x => mem_takeB (i := i) (b := b) (x := x)
  refine ⟨?_, ?_, ?_, fun x hx => h4 x (hm x hx)⟩
  all_goals unfold takeB
  all_goals split
  · have := List.length_eraseIdx_le b.xs i.toNat
    show (b.xs.eraseIdx _).length ≤ n
    omega
  all_goals first | exact h1 | exact h2 | exact h3
theorem Few.twice {n : Nat} {b : Bag} (h : Few n b) (i : Int) : Few (n + 1) (twiceB i b) := by
  unfold twiceB
  split
  · rename_i e he
    exact h.put _ (h.2.2.2 _ (mem_atB he))
  · exact h.more (by omega)
theorem Few.keep {n : Nat} {b : Bag} (h : Few n b) (t : Int) : Few n (keepB t b) := by
  obtain ⟨h1, h2, h3, h4⟩ := h
  exact ⟨by have := List.length_filter_le (fun e => !decide (e.t = t)) b.xs; show (b.xs.filter _).length ≤ n; omega, h2, h3, fun x hx => h4 x (mem_keepB hx)⟩
theorem room_put (e : En) (b : Bag) : (putB e b).r = b.r := by unfold putB; split <;> rfl
theorem room_take (i : Int) (b : Bag) : (takeB i b).r = b.r := by unfold takeB; split <;> rfl
theorem room_twice (i : Int) (b : Bag) : (twiceB i b).r = b.r := by
  unfold twiceB
  split
  · exact room_put _ b
  · rfl
theorem at_some {i : Int} {b : Bag} {k : Nat} (hi : i = (k : Int)) (hk : k < b.xs.length) : atB i b = some b.xs[k] := by
  unfold atB
  rw [if_pos (by omega), hi, Int.toNat_natCast, List.getElem?_eq_getElem hk]
theorem at_none {i : Int} {b : Bag} (h : i < 0 ∨ (b.xs.length : Int) ≤ i) : atB i b = none := by
  unfold atB
  split
  · exact List.getElem?_eq_none (by omega)
  · rfl
theorem take_none {i : Int} {b : Bag} (h : i < 0 ∨ (b.xs.length : Int) ≤ i) : takeB i b = b := by
  unfold takeB
  split
  · rw [List.eraseIdx_of_length_le (by omega)]
  · rfl
/-- In an entry: its number, its envelope, where its bytes lie. -/
structure Pe where
  k : Int
  e : En
  A : Option Addr
  c : Nat
def encP (x : Pe) : List Value := [.int .i64 x.k, .int .i64 x.e.f, .int .i64 x.e.t, .slice x.A x.e.bs.length x.c]
def LP : Lay Pe := ⟨encP, 4, fun _ => rfl, fun x u hu => by
  simp only [encP, List.mem_cons, List.not_mem_nil, or_false] at hu
  rcases hu with rfl | rfl | rfl | rfl <;> rfl, by decide⟩
def valP (x : Pe) : Value := .agg #[.int .i64 x.k, .int .i64 x.e.f, .int .i64 x.e.t, .slice x.A x.e.bs.length x.c]
/-- An envelope, and where its bytes lie. -/
structure Pn where
  e : En
  A : Option Addr
  c : Nat
def encN (x : Pn) : List Value := [.int .i64 x.e.f, .int .i64 x.e.t, .slice x.A x.e.bs.length x.c]
def LN : Lay Pn := ⟨encN, 3, fun _ => rfl, fun x u hu => by
  simp only [encN, List.mem_cons, List.not_mem_nil, or_false] at hu
  rcases hu with rfl | rfl | rfl <;> rfl, by decide⟩
/-- Entries whose numbers rise, all below the next one. -/
def Up (es : List Pe) (nx : Int) : Prop := es.Pairwise (fun a b => a.k < b.k) ∧ ∀ x ∈ es, 0 ≤ x.k ∧ x.k < nx
theorem Up.nil : Up [] 0 := ⟨List.Pairwise.nil, fun x h => by cases h⟩
theorem Up.snoc {es : List Pe} {nx : Int} (h : Up es nx) (h0 : 0 ≤ nx) {x : Pe} (hx : x.k = nx) : Up (es ++ [x]) (nx + 1) := by
  refine ⟨List.pairwise_append.2 ⟨h.1, List.pairwise_singleton _ _, fun a ha b hb => ?_⟩, fun y hy => ?_⟩
  · rw [List.mem_singleton.1 hb, hx]
    exact (h.2 a ha).2
  · rcases List.mem_append.1 hy with hy | hy
    · have := h.2 y hy
      omega
    · rw [List.mem_singleton.1 hy, hx]
      omega
theorem Up.filter {es : List Pe} {nx : Int} (h : Up es nx) (q : Pe → Bool) : Up (es.filter q) nx := ⟨h.1.filter q, fun x hx => h.2 x (List.mem_filter.1 hx).1⟩
/-- Who has the number of the one at i is that one. -/
theorem Up.one {es : List Pe} {nx : Int} (h : Up es nx) {i j : Nat} {x y : Pe} (hx : es[i]? = some x) (hy : es[j]? = some y) (e : x.k = y.k) : i = j := by
  obtain ⟨l1, e1⟩ := List.getElem?_eq_some_iff.1 hx
  obtain ⟨l2, e2⟩ := List.getElem?_eq_some_iff.1 hy
  have hp := List.pairwise_iff_getElem.1 h.1
  rcases Nat.lt_trichotomy i j with h' | h' | h'
  · have := hp i j l1 l2 h'
    rw [e1, e2] at this
    omega
  · exact h'
  · have := hp j i l2 l1 h'
    rw [e1, e2] at this
    omega
theorem erase_filter : ∀ (es : List Pe) (i : Nat) (x : Pe), es.Pairwise (fun a b => a.k < b.k) → es[i]? = some x → es.filter (fun y => !decide (y.k = x.k)) = es.eraseIdx i
  | [], i, x, _, h => by simp at h
  | y :: es, 0, x, hp, h => by
    simp at h
    subst h
    have h1 := List.pairwise_cons.1 hp
    rw [List.filter_cons, if_neg (by simp), List.eraseIdx_zero, List.tail_cons, List.filter_eq_self.2]
    intro z hz
    have := h1.1 z hz
    simp
    omega
  | y :: es, i + 1, x, hp, h => by
    have h1 := List.pairwise_cons.1 hp
    have hx : es[i]? = some x := by simpa using h
    have := h1.1 x (List.mem_of_getElem? hx)
    rw [List.filter_cons, if_pos (by simp; omega), List.eraseIdx_cons_succ, erase_filter es i x h1.2 hx]
theorem map_erase (es : List Pe) (i : Nat) : (es.eraseIdx i).map (·.e) = (es.map (·.e)).eraseIdx i := by
  induction es generalizing i with
  | nil => rfl
  | cons y es ih => cases i <;> simp [ih]
end Go.Proofs.Ytgnpnjfoenmfbaa.Bg
