/-
  The document's own Take, of any bytes, answers what 'Num.take' says of them; what was there stays.
-/
import Derived.Test.YthlhlhihllgfiaaNumRefPut
import Derived.Test.YthlhlhihllgfiaaNumTake
import Derived.Deep.RegionWith
namespace Go.Proofs.Ythlhlhihllgfiaa
open Go.RowKit Mem

/-- The ending: a struct of a number, a count and an error's number. -/
def Got (a n e0 : Int) (w : World) (e : Ending) (w' : World) : Prop := e = .returned (.agg #[.int .u64 a, .int .i64 n, .int .i64 e0]) ∧ Below w.heap.size w w'

/-- The result's box of three cells, behind calls. -/
theorem box_facts {w w' : World} {x y z : Value} {t : TypeId} (h : Below (w.alloc (.cells #[x, y, z] t)).drew.heap.size (w.alloc (.cells #[x, y, z] t)).drew w') :
    w'.cell? ⟨w.heap.size, 0, none⟩ = some x ∧ w'.cell? ⟨w.heap.size, 1, none⟩ = some y ∧ w'.cell? ⟨w.heap.size, 2, none⟩ = some z ∧
    w'.frozen? ⟨w.heap.size, 0, none⟩ = false ∧ w'.frozen? ⟨w.heap.size, 1, none⟩ = false ∧ w'.frozen? ⟨w.heap.size, 2, none⟩ = false := by
  have hb : w'.heap[w.heap.size]? = some (.cells #[x, y, z] t (0, 0)) := by
    rw [h.block w.heap.size (by show w.heap.size < (w.heap.push _).size; simp)]
    exact heap_alloc_new w _
  have hc : ∀ i, w'.cell? ⟨w.heap.size, i, none⟩ = (#[x, y, z])[i]? := fun i => cell_of_row w' w.heap.size i _ t (0, 0) hb
  have hf : ∀ i, w'.frozen? ⟨w.heap.size, i, none⟩ = false := fun i => by simp [World.frozen?, hb]
  exact ⟨hc 0, hc 1, hc 2, hf 0, hf 1, hf 2⟩

set_option maxHeartbeats 1000000 in
theorem reftake_none (A : Option Addr) (c : Nat) (w : World) : Calls Try.prog 44 #[.slice A 0 c] w (Got 0 0 2 w) := by
  go_enter Try.func44, Try.ntmps44
  go_wp2
  exact bodyPost_ret (v := .agg #[.int .u64 0, .int .i64 0, .int .i64 2]) (by simp [results, Try.results44, go_sem]) rfl ⟨rfl, bel_alloc (Below.refl _ _) _⟩

set_option maxHeartbeats 1000000 in
theorem reftake_short (ad : Addr) (n c : Nat) (b : Int) (w : World) (h1 : 1 ≤ n) (hn : n ≤ 9223372036854775807) (hbl : ad.block < w.heap.size) (hc : w.cell? ad = some (.int .u8 b)) (hb0 : 248 ≤ b) (hb : b ≤ 255) (hsh : (n : Int) < 1 + (b - 247)) :
    Calls Try.prog 44 #[.slice (some ad) n c] w (Got 0 0 2 w) := by
  have hne : ((n : Int) == 0) = false := by simp; omega
  have hc' : ∀ o, (w.alloc o).cell? ad = some (.int .u8 b) := fun o => (World.cell?_alloc_lt w o ad hbl).trans hc
  go_enter Try.func44, Try.ntmps44
  go_wp2
  exact bodyPost_ret (v := .agg #[.int .u64 0, .int .i64 0, .int .i64 2]) (by simp [results, Try.results44, go_sem]) rfl ⟨rfl, bel_alloc (Below.refl _ _) _⟩

set_option maxHeartbeats 1000000 in
theorem reftake_one (ad : Addr) (n c : Nat) (b : Int) (w : World) (h1 : 1 ≤ n) (hnc : n ≤ c) (hn : n ≤ 9223372036854775807) (hbl : ad.block < w.heap.size) (hc : w.cell? ad = some (.int .u8 b)) (hb0 : 0 ≤ b) (hb : b < 248)
    (hr : Rd w (some ad) 1 c (cs [b.toNat])) :
    Calls Try.prog 44 #[.slice (some ad) n c] w (Got b 1 0 w) := by
  have hne : ((n : Int) == 0) = false := by simp; omega
  have hc' : ∀ o, (w.alloc o).cell? ad = some (.int .u8 b) := fun o => (World.cell?_alloc_lt w o ad hbl).trans hc
  have hp : Num.put b.toNat = [b.toNat] := by unfold Num.put; rw [if_pos (by omega)]
  have HP := Lib.hid fun W : World => refput_any b W hb0 (by omega) 1 [b.toNat] hp rfl
  have d1 : decide (248 ≤ b) = false := by simp; omega
  have d2 : decide ((n : Int) < 1) = false := by simp; omega
  have hc1 : (1 : Int) ≤ (c : Int) := by omega
  have hc2 : 0 < c := by omega
  have hc3 : ¬ c = 0 := by omega
  clear hp
  go_enter Try.func44, Try.ntmps44
  go_wp2
  refine wp_loop_rounds 1 ?_
  rw [rounds_succ]
  go_wp2
  have hw1 : IntKind.i64.wrap 1 = 1 := by rfl
  go_region_with (first | (go_at_call 40; refine (HP.out _).mono ?_; rintro e w1 ⟨A1, c1, rfl, hr1, hb1⟩; have hbw1 : Below w.heap.size w w1 := bel_trans (by exact ((bel_alloc (Below.refl _ _) _).drew)) hb1; have hr2 := hr.below hbw1) | (go_at_call 13; refine (same_tells _ _ 1 1 _ c [b.toNat] [b.toNat] true _ (by assumption) (by assumption) (by simp)).mono ?_; rintro e w2 ⟨rfl, hb2⟩))
  have hb12 := bel_trans hb1 hb2
  have q := box_facts hb12
  obtain ⟨q0, q1, q2, f0, f1, f2⟩ := q
  have hbw2 := bel_trans hbw1 hb2
  clear hb1 hb2 hb12 hw1
  go_wp2
  exact bodyPost_ret (v := .agg #[.int .u64 b, .int .i64 1, .int .i64 0]) (by simp [results, Try.results44, go_sem, q0, q1, q2]) rfl ⟨rfl, ((hbw2.setCell (Nat.le_refl _) _).setCell (Nat.le_refl _) _).setCell (Nat.le_refl _) _⟩

def RTRel (f : Nat) (r : List Nat) (v i : Value) : Prop :=
  ∃ k : Nat, k ≤ f ∧ i = .int .i64 ((k : Int) + 1) ∧ v = .int .u64 (Num.val (r.take k) : Int)

theorem mul_add (v : Nat) (x : Int) (hv : v < 72057594037927936) (hx0 : 0 ≤ x) (hx1 : x ≤ 255) : IntKind.u64.wrap (IntKind.u64.wrap (256 * (v : Int)) + x) = (v : Int) * 256 + x := by
  rw [IntKind.wrap_u64, IntKind.wrap_u64]; omega

def longV (r : List Nat) (f : Nat) : Int := if Num.size (Num.val (r.take f)) ≠ 1 + f then 0 else Num.val (r.take f)
def longN (r : List Nat) (f : Nat) : Int := if Num.size (Num.val (r.take f)) ≠ 1 + f then 0 else 1 + f
def longE (r : List Nat) (f : Nat) : Int := if Num.size (Num.val (r.take f)) ≠ 1 + f then 4 else 0

set_option maxHeartbeats 2000000 in
theorem reftake_long (ad : Addr) (n c f : Nat) (b : Int) (r : List Nat) (w : World) (h1 : b - 246 ≤ (n : Int)) (hnc : n ≤ c) (hn : n ≤ 9223372036854775807) (hb0 : 248 ≤ b) (hb : b ≤ 255) (hf : b - 247 = (f : Int)) (hbl : ad.block < w.heap.size) (hc : w.cell? ad = some (.int .u8 b))
    (hcell : ∀ k, k < f → ∃ x : Int, w.cell? (ad.add (k + 1)) = some (.int .u8 x) ∧ 0 ≤ x ∧ x ≤ 255 ∧ (Num.val (r.take (k + 1)) : Int) = Num.val (r.take k) * 256 + x) (hv : ∀ k, k ≤ f → Num.val (r.take k) < 256 ^ k)
    (hr : Rd w (some ad) (1 + f) c (cs ((b.toNat :: r).take (1 + f))))
    (hsame : Num.put (Num.val (r.take f)) = (b.toNat :: r).take (1 + f) ↔ Num.size (Num.val (r.take f)) = 1 + f) :
    Calls Try.prog 44 #[.slice (some ad) n c] w (Got (longV r f) (longN r f) (longE r f) w) := by
  have hne : ((n : Int) == 0) = false := by simp; omega
  have d1 : decide (248 ≤ b) = true := by simp; omega
  have d2 : decide ((n : Int) < 1 + (b - 247)) = false := by simp; omega
  have d3 : decide (0 < b - 247) = true := by simp; omega
  have hc' : ∀ o, (w.alloc o).cell? ad = some (.int .u8 b) := fun o => (World.cell?_alloc_lt w o ad hbl).trans hc
  have HC := Lib.hid hcell
  have HV := Lib.hid hv
  have HF := Lib.hid hf
  have HSM := Lib.hid hsame
  clear hcell hv hf hsame
  go_enter Try.func44, Try.ntmps44
  go_wp2
  go_loop [4, 5] (RTRel f r) (fun _ i => f + 1 - (intOf i).toNat)
  case atStart => exact ⟨0, Nat.zero_le _, rfl, rfl⟩
  case round =>
    obtain ⟨k, hk, rfl, rfl⟩ := hrel
    have hf := HF.out
    by_cases hlt : (k : Int) + 1 ≤ b - 247
    · obtain ⟨x, hcx, hx0, hx1, hval⟩ := HC.out k (by omega)
      have hvk := HV.out k hk
      have HVAL := Lib.hid hval
      have hcx' : w.cell? ⟨ad.block, ad.off + (k + 1), none⟩ = some (.int .u8 x) := by simpa [Addr.add] using hcx
      clear hval hf hcx
      go_wp2
      have hf := HF.out
      refine ⟨⟨k + 1, by omega, by simp, ?_⟩, by simp [intOf]; omega⟩
      rw [HVAL.out, mul_add _ x (pow_lt hvk (by omega)) hx0 hx1]
    · obtain rfl : k = f := by omega
      have hV : ∃ V, Num.val (r.take k) = V := ⟨_, rfl⟩
      obtain ⟨V, hV⟩ := hV
      have hvk := HV.out k hk
      have hsame := HSM.out
      rw [hV] at hvk hsame ⊢
      have h64 := pow_le hvk (show k ≤ 8 by omega)
      have hpp : ∃ p m, Num.put V = p ∧ p.length = m := ⟨_, _, rfl, rfl⟩
      obtain ⟨p, m, hp, hm⟩ := hpp
      have HP : Hid (∀ W : World, Calls Try.prog 40 #[.int .u64 (V : Int)] W (Gives W m p)) := fun W => refput_any V W (by omega) (by omega) m p (by rw [Int.toNat_natCast]; exact hp) hm
      have hq : ∃ q, (b.toNat :: r).take (1 + k) = q := ⟨_, rfl⟩
      obtain ⟨q, hq⟩ := hq
      rw [hq] at hr hsame
      rw [hp] at hsame
      have hc1 : (1 : Int) + (k : Int) ≤ (c : Int) := by omega
      have HE : Hid (longV r k = (if Num.size V ≠ 1 + k then 0 else (V : Int)) ∧ longN r k = (if Num.size V ≠ 1 + k then 0 else 1 + (k : Int)) ∧ longE r k = (if Num.size V ≠ 1 + k then 4 else 0)) := by
        unfold longV longN longE; rw [hV]; exact ⟨rfl, rfl, rfl⟩
      have HK : Hid (b - 247 = (k : Int)) := hf
      clear hV hvk hp hm hq HC HV HF HSM hc'
      by_cases hs : Num.size V = 1 + k
      · have hsm : Hid (decide (p = q) = true) := by simpa [Hid] using hsame.2 hs
        have hfin : Hid (longV r k = (V : Int) ∧ longN r k = 1 + (k : Int) ∧ longE r k = 0) := by
          obtain ⟨e1, e2, e3⟩ := HE.out
          simp [hs] at e1 e2 e3
          exact ⟨e1, e2, e3⟩
        clear hs hsame HE
        have h10 : (0 : Int) ≤ 1 + (k : Int) := by omega
        go_wp2
        have hw1 : IntKind.i64.wrap (1 + (k : Int)) = 1 + (k : Int) := IntWalk.i64_in _ (by omega)
        go_region_with (first | (go_at_call 40; refine (HP.out _).mono ?_; rintro e w1 ⟨A1, c1, rfl, hr1, hb1⟩; have hbw1 : Below w.heap.size w w1 := bel_trans (by exact ((bel_alloc (Below.refl _ _) _).drew)) hb1; have hr2 := hr.below hbw1) | (go_at_call 13; refine (same_tells _ _ m (1 + k) _ c p q true _ (by assumption) (by assumption) hsm.out).mono ?_; rintro e w2 ⟨rfl, hb2⟩))
        have hb12 := bel_trans hb1 hb2
        obtain ⟨q0, q1, q2, f0, f1, f2⟩ := box_facts hb12
        have hbw2 := bel_trans hbw1 hb2
        clear hb1 hb2 hb12 hw1
        go_wp2
        obtain ⟨e1, e2, e3⟩ := hfin.out
        rw [e1, e2, e3]
        exact bodyPost_ret (v := .agg #[.int .u64 (V : Int), .int .i64 (1 + (k : Int)), .int .i64 0]) (by simp [results, Try.results44, go_sem, q0, q1, q2]) rfl ⟨rfl, ((hbw2.setCell (Nat.le_refl _) _).setCell (Nat.le_refl _) _).setCell (Nat.le_refl _) _⟩
      · have hsm : Hid (decide (p = q) = false) := by
          show decide (p = q) = false
          rw [decide_eq_false_iff_not]
          exact fun h => hs (hsame.1 h)
        have hfin : Hid (longV r k = 0 ∧ longN r k = 0 ∧ longE r k = 4) := by
          obtain ⟨e1, e2, e3⟩ := HE.out
          simp [hs] at e1 e2 e3
          exact ⟨e1, e2, e3⟩
        clear hs hsame HE
        have h10 : (0 : Int) ≤ 1 + (k : Int) := by omega
        go_wp2
        have hw1 : IntKind.i64.wrap (1 + (k : Int)) = 1 + (k : Int) := IntWalk.i64_in _ (by omega)
        go_region_with (first | (go_at_call 40; refine (HP.out _).mono ?_; rintro e w1 ⟨A1, c1, rfl, hr1, hb1⟩; have hbw1 : Below w.heap.size w w1 := bel_trans (by exact ((bel_alloc (Below.refl _ _) _).drew)) hb1; have hr2 := hr.below hbw1) | (go_at_call 13; refine (same_tells _ _ m (1 + k) _ c p q false _ (by assumption) (by assumption) hsm.out).mono ?_; rintro e w2 ⟨rfl, hb2⟩))
        have hb12 := bel_trans hb1 hb2
        obtain ⟨q0, q1, q2, f0, f1, f2⟩ := box_facts hb12
        have hbw2 := bel_trans hbw1 hb2
        clear hb1 hb2 hb12 hw1
        go_wp2
        obtain ⟨e1, e2, e3⟩ := hfin.out
        rw [e1, e2, e3]
        exact bodyPost_ret (v := .agg #[.int .u64 0, .int .i64 0, .int .i64 4]) (by simp [results, Try.results44, go_sem, q0, q1, q2]) rfl ⟨rfl, ((hbw2.setCell (Nat.le_refl _) _).setCell (Nat.le_refl _) _).setCell (Nat.le_refl _) _⟩

theorem reftake_any (A : Option Addr) (n c : Nat) (bs : List Nat) (w : World) (hr : Rd w A n c (cs bs)) (hlt : ∀ x ∈ bs, x < 256) :
    Calls Try.prog 44 #[.slice A n c] w (Got (Num.take bs).1 (Num.take bs).2.1 (Num.take bs).2.2 w) := by
  have hl := hr.len
  rw [length_cs] at hl
  have hle := hr.le
  have hm := hr.cap
  unfold maxLen at hm
  match bs, hl with
  | [], hl => obtain rfl : n = 0 := by simpa using hl.symm
              exact reftake_none A c w
  | b :: r, hl =>
    rw [List.length_cons] at hl
    obtain ⟨ad, rfl, hc⟩ := head_cell hr
    have hbl := World.block_lt_of_cell? w _ hc
    have hb := hlt b (by simp)
    by_cases h1 : b < 248
    · have e : Num.take (b :: r) = (b, 1, 0) := by simp [Num.take, h1]
      rw [e]
      have hr1 := hr.take (k := 1) (by omega)
      rw [cs_take] at hr1
      exact reftake_one ad n c b w (by omega) hle (by omega) hbl hc (by omega) (by omega) (by simpa using hr1)
    · by_cases h2 : r.length < b - 247
      · have e : Num.take (b :: r) = (0, 0, 2) := by simp [Num.take, h1, h2]
        rw [e]
        exact reftake_short ad n c b w (by omega) (by omega) hbl hc (by omega) (by omega) (by omega)
      · have e : Num.take (b :: r) = longRes r (b - 247) := by simp [Num.take, h1, h2, longRes]
        have e1 : ((longRes r (b - 247)).1 : Int) = longV r (b - 247) := by unfold longRes longV; split <;> simp
        have e2 : ((longRes r (b - 247)).2.1 : Int) = longN r (b - 247) := by unfold longRes longN; split <;> simp
        have e3 : ((longRes r (b - 247)).2.2 : Int) = longE r (b - 247) := by unfold longRes longE; split <;> simp
        rw [e, e1, e2, e3]
        have hr1 := hr.take (k := 1 + (b - 247)) (by omega)
        rw [cs_take] at hr1
        refine reftake_long ad n c (b - 247) b r w (by omega) hle (by omega) (by omega) (by omega) (by omega) hbl hc (fun k hk => ?_) (fun k hk => ?_) (by rw [Int.toNat_natCast]; exact hr1) ?_
        · obtain ⟨ad', x, e', hx, hcx⟩ := hr.byte (k := k + 1) (by omega)
          cases e'
          rw [List.getElem?_cons_succ] at hx
          have hx2 := hlt x (by simp [List.mem_of_getElem? hx])
          refine ⟨x, hcx, by omega, by omega, ?_⟩
          rw [List.take_add_one, hx]
          show ((Num.val (r.take k ++ [x]) : Nat) : Int) = _
          rw [Num.val_snoc]
          omega
        · have := Num.take_val_lt r k (fun b hb => hlt b (by simp [hb]))
          rw [List.length_take, Nat.min_eq_left (by omega)] at this
          exact this
        · rw [Int.toNat_natCast]
          exact Num.put_same b r (by omega) (by omega) (by omega) (fun x hx => hlt x (by simp [hx]))

end Go.Proofs.Ythlhlhihllgfiaa
