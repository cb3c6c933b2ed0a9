/-
  crc.through and crc.Sum of any parts: the remainder of their bytes, one behind the other; they only read.
-/
import Derived.Test.YtnlgikaebhiamaaDoorProg
import Derived.Test.YtnlgikaebhiamaaDoorMem
import Derived.Test.YtnlgikaebhiamaaDoorCrcPlain
import Derived.Laws.BitsAllLaws
import Derived.Lib.SlBytesConst
namespace Go.Proofs.YtnlgikaebhiamaaDoor
open Go.RowKit Mem

/-- The table lies in the world. -/
def Tab (w : World) : Prop := ∀ i : Nat, i < 16 → w.cell? ⟨0, i, none⟩ = some (.int .u32 ((Crc.sts 4 i : Nat) : Int))

/-- The ending: a number of 32 bits; nothing has changed. -/
def SumIs (v : Nat) (w : World) (e : Ending) (w' : World) : Prop := e = .returned (.int .u32 (v : Int)) ∧ w' = w

def ThroughRel (w : World) (n v : Nat) (bs : List Nat) (i s : Value) (wr : World) : Prop :=
  ∃ k : Nat, k ≤ n ∧ i = .int .i64 k ∧ s = .int .u32 ((Crc.run v (bs.take k) : Nat) : Int) ∧ wr = w
def HalfRel (w : World) (u : Nat) (i s : Value) (wr : World) : Prop :=
  ∃ j : Nat, j ≤ 2 ∧ i = .int .i64 j ∧ s = .int .u32 ((Crc.sts (4 * j) u : Nat) : Int) ∧ wr = w

set_option maxHeartbeats 1000000 in
theorem through_any (v : Nat) (A : Option Addr) (n c : Nat) (bs : List Nat) (w : World) (hv : v < 4294967296) (ht : Tab w) (hr : Rd w A n c (cs bs)) (hb : ∀ b ∈ bs, b < 256) :
    Calls Tryd.prog 11 #[.int .u32 (v : Int), .slice A n c] w (SumIs (Crc.run v bs) w) := by
  have lx := hr.len
  rw [length_cs] at lx
  have bx := hr.le
  have cx := hr.cap
  unfold maxLen at cx
  have LX := Lib.hid lx
  have HB := Lib.hid hb
  have HT := Lib.hid ht
  have HR := Lib.hid hr
  have HV := Lib.hid hv
  clear lx hb ht hr hv
  go_enter Tryd.func11, Tryd.ntmps11
  go_wp2
  go_loopw [9, 0] (ThroughRel w n v bs) (fun i _ _ => n - (intOf i).toNat)
  case atStart => exact ⟨0, Nat.zero_le _, rfl, rfl, rfl⟩
  case round =>
    obtain ⟨k, hk, rfl, rfl, rfl⟩ := hrel
    by_cases hlt : k < n
    · obtain ⟨ad, b, rfl, hb, hc⟩ := HR.out.byte hlt
      have hb256 : b < 256 := HB.out b (List.mem_of_getElem? hb)
      have hR : Crc.run v (bs.take k) < 4294967296 := Crc.run_lt _ HV.out fun x hx => HB.out x (List.mem_of_mem_take hx)
      have hn : Crc.run v (bs.take (k + 1)) = Crc.sts 8 (Crc.run v (bs.take k) ^^^ b) := by rw [List.take_add_one, hb]; exact Crc.run_snoc _ _ _
      have HN := Lib.hid hn
      clear hn
      generalize Crc.run v (bs.take k) = R at hR HN ⊢
      have hm : ((b : Nat) : Int) % 4294967296 = (b : Int) := by omega
      have hx := u32_xor_nat R b hR (by omega)
      have hU : R ^^^ b < 4294967296 := Crc.xor_lt hR (by omega)
      generalize R ^^^ b = U at hx hU HN
      go_wp2
      go_loopw [17, 0] (HalfRel wr U) (fun i _ _ => 2 - (intOf i).toNat)
      case atStart => exact ⟨0, by decide, rfl, rfl, rfl⟩
      case round =>
        obtain ⟨j, hj, rfl, rfl, rfl⟩ := hrel
        by_cases hj2 : j < 2
        · have hX : Crc.sts (4 * j) U < 4294967296 := Crc.sts_lt _ hU
          have hn2 : Crc.sts (4 * (j + 1)) U = Crc.sts (4 * j) U / 16 ^^^ Crc.sts 4 (Crc.sts (4 * j) U % 16) := by
            rw [Crc.sts4, show 4 * (j + 1) = 4 * j + 4 by omega, Crc.sts_add]
          have HN2 := Lib.hid hn2
          clear hn2
          generalize Crc.sts (4 * j) U = X at hX HN2 ⊢
          have ha : bits .and .u32 (X : Int) 15 = ((X % 16 : Nat) : Int) := by
            rw [show (15 : Int) = ((15 : Nat) : Int) by rfl, u32_and_nat X 15 hX (by decide)]
            rw [show X &&& 15 = X % 2 ^ 4 from Nat.and_two_pow_sub_one_eq_mod X 4]
          have hcell := HT.out (X % 16) (Nat.mod_lt _ (by decide))
          have hT : Crc.sts 4 (X % 16) < 4294967296 := Crc.sts_lt _ (by omega)
          generalize Crc.sts 4 (X % 16) = T at hcell hT HN2
          have hx2 : bits .xor .u32 ((X : Int) / 16) (T : Int) = ((X / 16 ^^^ T : Nat) : Int) := by
            have := u32_xor_nat (X / 16) T (by omega) hT
            rwa [Int.natCast_ediv] at this
          go_wp2
          exact ⟨⟨j + 1, by omega, by simp, by rw [HN2.out], rfl⟩, by simp [intOf]; omega⟩
        · obtain rfl : j = 2 := by omega
          go_wp2
          exact ⟨⟨k + 1, by omega, by simp, by rw [HN.out], rfl⟩, by simp [intOf]; omega⟩
    · obtain rfl : k = n := by omega
      go_wp2
      go_ret
      refine ⟨?_, rfl⟩
      rw [List.take_of_length_le (Nat.le_of_eq LX.out)]
      rfl

/-- A part: a slice of bytes, with what it holds. -/
structure Part where
  A : Option Addr
  n : Nat
  c : Nat
  bs : List Nat
def pv (p : Part) : Value := .slice p.A p.n p.c
def bytes (ps : List Part) : List Nat := (ps.map (·.bs)).flatten
/-- The slice '.slice A n c' holds the parts ps. -/
structure Mat (w : World) (A : Option Addr) (n c : Nat) (ps : List Part) : Prop where
  row : Rd w A n c (ps.map pv)
  part : ∀ p ∈ ps, Rd w p.A p.n p.c (cs p.bs) ∧ ∀ b ∈ p.bs, b < 256
theorem Mat.below {w w' : World} {A : Option Addr} {n c : Nat} {ps : List Part} (h : Mat w A n c ps) (hb : Below w.heap.size w w') : Mat w' A n c ps :=
  ⟨h.row.below hb, fun p hp => ⟨(h.part p hp).1.below hb, (h.part p hp).2⟩⟩
theorem Tab.below {w w' : World} (h : Tab w) (hb : Below w.heap.size w w') : Tab w' := fun i hi => by
  have := h i hi
  exact (hb.cell (World.block_lt_of_cell? w _ this)).trans this
theorem bytes_append (a b : List Part) : bytes (a ++ b) = bytes a ++ bytes b := by simp [bytes]
theorem bytes_lt {ps : List Part} {w : World} {A : Option Addr} {n c : Nat} (h : Mat w A n c ps) : ∀ b ∈ bytes ps, b < 256 := by
  intro b hb
  simp only [bytes, List.mem_flatten, List.mem_map] at hb
  obtain ⟨_, ⟨p, hp, rfl⟩, hb⟩ := hb
  exact (h.part p hp).2 b hb
theorem bytes_take_lt {ps : List Part} {w : World} {A : Option Addr} {n c : Nat} (h : Mat w A n c ps) (k : Nat) : ∀ b ∈ bytes (ps.take k), b < 256 := by
  intro b hb
  simp only [bytes, List.mem_flatten, List.mem_map] at hb
  obtain ⟨_, ⟨p, hp, rfl⟩, hb⟩ := hb
  exact (h.part p (List.mem_of_mem_take hp)).2 b hb

def SumRel (w : World) (n : Nat) (ps : List Part) (i s : Value) (wr : World) : Prop :=
  ∃ k : Nat, k ≤ n ∧ i = .int .i64 k ∧ s = .int .u32 ((Crc.run 4294967295 (bytes (ps.take k)) : Nat) : Int) ∧ wr = w

set_option maxHeartbeats 1000000 in
theorem sum_any (A : Option Addr) (n c : Nat) (ps : List Part) (w : World) (ht : Tab w) (hm : Mat w A n c ps) :
    Calls Tryd.prog 8 #[.slice A n c] w (SumIs (Crc.sum (bytes ps)) w) := by
  have lx := hm.row.len
  rw [List.length_map] at lx
  have bx := hm.row.le
  have cx := hm.row.cap
  unfold maxLen at cx
  have LX := Lib.hid lx
  have HM := Lib.hid hm
  have HT := Lib.hid ht
  clear lx hm ht
  go_enter Tryd.func8, Tryd.ntmps8
  go_wp2
  go_loopw [8, 3] (SumRel w n ps) (fun i _ _ => n - (intOf i).toNat)
  case atStart => exact ⟨0, Nat.zero_le _, rfl, rfl, rfl⟩
  case round =>
    obtain ⟨k, hk, rfl, rfl, rfl⟩ := hrel
    have hR : Crc.run 4294967295 (bytes (ps.take k)) < 4294967296 := Crc.run_lt _ (by decide) (bytes_take_lt HM.out k)
    by_cases hlt : k < n
    · obtain ⟨ad, u, rfl, _, hx, hc⟩ := HM.out.row.at_ hlt
      rw [List.getElem?_map, Option.map_eq_some_iff] at hx
      obtain ⟨p, hp, rfl⟩ := hx
      have hn : Crc.run 4294967295 (bytes (ps.take (k + 1))) = Crc.run (Crc.run 4294967295 (bytes (ps.take k))) p.bs := by
        rw [List.take_add_one, hp, bytes_append, Crc.run_append]
        simp [bytes]
      have HN := Lib.hid hn
      obtain ⟨hr1, hr2⟩ := HM.out.part p (List.mem_of_getElem? hp)
      have hth := through_any (Crc.run 4294967295 (bytes (ps.take k))) p.A p.n p.c p.bs wr hR HT.out hr1 hr2
      have HTH := Lib.hid hth
      unfold pv at hc
      clear hn hth hr1 hr2 hp
      go_wp2_with (go_at_call 11; refine HTH.out.mono ?_; rintro e w' ⟨rfl, rfl⟩)
      exact ⟨⟨k + 1, by omega, by simp, by rw [HN.out], rfl⟩, by simp [intOf]; omega⟩
    · obtain rfl : k = n := by omega
      have hs : bits .xor .u32 IntKind.u32.max ((Crc.run 4294967295 (bytes (ps.take k)) : Nat) : Int) = ((Crc.sum (bytes ps) : Nat) : Int) := by
        rw [show IntKind.u32.max = ((4294967295 : Nat) : Int) by rfl, u32_xor_nat _ _ (by decide) hR, List.take_of_length_le (Nat.le_of_eq LX.out)]
        rfl
      go_wp2
      go_ret
      exact ⟨rfl, rfl⟩

/-- A row of parts that was just made. -/
theorem Mat.lit (w : World) (ps : List Part) (t : TypeId) (n : Nat) (hn : ps.length = n) (hm : n ≤ maxLen) (hp : ∀ p ∈ ps, Rd w p.A p.n p.c (cs p.bs) ∧ ∀ b ∈ p.bs, b < 256) :
    Mat (w.alloc (.cells (ps.map pv).toArray t)) (some ⟨w.heap.size, 0, none⟩) n n ps :=
  ⟨Rd.lit w _ t n (by rw [List.length_map, hn]) hm, fun p h => ⟨(hp p h).1.alloc _, (hp p h).2⟩⟩
theorem Tab.alloc {w : World} (h : Tab w) (o : Obj) : Tab (w.alloc o) := fun i hi => by
  have := h i hi
  exact (World.cell?_alloc_lt w o _ (World.block_lt_of_cell? w _ this)).trans this
theorem Tab.drewN {w : World} (h : Tab w) (k : Nat) : Tab (w.drewN k) := h
theorem Tab.drew {w : World} (h : Tab w) : Tab w.drew := h

/-- Sum of one part that was just laid in a row. -/
theorem sum_one {w : World} {A : Option Addr} {n c g : Nat} {bs : List Nat} (hg : g = w.heap.size) (ht : Tab w) (hr : Rd w A n c (cs bs)) (hb : ∀ b ∈ bs, b < 256) :
    Calls Tryd.prog 8 #[.slice (some ⟨g, 0, none⟩) 1 1] (w.alloc (.cells #[.slice A n c] 24)) (SumIs (Crc.sum bs) (w.alloc (.cells #[.slice A n c] 24))) := by
  subst hg
  have hm := Mat.lit w [⟨A, n, c, bs⟩] 24 1 rfl (by simp [maxLen]) (by intro p hp; simp at hp; subst hp; exact ⟨hr, hb⟩)
  have := sum_any _ 1 1 _ _ (ht.alloc _) hm
  have e : bytes [⟨A, n, c, bs⟩] = bs := by simp [bytes]
  rw [e] at this
  exact this

theorem awake_any (w : World) (ht : Tab w) : Calls Tryd.prog 7 #[] w (Tells true w) := by
  have HT := Lib.hid ht
  clear ht
  have hcv := Lib.run_convert_bytes_const (P := Tryd.prog) w 24 5 #[.int .u8 49, .int .u8 50, .int .u8 51, .int .u8 52, .int .u8 53, .int .u8 54, .int .u8 55, .int .u8 56, .int .u8 57] 9 9 Tryd.underlying24 Tryd.underlying5
  go_enter Tryd.func7, Tryd.ntmps7
  go_wp2_with fail
  refine (sum_one (A := some ⟨w.heap.size, 0, none⟩) (n := 9) (c := 9) (bs := [49, 50, 51, 52, 53, 54, 55, 56, 57]) (by simp) (HT.out.alloc _) (Rd.litF w _ _ _ 9 rfl (by simp [maxLen])) (by decide)).mono ?_
  rintro e w' ⟨rfl, rfl⟩
  rw [Crc.sum_awake]
  go_wp2
  go_ret
  exact ⟨rfl, ((Below.refl _ _).alloc (Nat.le_refl _) _).alloc (by simp) _⟩
end Go.Proofs.YtnlgikaebhiamaaDoor
