/-
  codec's reader: left, kind, number: what stands at the place, or a fault that tells the error and its place.
-/
import Derived.Test.YthlhlhihllgfiaaCodPlant
import Derived.Test.YthlhlhihllgfiaaNumTake
namespace Go.Proofs.Ythlhlhihllgfiaa
open Go.RowKit Mem Cod

/-- The reader's cells. -/
def Rdr (w : World) (g : Nat) (A : Option Addr) (n c p : Nat) : Prop := Blk w g 61 #[.slice A n c, .int .i64 (p : Int)]

theorem left_any (g : Nat) (A : Option Addr) (n c p : Nat) (w : World) (h : Rdr w g A n c p) (hp : p ≤ n) (hn : n ≤ 2000000) :
    Calls Try.prog 43 #[.pointer (some ⟨g, 0, none⟩)] w fun e w' => e = .returned (.int .u64 ((n : Int) - p)) ∧ ∃ q, w' = w.drewN q := by
  have c0 : w.cell? ⟨g, 0, none⟩ = some (.slice A n c) := Blk.cell h 0
  have c1 : w.cell? ⟨g, 1, none⟩ = some (.int .i64 (p : Int)) := Blk.cell h 1
  have hw1 : IntKind.i64.wrap ((n : Int) - p) = (n : Int) - p := IntWalk.i64_in _ (by omega)
  have hw2 : IntKind.u64.wrap ((n : Int) - p) = (n : Int) - p := by rw [IntKind.wrap_u64]; omega
  go_enter Try.func43, Try.ntmps43
  go_wp2_with fail
  go_quiet (fail)
  go_wp2_with fail
  go_ret
  exact ⟨rfl, nq, rfl⟩

theorem fail_2p (p : Nat) (w : World) : Calls Try.prog 26 #[.int .i64 2, .int .i64 (p : Int)] w fun en w' => en = .panicked (flt 2 p) ∧ w = w' := fail_any 2 p w
theorem fail_3p (p : Nat) (w : World) : Calls Try.prog 26 #[.int .i64 3, .int .i64 (p : Int)] w fun en w' => en = .panicked (flt 3 p) ∧ w = w' := fail_any 3 p w
theorem fail_4p (p : Nat) (w : World) : Calls Try.prog 26 #[.int .i64 4, .int .i64 (p : Int)] w fun en w' => en = .panicked (flt 4 p) ∧ w = w' := fail_any 4 p w
theorem fail_12p (p : Nat) (w : World) : Calls Try.prog 26 #[.int .i64 12, .int .i64 (p : Int)] w fun en w' => en = .panicked (flt 12 p) ∧ w = w' := fail_any 12 p w

/-- What kind comes to. -/
def KindIs (b : List Nat) (d p g : Nat) (A : Option Addr) (n c : Nat) (w : World) (e : Ending) (w' : World) : Prop :=
  w.grownBy w' (some g) ∧ ((p < n ∧ d ≤ 15 ∧ b.getD p 0 ≤ 2 ∧ e = .returned (.int .u8 ((b.getD p 0 : Nat) : Int)) ∧ Rdr w' g A n c (p + 1)) ∨ (n ≤ p ∧ e = .panicked (flt 2 p)) ∨ (p < n ∧ 15 < d ∧ e = .panicked (flt 12 p)) ∨
    (p < n ∧ d ≤ 15 ∧ 2 < b.getD p 0 ∧ e = .panicked (flt 4 p)))

set_option maxHeartbeats 2000000 in
theorem kind_any (b : List Nat) (d p g : Nat) (A : Option Addr) (n c : Nat) (w : World) (h : Rdr w g A n c p) (hr : Rd w A n c (cs b)) (hb : ∀ x ∈ b, x < 256) (hp : p ≤ n) (hn : n ≤ 2000000) (hd : d ≤ 16) :
    Calls Try.prog 41 #[.pointer (some ⟨g, 0, none⟩), .int .i64 (d : Int)] w (KindIs b d p g A n c w) := by
  have H := Lib.hid h
  have HR := Lib.hid hr
  have HB := Lib.hid hb
  clear h hr hb
  have hcap := HR.out.le
  by_cases h0 : p < n
  · have hz : ((n : Int) - p == 0) = false := by simp; omega
    by_cases h15 : 16 ≤ (d : Int)
    · go_enter Try.func41, Try.ntmps41
      go_wp2_with fail
      refine (left_any g A n c p w H.out hp hn).mono ?_
      rintro e w1 ⟨rfl, q, rfl⟩
      have c1 : w.cell? ⟨g, 1, none⟩ = some (.int .i64 (p : Int)) := Blk.cell H.out 1
      go_wp2_with fail
      refine (fail_12p p _).mono ?_
      rintro e w2 ⟨rfl, rfl⟩
      exact ⟨rfl, gr_drewN (gr_refl _ _) _, .inr (.inr (.inl ⟨h0, by omega, rfl⟩))⟩
    · obtain ⟨ad, x, rfl, hx, hcx⟩ := HR.out.byte h0
      have hg : b.getD p 0 = x := by simp [List.getD, hx]
      have hx256 : x < 256 := HB.out x (List.mem_of_getElem? hx)
      have HG := Lib.hid hg
      clear hx hg
      have c0 : w.cell? ⟨g, 0, none⟩ = some (.slice (some ad) n c) := Blk.cell H.out 0
      have c1 : w.cell? ⟨g, 1, none⟩ = some (.int .i64 (p : Int)) := Blk.cell H.out 1
      have z1 : w.frozen? ⟨g, 1, none⟩ = false := Blk.soft H.out 1
      by_cases h2 : 2 < (x : Int)
      · go_enter Try.func41, Try.ntmps41
        go_wp2_with fail
        refine (left_any g (some ad) n c p w H.out hp hn).mono ?_
        rintro e w1 ⟨rfl, q, rfl⟩
        go_wp2_with fail
        go_quiet (fail)
        go_wp2_with fail
        refine (fail_4p p _).mono ?_
        rintro e w2 ⟨rfl, rfl⟩
        exact ⟨rfl, gr_drewN (gr_refl _ _) _, .inr (.inr (.inr ⟨h0, by omega, by rw [HG.out]; omega, rfl⟩))⟩
      · go_enter Try.func41, Try.ntmps41
        go_wp2_with fail
        refine (left_any g (some ad) n c p w H.out hp hn).mono ?_
        rintro e w1 ⟨rfl, q, rfl⟩
        go_wp2_with fail
        go_quiet (fail)
        go_wp2_with fail
        go_ret
        refine ⟨gr_set (gr_drewN (gr_refl _ _) _) (.inl rfl) _, .inl ⟨h0, by omega, by rw [HG.out]; omega, by rw [HG.out]; rfl, ?_⟩⟩
        have := (H.out.drewN (q + nq)).put 1 (.int .i64 ((p : Int) + 1))
        simpa [Rdr] using this
  · have hz : ((n : Int) - p == 0) = true := by simp; omega
    have c1 : w.cell? ⟨g, 1, none⟩ = some (.int .i64 (p : Int)) := Blk.cell H.out 1
    go_enter Try.func41, Try.ntmps41
    go_wp2_with fail
    refine (left_any g A n c p w H.out hp hn).mono ?_
    rintro e w1 ⟨rfl, q, rfl⟩
    go_wp2_with fail
    refine (fail_2p p _).mono ?_
    rintro e w2 ⟨rfl, rfl⟩
    exact ⟨rfl, gr_drewN (gr_refl _ _) _, .inr (.inl ⟨by omega, rfl⟩)⟩

/-- What number comes to. -/
def NumIs (b : List Nat) (p g : Nat) (A : Option Addr) (n c : Nat) (w : World) (e : Ending) (w' : World) : Prop :=
  w.grownBy w' (some g) ∧ (((Num.take (b.drop p)).2.2 = 0 ∧ e = .returned (.int .u64 (((Num.take (b.drop p)).1 : Nat) : Int)) ∧ Rdr w' g A n c (p + (Num.take (b.drop p)).2.1)) ∨
    ((Num.take (b.drop p)).2.2 ≠ 0 ∧ e = .panicked (flt (Num.take (b.drop p)).2.2 p)))

theorem take_quiet (A : Option Addr) (n c : Nat) (bs : List Nat) (v k e : Nat) (w : World) (q : Nat) (hr : Rd w A n c (cs bs)) (hlt : ∀ x ∈ bs, x < 256) (ht : Num.take bs = (v, k, e)) :
    Calls Try.prog 48 #[.slice A n c] (w.drewN q) fun en w'' => en = .returned (.tuple #[.int .u64 (v : Int), .int .i64 (k : Int), .int .i64 (e : Int)]) ∧ ∃ m, w'' = w.drewN m :=
  (take_any A n c bs _ (hr.drewN q) hlt).mono fun en w' ⟨he, hw⟩ => ⟨by rw [he, ht], q, hw.symm⟩

set_option maxHeartbeats 2000000 in
theorem number_any (b : List Nat) (p g : Nat) (A : Option Addr) (n c : Nat) (w : World) (h : Rdr w g A n c p) (hr : Rd w A n c (cs b)) (hb : ∀ x ∈ b, x < 256) (hp : p ≤ n) (hn : n ≤ 2000000) :
    Calls Try.prog 42 #[.pointer (some ⟨g, 0, none⟩)] w (NumIs b p g A n c w) := by
  have hcut := run_cut (P := Try.prog) 28 Try.underlying28 (fun w => by kernel_rfl) A n c p hp
  have hrc := hr.cut hp
  rw [cs_drop] at hrc
  have hbd : ∀ x ∈ b.drop p, x < 256 := fun x hx => hb x (List.mem_of_mem_drop hx)
  have hlb := hr.len
  rw [length_cs] at hlb
  have hok := take_ok (b.drop p) hbd
  unfold NumIs
  rcases ht : Num.take (b.drop p) with ⟨v, k, e⟩
  rw [ht] at hok
  simp only at hok ⊢
  have c0 : w.cell? ⟨g, 0, none⟩ = some (.slice A n c) := Blk.cell h 0
  have c1 : w.cell? ⟨g, 1, none⟩ = some (.int .i64 (p : Int)) := Blk.cell h 1
  have z1 : w.frozen? ⟨g, 1, none⟩ = false := Blk.soft h 1
  have hcap := hr.le
  have hcm := hr.cap
  unfold maxLen at hcm
  have H := Lib.hid h
  have HRC := Lib.hid hrc
  have HBD := Lib.hid hbd
  have HT := Lib.hid ht
  have HOK := Lib.hid hok
  have HLB := Lib.hid hlb
  clear h hr hb hrc hbd ht hok hlb
  by_cases he : e = 0
  · subst he
    obtain ⟨_, o2, o3, o4⟩ := HOK.out rfl
    have hk9 : k ≤ 2000000 := by rw [List.length_drop] at o3; have := HLB.out; omega
    have HO2 := Lib.hid o2
    have HO3 := Lib.hid o3
    clear o2 o3 o4
    go_enter Try.func42, Try.ntmps42
    go_wp2_with fail
    go_quiet ((go_at_call 48; exact take_quiet _ _ _ _ v k 0 w _ HRC.out HBD.out HT.out))
    go_wp2_with fail
    go_ret
    refine ⟨gr_set (gr_drewN (gr_refl _ _) _) (.inl rfl) _, .inl ⟨trivial, rfl, ?_⟩⟩
    have := (H.out.drewN nq).put 1 (.int .i64 ((p : Int) + k))
    simpa [Rdr] using this
  · have hne : ((e : Int) != 0) = true := by rw [bne_iff_ne]; omega
    have HE := Lib.hid he
    clear he
    go_enter Try.func42, Try.ntmps42
    go_wp2_with fail
    go_quiet ((go_at_call 48; exact take_quiet _ _ _ _ v k e w _ HRC.out HBD.out HT.out))
    go_wp2_with fail
    refine (fail_any e p _).mono ?_
    rintro en w2 ⟨rfl, rfl⟩
    exact ⟨rfl, gr_drewN (gr_refl _ _) _, .inr ⟨HE.out, rfl⟩⟩
end Go.Proofs.Ythlhlhihllgfiaa
