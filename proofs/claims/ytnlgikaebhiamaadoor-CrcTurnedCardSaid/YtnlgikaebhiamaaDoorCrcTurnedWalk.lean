/-
  The walk of the law CrcTurned: it answers true, whatever the bytes and the turn; what was there stays.
-/
import Derived.Test.YtnlgikaebhiamaaDoorCrcMixesWalk
import Derived.Test.YtnlgikaebhiamaaDoorPick
namespace Go.Proofs.YtnlgikaebhiamaaDoor
open Go.RowKit Mem

theorem low_snoc : ∀ (j L : Nat), Crc.low (j + 1) L = Crc.low j L ++ [L / 256 ^ j % 256]
  | 0, L => by simp [Crc.low]
  | j + 1, L => by
    show L % 256 :: Crc.low (j + 1) (L / 256) = (L % 256 :: Crc.low j (L / 256)) ++ [L / 256 ^ (j + 1) % 256]
    rw [low_snoc j, List.cons_append, Nat.div_div_eq_div_mul, Nat.pow_succ, Nat.mul_comm 256]
/-- What is turned: j bytes of L from place I on. -/
def trn (n I j L : Nat) : List Nat := List.replicate I 0 ++ Crc.low j L ++ List.replicate (n - I - j) 0
theorem trn_length {n I j L : Nat} (h : I + j ≤ n) : (trn n I j L).length = n := by
  simp only [trn, List.length_append, List.length_replicate, Crc.low_length]; omega
theorem trn_set {n I j L : Nat} (h : I + j < n) : (trn n I j L).set (I + j) (L / 256 ^ j % 256) = trn n I (j + 1) L := by
  unfold trn
  have h2 : (List.replicate I 0 ++ Crc.low j L).length = I + j := by simp [Crc.low_length]
  rw [List.set_append_right _ _ (by omega), h2, Nat.sub_self, show n - I - j = (n - I - (j + 1)) + 1 by omega, List.replicate_succ, List.set_cons_zero, low_snoc]
  simp
theorem trn_at {n I j L : Nat} (h : I + j < n) : (trn n I j L)[I + j]? = some 0 := by
  unfold trn
  have h2 : (List.replicate I 0 ++ Crc.low j L).length = I + j := by simp [Crc.low_length]
  rw [List.getElem?_append_right (by omega), h2, Nat.sub_self, show n - I - j = (n - I - (j + 1)) + 1 by omega, List.replicate_succ]
  rfl
theorem trn_none (n I L : Nat) (h : I ≤ n) : trn n I 0 L = List.replicate n 0 := by
  unfold trn
  rw [show Crc.low 0 L = [] by rfl, List.append_nil, List.replicate_append_replicate]
  congr 1; omega
theorem mix_zeros : ∀ (b : List Nat), Crc.mix b (List.replicate b.length 0) = b
  | [] => rfl
  | x :: b => by
    show (x ^^^ 0) :: Crc.mix b (List.replicate b.length 0) = _
    rw [mix_zeros b, Nat.xor_zero]
theorem mix_set : ∀ (b e : List Nat) (i x y : Nat), b[i]? = some x → (Crc.mix b e).set i (x ^^^ y) = Crc.mix b (e.set i y)
  | [], _, _, _, _, h => by simp at h
  | u :: b, [], i, x, y, _ => by simp [Crc.mix]
  | u :: b, v :: e, 0, x, y, h => by
    obtain rfl : u = x := by simpa using h
    rfl
  | u :: b, v :: e, i + 1, x, y, h => by
    show (u ^^^ v) :: (Crc.mix b e).set i (x ^^^ y) = (u ^^^ v) :: Crc.mix b (e.set i y)
    rw [mix_set b e i x y (by simpa using h)]
theorem trn_lt {n I j L : Nat} : ∀ b ∈ trn n I j L, b < 256 := by
  intro b hb
  simp only [trn, List.mem_append, List.mem_replicate] at hb
  rcases hb with (⟨_, rfl⟩ | hb) | ⟨_, rfl⟩
  · decide
  · exact Crc.low_lt _ _ b hb
  · decide

def LongRel (w : World) (s t : Nat) (l i : Value) (wr : World) : Prop :=
  ∃ j : Nat, j ≤ s ∧ i = .int .i64 j ∧ l = .int .u64 ((t * 2 ^ j : Nat) : Int) ∧ wr = w
def TurnRel (w : World) (g n c I L : Nat) (bs : List Nat) (l i : Value) (wr : World) : Prop :=
  ∃ j : Nat, j ≤ 5 ∧ i = .int .i64 j ∧ l = .int .u64 ((L / 256 ^ j : Nat) : Int) ∧
    wr.ownsRow w.heap.size 5 1 (.slice (some ⟨g, 0, none⟩) n c) n (cs (Crc.mix bs (trn n I j L))) ∧ Below w.heap.size w wr

theorem own_addr {w : World} {base : Nat} {e : TypeId} {V : Option Addr} {n c : Nat} {xs : List Value} (h : w.ownsRow base e 1 (.slice V n c) n xs) (hn : 0 < n) : ∃ g, V = some ⟨g, 0, none⟩ ∧ base ≤ g := by
  rcases h.2 with ⟨e1, e2⟩ | ⟨g, cap, cur, e1, hb, _⟩
  · cases e1; omega
  · cases e1
    exact ⟨g, rfl, hb⟩

set_option maxHeartbeats 2000000 in
theorem turned_near (A : Option Addr) (n c K t : Nat) (at_ : Int) (b : List Nat) (w : World) (hn : n ≤ 2000) (hn5 : 5 ≤ n) (hK : pick at_ (8 * ((n : Int) - 4)) = (K : Int)) (hK2 : K < 8 * (n - 4))
    (ht0 : t ≠ 0) (ht1 : t < 4294967296) (ht : Tab w) (hb : Rd w A n c (cs b)) (lb : ∀ x ∈ b, x < 256) :
    Calls Tryd.prog 4 #[.slice A n c, .int .i64 at_, .int .u32 (t : Int)] w (Tells true w) := by
  obtain ⟨i0, hi, hz0, hz1, hz2⟩ := info_parts info5
  have nb := hb.len
  rw [length_cs] at nb
  have hp := fun W => pick_any at_ (8 * ((n : Int) - 4)) W (by omega) (by omega)
  rw [hK] at hp
  have HP := Lib.hid hp
  have NB := Lib.hid nb
  have HB := Lib.hid hb
  have HT := Lib.hid ht
  have LB := Lib.hid lb
  have HT1 := Lib.hid ht1
  have d0 : decide ((2000 : Int) < (n : Int)) = false := by simp; omega
  have d1 : decide ((n : Int) < 5) = false := by simp; omega
  have d2 : ((t : Int) == 0) = false := by simp; omega
  have HT0 := Lib.hid ht0
  clear hb ht lb nb hp hK ht0
  go_enter Tryd.func4, Tryd.ntmps4
  go_wp2_with (first
    | (at_builtin; refine wpList_append_rd rfl _ _ 24 rfl w.heap.size 5 i0 (.int .u8 0) 1 Tryd.underlying24 hi hz0 hz1 hz2 rfl _ 0 0 [] rfl (World.ownsRow_lit w #[] 0 (Nat.le_refl _) (by simp [maxLen]) rfl) A n c (cs b) rfl (HB.out.alloc _) (cs_one _) (by unfold maxLen; omega) (by omega) (by simp) ?_; intro V c' w1 hown1 hb1; rw [Nat.zero_add] at hown1 ⊢)
    | (go_at_call 10; refine (HP.out _).mono ?_; rintro e w2 ⟨rfl, rfl⟩))
  rw [List.nil_append] at hown1
  obtain ⟨g, rfl, hg⟩ := own_addr hown1 (by omega)
  have hbe1 : Below w.heap.size w w1 := ((Below.refl _ _).alloc (Nat.le_refl _) _).trans hb1
  have HO1 := Lib.hid hown1
  have HBE1 := Lib.hid hbe1
  clear hown1 hb1 hbe1
  obtain ⟨S, hS⟩ : ∃ S : Nat, (K : Int) % 8 = (S : Int) := ⟨K % 8, by omega⟩
  obtain ⟨I, hI⟩ : ∃ I : Nat, (K : Int) / 8 = (I : Int) := ⟨K / 8, by omega⟩
  have hS8 : S < 8 := by omega
  have hI8 : I + 5 ≤ n := by omega
  go_loopw [9, 10] (LongRel w1 S t) (fun _ i _ => S - (intOf i).toNat)
  case atStart => exact ⟨0, Nat.zero_le _, rfl, by simp, rfl⟩
  case round =>
    obtain ⟨j, hj, rfl, rfl, rfl⟩ := hrel
    have hp2 : t * 2 ^ j ≤ 4294967295 * 128 := Nat.mul_le_mul (by omega) (show 2 ^ j ≤ 2 ^ 7 from Nat.pow_le_pow_right (by decide) (by omega))
    have hp3 : t * 2 ^ (j + 1) = t * 2 ^ j * 2 := by rw [Nat.pow_succ, Nat.mul_assoc]
    have HP3 := Lib.hid hp3
    clear hp3
    generalize hL : t * 2 ^ j = L at hp2 HP3 ⊢
    have HL := Lib.hid hL
    clear hL
    by_cases hlt : j < S
    · go_wp2
      exact ⟨⟨j + 1, by omega, by simp, by rw [HP3.out]; simp, rfl⟩, by simp [intOf]; omega⟩
    · obtain rfl : j = S := by omega
      clear HP3
      go_wp2
      go_loopw [9, 11] (TurnRel w g n c' I L b) (fun _ i _ => 5 - (intOf i).toNat)
      case atStart => exact ⟨0, Nat.zero_le _, rfl, by simp, by rw [trn_none n I L (by omega), ← NB.out, mix_zeros, NB.out]; exact HO1.out, HBE1.out⟩
      case round =>
        obtain ⟨i, hi5, rfl, rfl, hown, hbe⟩ := hrel
        by_cases hlt5 : i < 5
        · have hLL : L / 256 ^ i ≤ L := Nat.div_le_self _ _
          have hdn : L / 256 ^ (i + 1) = L / 256 ^ i / 256 := by rw [Nat.pow_succ, Nat.div_div_eq_div_mul]
          have hst := trn_set (n := n) (I := I) (j := i) (L := L) (by omega)
          obtain ⟨x, hx⟩ : ∃ x, b[I + i]? = some x := ⟨_, List.getElem?_eq_getElem (show I + i < b.length by rw [NB.out]; omega)⟩
          have x8 := LB.out _ (List.mem_of_getElem? hx)
          have hms := mix_set b (trn n I i L) (I + i) x (L / 256 ^ i % 256) hx
          have hat := mix_at hx (trn_at (n := n) (I := I) (j := i) (L := L) (by omega))
          rw [Nat.xor_zero] at hat
          have hcell := hown.cellAt (I + i) (by omega)
          rw [show (cs (Crc.mix b (trn n I i L)))[I + i]? = some (.int .u8 (x : Int)) by simp [cs, hat]] at hcell
          have hfr := hown.frozenAt (I + i)
          have hsto := (hown.stored (I + i) (.int .u8 ((x ^^^ L / 256 ^ i % 256 : Nat) : Int))).1
          rw [show (cs (Crc.mix b (trn n I i L))).set (I + i) (.int .u8 ((x ^^^ L / 256 ^ i % 256 : Nat) : Int)) = cs (Crc.mix b (trn n I (i + 1) L)) by rw [← hst, ← hms]; simp [cs, List.map_set]] at hsto
          generalize L / 256 ^ i = M at hLL hdn hsto ⊢
          obtain ⟨R, hR⟩ : ∃ R : Nat, (M : Int) % 256 = (R : Int) := ⟨M % 256, by omega⟩
          have hRM : M % 256 = R := by omega
          have hR8 : R < 256 := by omega
          rw [hRM] at hsto
          have hxr := u8_xor_nat x R x8 hR8
          have HDN := Lib.hid hdn
          have HST := Lib.hid hsto
          have HBE := Lib.hid hbe
          clear hst hx hms hat hsto hdn hbe hown hRM x8
          go_wp2
          exact ⟨⟨i + 1, by omega, by simp, by rw [HDN.out]; simp, HST.out, HBE.out.setCell hg _⟩, by simp [intOf]; omega⟩
        · obtain rfl : i = 5 := by omega
          have hne : Crc.sum (Crc.mix b (trn n I 5 L)) ≠ Crc.sum b := by
            refine Crc.sum_turn b _ (by rw [trn_length (by omega), NB.out]) ?_
            have := Crc.run_turn I (n - I - 5) j t (by omega) HT1.out HT0.out
            rw [HL.out] at this
            exact this
          have ht := HT.out.below hbe
          have hb := HB.out.below hbe
          have hm := Rd.own hown
          have c1 := sum_one rfl ht hm (mix_lt LB.out trn_lt)
          have c2 := sum_one (g := wr.heap.size + 1) (by simp) (ht.alloc (.cells #[.slice (some ⟨g, 0, none⟩) n c'] 24)) (hb.alloc _) LB.out
          have tend := (ht.alloc (.cells #[.slice (some ⟨g, 0, none⟩) n c'] 24)).alloc (.cells #[.slice A n c] 24)
          have hend := bel_alloc (bel_alloc hbe (.cells #[.slice (some ⟨g, 0, none⟩) n c'] 24)) (.cells #[.slice A n c] 24)
          generalize Crc.sum (Crc.mix b (trn n I 5 L)) = SM at hne c1
          generalize Crc.sum b = SB at hne c2
          have d9 : ((SM : Int) != (SB : Int)) = true := by rw [bne_iff_ne]; omega
          have C1 := Lib.hid c1
          have C2 := Lib.hid c2
          have TE := Lib.hid tend
          have HE := Lib.hid hend
          clear c1 c2 tend hend ht hb hm hown hbe hne
          go_wp2_with fail
          refine C1.out.mono ?_
          rintro e w' ⟨rfl, rfl⟩
          go_wp2_with fail
          refine C2.out.mono ?_
          rintro e w' ⟨rfl, rfl⟩
          go_wp2_with fail
          refine (awake_any _ TE.out).mono ?_
          rintro e w' ⟨rfl, hb5⟩
          go_wp2_with fail
          go_ret
          exact ⟨rfl, bel_trans HE.out hb5⟩

set_option maxHeartbeats 1000000 in
theorem turned_far (A : Option Addr) (n c : Nat) (at_ t : Int) (w : World) (h : 2000 < n ∨ n < 5 ∨ t = 0) (ht : Tab w) :
    Calls Tryd.prog 4 #[.slice A n c, .int .i64 at_, .int .u32 t] w (Tells true w) := by
  have HT := Lib.hid ht
  clear ht
  by_cases h0 : 2000 < n
  · have d0 : decide ((2000 : Int) < (n : Int)) = true := by simp; omega
    clear h
    go_enter Tryd.func4, Tryd.ntmps4
    go_wp2_with fail
    refine (awake_any _ HT.out).mono ?_
    rintro e w' ⟨rfl, hb5⟩
    go_wp2_with fail
    go_ret
    exact ⟨rfl, hb5⟩
  · have d0 : decide ((2000 : Int) < (n : Int)) = false := by simp; omega
    by_cases h1 : n < 5
    · have d1 : decide ((n : Int) < 5) = true := by simp; omega
      clear h h0 h1
      go_enter Tryd.func4, Tryd.ntmps4
      go_wp2_with fail
      refine (awake_any _ HT.out).mono ?_
      rintro e w' ⟨rfl, hb5⟩
      go_wp2_with fail
      go_ret
      exact ⟨rfl, hb5⟩
    · have d1 : decide ((n : Int) < 5) = false := by simp; omega
      obtain rfl : t = 0 := by omega
      clear h h0 h1
      go_enter Tryd.func4, Tryd.ntmps4
      go_wp2_with fail
      refine (awake_any _ HT.out).mono ?_
      rintro e w' ⟨rfl, hb5⟩
      go_wp2_with fail
      go_ret
      exact ⟨rfl, hb5⟩

theorem crcTurned_walk (A : Option Addr) (n c : Nat) (at_ t : Int) (b : List Nat) (w : World) (ht0 : 0 ≤ t) (ht1 : t ≤ 4294967295) (ht : Tab w) (hb : Rd w A n c (cs b)) (lb : ∀ x ∈ b, x < 256) :
    Calls Tryd.prog 4 #[.slice A n c, .int .i64 at_, .int .u32 t] w fun e w' => e = .returned (.bool true) ∧ Below w.heap.size w w' := by
  by_cases h : 2000 < n ∨ n < 5 ∨ t = 0
  · exact turned_far A n c at_ t w h ht
  · obtain ⟨T, rfl⟩ := Int.eq_ofNat_of_zero_le ht0
    have hp := pick_lt at_ (8 * ((n : Int) - 4)) (by omega)
    obtain ⟨K, hK⟩ := Int.eq_ofNat_of_zero_le hp.1
    exact turned_near A n c K T at_ b w (by omega) (by omega) hK (by omega) (by omega) (by omega) ht hb lb
end Go.Proofs.YtnlgikaebhiamaaDoor
