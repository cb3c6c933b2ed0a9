/-
  RunesBegin answers true of any two texts.
-/
import Derived.Test.YtlaiofpaahkceaaDoorRunRefBeg
import Derived.RegionTactic
namespace Go.Proofs.YtlaiofpaahkceaaDoor
open Go.RowKit Mem Run

theorem rune_eql (v1 m1 v2 m2 : Int) (w : World) : (binOp .eql 34 (.agg #[.int .i64 v1, .int .i64 m1]) (.agg #[.int .i64 v2, .int .i64 m2])).run Tryd.prog w = .ok (.bool (v1 == v2 && m1 == m2)) w := by
  have hu : Tryd.prog.underlying 34 = some (.struct (Tryd.prog.fieldsOf 34)) := by kernel_rfl
  have hs : Tryd.prog.stoodInHeld 34 = false := by kernel_rfl
  have hf : (Tryd.prog.fieldsOf 34).toList.map (fun f => (f.name, f.type, f.offset)) = [("V", 3, 0), ("N", 3, 1)] := by kernel_rfl
  have p0 : ∀ (a b : Int) (w : World), (part 3 #[.int .i64 a, .int .i64 b] 0).run Tryd.prog w = .ok (.int .i64 a) w := fun a b w => by kernel_rfl
  have p1 : ∀ (a b : Int) (w : World), (part 3 #[.int .i64 a, .int .i64 b] 1).run Tryd.prog w = .ok (.int .i64 b) w := fun a b w => by kernel_rfl
  rw [run_eql_struct, run_equalIn_agg w 9999 34 _ _ hu hs]
  generalize (Tryd.prog.fieldsOf 34).toList = fs at hf
  obtain ⟨f0, f1, rfl⟩ : ∃ f0 f1, fs = [f0, f1] := by
    have hl := congrArg List.length hf
    simp at hl
    cases fs with
    | nil => simp at hl
    | cons f0 fs =>
      cases fs with
      | nil => simp at hl
      | cons f1 fs =>
        cases fs with
        | nil => exact ⟨f0, f1, rfl⟩
        | cons _ _ => simp at hl
  simp at hf
  obtain ⟨⟨n0, t0, o0⟩, ⟨n1, t1, o1⟩⟩ := hf
  have e9 : ∀ (a b : Int) (w : World), (Op.equalIn 9999 3 (.int .i64 a) (.int .i64 b)).run Tryd.prog w = .ok (a == b) w := fun a b w => run_equalIn_int w 9998 3 .i64 .i64 a b Tryd.underlying3
  cases hv : v1 == v2 with
  | false => simp [Op.eqFields, n0, t0, o0, p0, e9, hv, Result.andThen]
  | true => cases hm : m1 == m2 <;> simp [Op.eqFields, n0, t0, o0, n1, t1, o1, p0, p1, e9, hv, hm, Result.andThen]

theorem val_inj {p q : Pc} (hp : p.alone = false) (hq : q.alone = false) (h : p.val = q.val) : p = q := by
  cases p with
  | lone b => cases hp
  | rune c =>
    cases q with
    | lone b => cases hq
    | rune d =>
      simp only [Pc.val] at h
      rw [show c = d by omega]

def BegRel (ps qs : List Pc) (w2 : World) (v7 v8 : Value) (wr : World) : Prop :=
  ∃ (k : Nat) (z : Bool), k ≤ qs.length ∧ v7 = .bool z ∧ v8 = .int .i64 k ∧ Below w2.heap.size w2 wr ∧ (z = true → qs.length ≤ ps.length ∧ ps.take k = qs.take k) ∧ (z = false → ¬ qs <+: ps)

theorem guard_rune (x y : Operand) (xs ys : Array Value) (w : World) : (eqGuard .eql 34 x y (.agg xs) (.agg ys)).run Tryd.prog w = .ok () w := run_eqGuard_agg w .eql 34 x y xs ys (by kernel_rfl)

set_option maxHeartbeats 4000000 in
theorem runesbegin_main (s t : ByteArray) (w : World) (hT : Tab w) (h1 : s.size ≤ 200) (h2 : t.size ≤ 200) (hs : beg (bts s) = true) (ht : beg (bts t) = true) : Calls Tryd.prog 6 #[.string s, .string t] w (Tells true w) := by
  have HTT : Hid (∀ W : World, Below w.heap.size w W → Tab W) := Lib.hid fun W h => hT.below h hT.lt
  have b1 : decide ((s.size : Int) > 200) = false := by simp; omega
  have b2 : decide ((t.size : Int) > 200) = false := by simp; omega
  have hbs := begin_any s
  have hbt := begin_any t
  rw [hs, show begRet true = 0 from rfl] at hbs
  rw [ht, show begRet true = 0 from rfl] at hbt
  have hrs := fun W => runes_any s (by omega) W
  have hrt := fun W => runes_any t (by omega) W
  have hbe := begins_any s t
  have hpre : decide (bts t <+: bts s) = decide (pieces (bts t) <+: pieces (bts s)) := decide_eq_decide.2 (begins_pieces (bts s) (bts t) (bts_lt t) (beg_alone ht))
  rw [hpre] at hbe
  have has := beg_alone hs
  have hat := beg_alone ht
  have hls := pieces_le (bts s)
  have hlt := pieces_le (bts t)
  rw [length_bts] at hls hlt
  generalize pieces (bts s) = ps at hrs hbe has hls
  generalize pieces (bts t) = qs at hrt hbe hat hlt
  obtain ⟨n1, hn1⟩ : ∃ n, ps.length = n := ⟨_, rfl⟩
  obtain ⟨n2, hn2⟩ : ∃ n, qs.length = n := ⟨_, rfl⟩
  rw [hn1] at hrs hls
  rw [hn2] at hrt hlt
  have HBS := Lib.hid hbs
  have HBT := Lib.hid hbt
  have HRS := Lib.hid hrs
  have HRT := Lib.hid hrt
  have HBE := Lib.hid hbe
  have HNN := Lib.hid (And.intro hn1 hn2)
  have HAL := Lib.hid (And.intro has hat)
  clear hbs hbt hrs hrt hbe hs ht hpre has hat hn1 hn2 hT
  go_enter Tryd.func6, Tryd.ntmps6
  go_wp2_with fail
  refine (HBS.out w).mono ?_
  rintro e wa ⟨rfl, hba⟩
  go_wp2_with fail
  refine (HBT.out wa).mono ?_
  rintro e wb ⟨rfl, hbb'⟩
  have hbb := bel_trans hba hbb'
  go_wp2_with fail
  refine (HRS.out wb).mono ?_
  rintro e w1 ⟨A, ca, rfl, hrowA, hb1'⟩
  have hb1 := bel_trans hbb hb1'
  go_wp2_with fail
  refine (HRT.out w1).mono ?_
  rintro e w2 ⟨B, cb, rfl, hrowB, hb2'⟩
  have hb2 := bel_trans hb1 hb2'
  have HRA := Lib.hid (hrowA.below hb2')
  have HRB := Lib.hid hrowB
  have HB2 := Lib.hid hb2
  clear hrowA hrowB hba hbb hbb' hb1 hb1' hb2 hb2'
  have hend : ∀ (z : Bool) (wr : World), decide (qs <+: ps) = z → Below w2.heap.size w2 wr → Calls Tryd.prog 15 #[.string s, .string t] wr fun e w' => e = .returned (.bool z) ∧ wr = w' := fun z wr hz _ => by
    have := HBE.out wr
    rw [hz] at this
    exact this
  have HEND := Lib.hid hend
  clear hend
  go_wp2
  go_loopw [7, 8] (BegRel ps qs w2) (fun _ v8 _ => n2 - (intOf v8).toNat)
  case atStart =>
    refine ⟨0, decide (n2 ≤ n1), Nat.zero_le _, rfl, rfl, Below.refl _ _, fun h => ⟨?_, rfl⟩, fun h hp => ?_⟩
    · have := of_decide_eq_true h
      rw [HNN.out.1, HNN.out.2]; omega
    · have h1 := of_decide_eq_false h
      have h2 := hp.length_le
      rw [HNN.out.1, HNN.out.2] at h2; omega
  case round =>
    obtain ⟨k, z, hk, rfl, rfl, hbr, hz1, hz2⟩ := hrel
    rw [HNN.out.2] at hk
    have HBR := Lib.hid hbr
    by_cases hgo : k < n2 ∧ z = true
    · obtain ⟨hkn, rfl⟩ := hgo
      obtain ⟨hle, htk⟩ := hz1 rfl
      rw [HNN.out.1, HNN.out.2] at hle
      have lt1 : decide ((k : Int) < (n2 : Int)) = true := by simp; omega
      obtain ⟨ga, p, rfl, hp, ha0, ha1⟩ := (HRA.out.below hbr).at_ (k := k) (by omega)
      obtain ⟨gb, q, rfl, hq, hb0, hb1⟩ := (HRB.out.below hbr).at_ (k := k) hkn
      have hpa : p.alone = false := HAL.out.1 p (List.mem_of_getElem? hp)
      have hqa : q.alone = false := HAL.out.2 q (List.mem_of_getElem? hq)
      have e1 : ps.take (k + 1) = ps.take k ++ [p] := by rw [List.take_add_one, hp]; rfl
      have e2 : qs.take (k + 1) = qs.take k ++ [q] := by rw [List.take_add_one, hq]; rfl
      obtain ⟨v1, hv1⟩ : ∃ v, p.val = v := ⟨_, rfl⟩
      obtain ⟨v2, hv2⟩ : ∃ v, q.val = v := ⟨_, rfl⟩
      obtain ⟨m1, hm1⟩ : ∃ m : Int, (p.bytes.length : Int) = m := ⟨_, rfl⟩
      obtain ⟨m2, hm2⟩ : ∃ m : Int, (q.bytes.length : Int) = m := ⟨_, rfl⟩
      have hstep : ∀ zz, (v1 == v2 && m1 == m2) = zz → (zz = true → qs.length ≤ ps.length ∧ ps.take (k + 1) = qs.take (k + 1)) ∧ (zz = false → ¬ qs <+: ps) := by
        intro zz hzz
        have heq : p = q ↔ zz = true := by
          rw [← hzz, ← hv1, ← hv2, ← hm1, ← hm2]
          constructor
          · rintro rfl; simp
          · intro h
            simp only [Bool.and_eq_true, beq_iff_eq] at h
            exact val_inj hpa hqa h.1
        refine ⟨fun h => ⟨by rw [HNN.out.1, HNN.out.2]; exact hle, by rw [e1, e2, htk, heq.2 h]⟩, fun h hpre => ?_⟩
        obtain ⟨r, hr⟩ := hpre
        rw [← hr, List.getElem?_append_left (by rw [HNN.out.2]; exact hkn), hq] at hp
        have := heq.1 (Option.some.inj hp).symm
        rw [h] at this
        cases this
      rw [hv1] at ha0
      rw [hv2] at hb0
      rw [hm1] at ha1
      rw [hm2] at hb1
      have hcmp := rune_eql v1 m1 v2 m2
      obtain ⟨zz, hzz⟩ : ∃ zz, (v1 == v2 && m1 == m2) = zz := ⟨_, rfl⟩
      rw [hzz] at hcmp
      have HST := Lib.hid (hstep zz hzz)
      clear hstep hzz e1 e2 hpa hqa hp hq hv1 hv2 hm1 hm2 htk hz1 hz2 hbr
      have hgr := guard_rune
      go_wp2
      go_region
      go_wp2
      go_roundw
      case rel =>
        exact ⟨k + 1, zz, by rw [HNN.out.2]; omega, rfl, by simp, HBR.out.drew, HST.out.1, HST.out.2⟩
      case measure =>
        simp [intOf]
        omega
    · have hpz : decide (qs <+: ps) = z := by
        cases z with
        | true =>
          have hkk : k = n2 := by
            rcases Nat.lt_or_ge k n2 with h | h
            · exact absurd ⟨h, rfl⟩ hgo
            · omega
          obtain ⟨_, htk⟩ := hz1 rfl
          rw [hkk, ← HNN.out.2, List.take_length] at htk
          rw [decide_eq_true_eq, List.prefix_iff_eq_take]
          exact htk.symm
        | false => simpa using hz2 rfl
      have HPZ := Lib.hid hpz
      clear hpz hz1 hz2 hbr
      by_cases hkn : k < n2
      · obtain rfl : z = false := by
          cases z with
          | true => exact absurd ⟨hkn, rfl⟩ hgo
          | false => rfl
        have lt1 : decide ((k : Int) < (n2 : Int)) = true := by simp; omega
        clear hgo
        go_wp2_with fail
        refine (HEND.out false wr HPZ.out HBR.out).mono ?_
        rintro e w3 ⟨rfl, rfl⟩
        go_wp2_with fail
        refine (awake_any wr (HTT.out wr (bel_trans HB2.out HBR.out))).mono ?_
        rintro e w4 ⟨rfl, hb4⟩
        go_wp2
        go_ret
        exact ⟨rfl, bel_trans (bel_trans HB2.out HBR.out) hb4⟩
      · have lt1 : decide ((k : Int) < (n2 : Int)) = false := by simp; omega
        clear hgo
        go_wp2_with fail
        refine (HEND.out z wr HPZ.out HBR.out).mono ?_
        rintro e w3 ⟨rfl, rfl⟩
        go_wp2_with fail
        refine (awake_any wr (HTT.out wr (bel_trans HB2.out HBR.out))).mono ?_
        rintro e w4 ⟨rfl, hb4⟩
        go_wp2
        go_ret
        exact ⟨rfl, bel_trans (bel_trans HB2.out HBR.out) hb4⟩

theorem runesbegin_true (s t : ByteArray) (w : World) (hT : Tab w) : Calls Tryd.prog 6 #[.string s, .string t] w (Tells true w) := by
  have HTT : Hid (∀ W : World, Below w.heap.size w W → Tab W) := Lib.hid fun W h => hT.below h hT.lt
  have HBS := Lib.hid (begin_any s)
  have HBT := Lib.hid (begin_any t)
  by_cases h1 : s.size ≤ 200
  · by_cases h2 : t.size ≤ 200
    · have b1 : decide ((s.size : Int) > 200) = false := by simp; omega
      have b2 : decide ((t.size : Int) > 200) = false := by simp; omega
      cases hs : beg (bts s) with
      | true =>
        cases ht : beg (bts t) with
        | true => exact runesbegin_main s t w hT h1 h2 hs ht
        | false =>
          rw [hs, show begRet true = 0 from rfl] at HBS
          rw [ht, show begRet false = 11 from rfl] at HBT
          clear hs ht
          go_enter Tryd.func6, Tryd.ntmps6
          go_wp2_with fail
          refine (HBS.out w).mono ?_
          rintro e w1 ⟨rfl, hb1⟩
          go_wp2_with fail
          refine (HBT.out w1).mono ?_
          rintro e w2 ⟨rfl, hb2'⟩
          have hb2 := bel_trans hb1 hb2'
          go_wp2_with fail
          refine (awake_any w2 (HTT.out w2 hb2)).mono ?_
          rintro e w3 ⟨rfl, hb3⟩
          go_wp2
          go_ret
          exact ⟨rfl, bel_trans hb2 hb3⟩
      | false =>
        rw [hs, show begRet false = 11 from rfl] at HBS
        clear hs
        go_enter Tryd.func6, Tryd.ntmps6
        go_wp2_with fail
        refine (HBS.out w).mono ?_
        rintro e w1 ⟨rfl, hb1⟩
        go_wp2_with fail
        refine (awake_any w1 (HTT.out w1 hb1)).mono ?_
        rintro e w3 ⟨rfl, hb3⟩
        go_wp2
        go_ret
        exact ⟨rfl, bel_trans hb1 hb3⟩
    · have b1 : decide ((s.size : Int) > 200) = false := by simp; omega
      have b2 : decide ((t.size : Int) > 200) = true := by simp; omega
      go_enter Tryd.func6, Tryd.ntmps6
      go_wp2_with fail
      refine (awake_any w hT).mono ?_
      rintro e w3 ⟨rfl, hb3⟩
      go_wp2
      go_ret
      exact ⟨rfl, hb3⟩
  · have b1 : decide ((s.size : Int) > 200) = true := by simp; omega
    go_enter Tryd.func6, Tryd.ntmps6
    go_wp2_with fail
    refine (awake_any w hT).mono ?_
    rintro e w3 ⟨rfl, hb3⟩
    go_wp2
    go_ret
    exact ⟨rfl, hb3⟩
end Go.Proofs.YtlaiofpaahkceaaDoor
