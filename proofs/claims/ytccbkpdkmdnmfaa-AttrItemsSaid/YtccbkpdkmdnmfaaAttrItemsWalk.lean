/-
  The walk of the statement AttrItems.
-/
import Derived.Test.YtccbkpdkmdnmfaaAttRefTakeOld
import Derived.Test.YtccbkpdkmdnmfaaAttOld
import Derived.Test.YtccbkpdkmdnmfaaAttAwake
import Derived.Test.YtccbkpdkmdnmfaaCodSize
namespace Go.Proofs.Ytccbkpdkmdnmfaa
open Go.RowKit Mem Ids Att Cod

theorem lies_up {w w' : World} {x : It} {A : Option Addr} {c : Nat} (h : Lies w (fun b => b < w.heap.size) x A c) (hb : Below w.heap.size w w') : Lies w' (fun b => b < w'.heap.size) x A c :=
  (h.below hb fun _ hb => hb).more fun _ hb' _ => Nat.lt_of_lt_of_le hb' hb.size
theorem lies_upa {w : World} {x : It} {A : Option Addr} {c : Nat} (h : Lies w (fun b => b < w.heap.size) x A c) (o : Obj) : Lies (w.alloc o) (fun b => b < (w.alloc o).heap.size) x A c :=
  (h.alloc o).more fun b hb' _ => by rw [size_alloc]; omega
theorem wt_att {a : At} (h : achk a = 0) : wt (attIt a) ≤ 100000 ∧ wt (oldIt a) ≤ 100000 := by
  have hl := achk_len h
  have h1 : wts [numIt a.tg, numIt a.sq, setIt a.dp] = wts [numIt a.tg] + (wts [numIt a.sq] + wts [setIt a.dp]) := by
    rw [show [numIt a.tg, numIt a.sq, setIt a.dp] = [numIt a.tg] ++ ([numIt a.sq] ++ [setIt a.dp]) from rfl, wts_append, wts_append]
  have h2 : wts [numIt a.sq, setIt a.dp] = wts [numIt a.sq] + wts [setIt a.dp] := by
    rw [show [numIt a.sq, setIt a.dp] = [numIt a.sq] ++ [setIt a.dp] from rfl, wts_append]
  have e1 : ∀ v, wts [numIt v] = 1 := fun v => by rw [wts_one]; simp [numIt, wt, wts]
  have e2 : wts [setIt a.dp] = 1 + a.dp.length * 2 := by
    rw [wts_one]
    show 1 + ByteArray.empty.size + wts (its a.dp) = _
    rw [wts_its]
    rfl
  have e3 : wt (attIt a) = 1 + ByteArray.empty.size + wts [numIt a.tg, numIt a.sq, setIt a.dp] := by simp only [attIt, wt]
  have e4 : wt (oldIt a) = 1 + ByteArray.empty.size + wts [numIt a.sq, setIt a.dp] := by simp only [oldIt, wt]
  have e5 : ByteArray.empty.size = 0 := rfl
  rw [e3, e4, h1, h2, e1, e1, e2, e5]
  omega
theorem held6 {W w' : World} {g h : Nat} {t u : TypeId} {a b c a' b' c' : Value} (h1 : Blk W g t #[a, b, c]) (h2 : Blk W h u #[a', b', c']) (hb : Below W.heap.size W w') :
    w'.cell? ⟨g, 0, none⟩ = some a ∧ w'.cell? ⟨g, 1, none⟩ = some b ∧ w'.cell? ⟨g, 2, none⟩ = some c ∧ w'.cell? ⟨h, 0, none⟩ = some a' ∧ w'.cell? ⟨h, 1, none⟩ = some b' ∧ w'.cell? ⟨h, 2, none⟩ = some c' := by
  obtain ⟨x0, x1, x2⟩ := blk3 (h1.bel hb)
  obtain ⟨y0, y1, y2⟩ := blk3 (h2.bel hb)
  exact ⟨x0, x1, x2, y0, y1, y2⟩
theorem held10 {W w' : World} {g h i : Nat} {t u v : TypeId} {a b c a' b' c' p q r s : Value} (h1 : Blk W g t #[a, b, c]) (h2 : Blk W h u #[a', b', c']) (h3 : Blk W i v #[p, q, r, s]) (hb : Below W.heap.size W w') :
    w'.cell? ⟨g, 0, none⟩ = some a ∧ w'.cell? ⟨g, 1, none⟩ = some b ∧ w'.cell? ⟨g, 2, none⟩ = some c ∧ w'.cell? ⟨h, 0, none⟩ = some a' ∧ w'.cell? ⟨h, 1, none⟩ = some b' ∧ w'.cell? ⟨h, 2, none⟩ = some c' ∧ w'.cell? ⟨i, 0, none⟩ = some p ∧ w'.cell? ⟨i, 1, none⟩ = some q ∧ w'.cell? ⟨i, 2, none⟩ = some r ∧ w'.cell? ⟨i, 3, none⟩ = some s := by
  obtain ⟨x0, x1, x2⟩ := blk3 (h1.bel hb)
  obtain ⟨y0, y1, y2⟩ := blk3 (h2.bel hb)
  obtain ⟨z0, z1, z2, z3⟩ := blk4 (h3.bel hb)
  exact ⟨x0, x1, x2, y0, y1, y2, z0, z1, z2, z3⟩

set_option maxRecDepth 100000 in
set_option maxHeartbeats 16000000 in
theorem attritems_true (l : List (Int × Int)) (s t : Int) (A : Option Addr) (n c : Nat) (x : It) (B : Option Addr) (d : Nat) (w : World) (hr : Rs w A n c l) (hx : Lies w (fun b => b < w.heap.size) x B d) :
    Calls Try.prog 4 #[.agg #[.slice A n c, .int .i64 s, .int .i64 t], .agg #[.int .i64 x.kind, .int .u64 (x.num : Int), .string x.str, .slice B x.kids.length d]] w (Tells true w) := by
  have HA := Lib.hid awake_any
  obtain ⟨W, hW⟩ : ∃ W, (w.alloc (.cells #[.slice A n c, .int .i64 s, .int .i64 t] 24)).alloc (.cells #[.int .i64 x.kind, .int .u64 (x.num : Int), .string x.str, .slice B x.kids.length d] 37) = W := ⟨_, rfl⟩
  obtain ⟨k1, k2, kb, hsW⟩ := two_kinds w _ _ _ _ W hW
  have HK1 := Lib.hid k1
  have HK2 := Lib.hid k2
  have HBW := Lib.hid kb
  have HRa := Lib.hid (hr.below kb)
  have HLx := Lib.hid (lies_up hx kb)
  have HW := Lib.hid hW
  have hsz := sizeof_any 300 (by omega) 40 x B d (fun b => b < W.heap.size) W (by omega) HLx.out
  have HSZ := Lib.hid hsz
  have HT1 := Lib.hid (fun w (h : Lies w (fun b => b < w.heap.size) x B d) => atttake_any x B d _ w h fun _ h => h)
  have HT2 := Lib.hid (fun w (h : Lies w (fun b => b < w.heap.size) x B d) => refatttake_any x B d _ w h fun _ h => h)
  have HT3 := Lib.hid (fun w (h : Lies w (fun b => b < w.heap.size) x B d) => oldtake_any x B d _ w h fun _ h => h)
  have HT4 := Lib.hid (fun w (h : Lies w (fun b => b < w.heap.size) x B d) => refoldtake_any x B d _ w h fun _ h => h)
  generalize attTake x = Q1 at HT1 HT2
  generalize oldTake x = Q2 at HT3 HT4
  have s1 := fun w B m d B' m' d' (h : Rs w B m d (Q1.getD zeroAt).dp) (h' : Rs w B' m' d' (Q1.getD zeroAt).dp) => refasame_any (Q1.getD zeroAt).dp (Q1.getD zeroAt).sq (Q1.getD zeroAt).tg B m d (Q1.getD zeroAt).dp (Q1.getD zeroAt).sq (Q1.getD zeroAt).tg B' m' d' w h h'
  have s2 := fun w B m d B' m' d' (h : Rs w B m d (Q2.getD zeroAt).dp) (h' : Rs w B' m' d' (Q2.getD zeroAt).dp) => refasame_any (Q2.getD zeroAt).dp (Q2.getD zeroAt).sq (Q2.getD zeroAt).tg B m d (Q2.getD zeroAt).dp (Q2.getD zeroAt).sq (Q2.getD zeroAt).tg B' m' d' w h h'
  rw [asame_self] at s1 s2
  have HS1 := Lib.hid s1
  have HS2 := Lib.hid s2
  have b60 : ∀ r, decide ((60 : Int) < (n : Int)) = r → decide ((60 : Int) < (n : Int)) = r := fun _ h => h
  obtain ⟨xa0, xa1, xa2⟩ := blk3 k1
  obtain ⟨xb0, xb1, xb2, xb3⟩ := blk4 k2
  clear k1 k2 kb hW hr hx s1 s2 hsz
  by_cases h60 : 60 < n
  · have b1 : decide ((60 : Int) < (n : Int)) = true := decide_eq_true (by omega)
    clear h60 b60 HSZ HT1 HT2 HT3 HT4 HS1 HS2
    go_enter Try.func4, Try.ntmps4
    go_upto_region 1 with fail
    rw [HW.out]
    clear HW
    go_wp2_with fail
    refine (HA.out _).mono ?_
    rintro e w9 ⟨rfl, hb1⟩
    have HB9 := Lib.hid (bel_trans HBW.out hb1)
    clear hb1
    go_wp2_with fail
    go_ret
    exact ⟨rfl, HB9.out⟩
  have b1 : decide ((60 : Int) < (n : Int)) = false := decide_eq_false (by omega)
  clear h60 b60
  go_enter Try.func4, Try.ntmps4
  go_upto_region 1 with fail
  rw [HW.out]
  clear HW
  go_wp2_with fail
  refine HSZ.out.mono ?_
  rintro e w1 ⟨r, rfl, r0, r1, -, hb1⟩
  replace HK1 := Lib.hid ((HK1.out.bel hb1))
  replace HK2 := Lib.hid ((HK2.out.bel hb1))
  replace HRa := Lib.hid ((HRa.out.below hb1))
  replace HLx := Lib.hid (lies_up HLx.out hb1)
  replace HBW := Lib.hid (bel_trans HBW.out hb1)
  clear xa0 xa1 xa2 xb0 xb1 xb2 xb3
  clear hb1 HSZ
  by_cases h300 : 300 < r
  · have b2 : decide ((300 : Int) < r) = true := decide_eq_true h300
    clear h300 r0 r1 HT1 HT2 HT3 HT4 HS1 HS2
    go_wp2_with fail
    refine (HA.out _).mono ?_
    rintro e w9 ⟨rfl, hb1⟩
    have HB9 := Lib.hid (bel_trans HBW.out hb1)
    clear hb1
    go_wp2_with fail
    go_ret
    exact ⟨rfl, HB9.out⟩
  have b2 : decide ((300 : Int) < r) = false := decide_eq_false h300
  clear h300 r0 r1
  have HO := Lib.hid (fun w (h : Rs w A n c l) => attold_any l s t A n c w h)
  have HC := Lib.hid (fun w (h : Rs w A n c l) => refacheck_any l s t A n c w h)
  by_cases hc : achk ⟨l, s, t⟩ = 0
  case neg =>
    have he : attOld ⟨l, s, t⟩ = (zeroIt, 4) := by rw [attOld, if_neg hc]
    rw [he] at HO
    obtain ⟨O, hO⟩ : ∃ O, zeroIt = O := ⟨_, rfl⟩
    rw [hO] at HO
    generalize achk ⟨l, s, t⟩ = v at HC hc
    have hv : (v != 0) = true := bne_iff_ne.2 hc
    have hv2 : (v == 0) = false := beq_false_of_ne hc
    clear he hO hc
    by_cases ht : t = 1
    · subst ht
      obtain ⟨x10, x11, x12⟩ := blk3 HK1.out
      go_wp2_with fail
      refine (HO.out _ HRa.out).mono ?_
      rintro e w2 ⟨VO, cO, rfl, ho, hb1⟩
      simp only at ho ⊢
      have HN := Lib.hid (Blk.new w2 37 #[.int .i64 O.kind, .int .u64 (O.num : Int), .string O.str, .slice VO O.kids.length cO])
      have HLN := Lib.hid (lies_upa (ho.more (S' := fun b => b < w2.heap.size) fun b hb _ => hb.2) (.cells #[.int .i64 O.kind, .int .u64 (O.num : Int), .string O.str, .slice VO O.kids.length cO] 37))
      replace HK1 := Lib.hid ((HK1.out.bel hb1).alloc (.cells #[.int .i64 O.kind, .int .u64 (O.num : Int), .string O.str, .slice VO O.kids.length cO] 37))
      replace HK2 := Lib.hid ((HK2.out.bel hb1).alloc (.cells #[.int .i64 O.kind, .int .u64 (O.num : Int), .string O.str, .slice VO O.kids.length cO] 37))
      replace HRa := Lib.hid ((HRa.out.below hb1).alloc (.cells #[.int .i64 O.kind, .int .u64 (O.num : Int), .string O.str, .slice VO O.kids.length cO] 37))
      replace HLx := Lib.hid (lies_upa (lies_up HLx.out hb1) (.cells #[.int .i64 O.kind, .int .u64 (O.num : Int), .string O.str, .slice VO O.kids.length cO] 37))
      replace HBW := Lib.hid (bel_alloc (bel_trans HBW.out hb1) (.cells #[.int .i64 O.kind, .int .u64 (O.num : Int), .string O.str, .slice VO O.kids.length cO] 37))
      clear x10 x11 x12
      clear hb1 HO ho
      have HK3 := HN
      have HLo := HLN
      clear HN HLN
      obtain ⟨x10, x11, x12⟩ := blk3 HK1.out
      go_wp2_with fail
      refine (HC.out _ HRa.out).mono ?_
      rintro e w3 ⟨rfl, hb1⟩
      replace HK1 := Lib.hid ((HK1.out.bel hb1))
      replace HK2 := Lib.hid ((HK2.out.bel hb1))
      replace HK3 := Lib.hid ((HK3.out.bel hb1))
      replace HRa := Lib.hid ((HRa.out.below hb1))
      replace HLx := Lib.hid (lies_up HLx.out hb1)
      replace HLo := Lib.hid (lies_up HLo.out hb1)
      replace HBW := Lib.hid (bel_trans HBW.out hb1)
      clear x10 x11 x12
      clear hb1
      obtain ⟨x10, x11, x12⟩ := blk3 HK1.out
      go_wp2_with fail
      refine (HC.out _ HRa.out).mono ?_
      rintro e w4 ⟨rfl, hb1⟩
      replace HK1 := Lib.hid ((HK1.out.bel hb1))
      replace HK2 := Lib.hid ((HK2.out.bel hb1))
      replace HK3 := Lib.hid ((HK3.out.bel hb1))
      replace HRa := Lib.hid ((HRa.out.below hb1))
      replace HLx := Lib.hid (lies_up HLx.out hb1)
      replace HLo := Lib.hid (lies_up HLo.out hb1)
      replace HBW := Lib.hid (bel_trans HBW.out hb1)
      clear x10 x11 x12
      clear hb1 HC
      obtain ⟨x20, x21, x22, x23⟩ := blk4 HK2.out
      go_wp2_with fail
      refine (HT1.out _ HLx.out).mono ?_
      rintro e u1 ⟨P1, m1, d1, rfl, hx, hb1, -⟩
      have HN := Lib.hid (Blk.new u1 24 #[.slice P1 m1 d1, .int .i64 (Q1.getD zeroAt).sq, .int .i64 (Q1.getD zeroAt).tg])
      have HRN := Lib.hid (hx.alloc (.cells #[.slice P1 m1 d1, .int .i64 (Q1.getD zeroAt).sq, .int .i64 (Q1.getD zeroAt).tg] 24))
      replace HK1 := Lib.hid ((HK1.out.bel hb1).alloc (.cells #[.slice P1 m1 d1, .int .i64 (Q1.getD zeroAt).sq, .int .i64 (Q1.getD zeroAt).tg] 24))
      replace HK2 := Lib.hid ((HK2.out.bel hb1).alloc (.cells #[.slice P1 m1 d1, .int .i64 (Q1.getD zeroAt).sq, .int .i64 (Q1.getD zeroAt).tg] 24))
      replace HK3 := Lib.hid ((HK3.out.bel hb1).alloc (.cells #[.slice P1 m1 d1, .int .i64 (Q1.getD zeroAt).sq, .int .i64 (Q1.getD zeroAt).tg] 24))
      replace HRa := Lib.hid ((HRa.out.below hb1).alloc (.cells #[.slice P1 m1 d1, .int .i64 (Q1.getD zeroAt).sq, .int .i64 (Q1.getD zeroAt).tg] 24))
      replace HLx := Lib.hid (lies_upa (lies_up HLx.out hb1) (.cells #[.slice P1 m1 d1, .int .i64 (Q1.getD zeroAt).sq, .int .i64 (Q1.getD zeroAt).tg] 24))
      replace HLo := Lib.hid (lies_upa (lies_up HLo.out hb1) (.cells #[.slice P1 m1 d1, .int .i64 (Q1.getD zeroAt).sq, .int .i64 (Q1.getD zeroAt).tg] 24))
      replace HBW := Lib.hid (bel_alloc (bel_trans HBW.out hb1) (.cells #[.slice P1 m1 d1, .int .i64 (Q1.getD zeroAt).sq, .int .i64 (Q1.getD zeroAt).tg] 24))
      clear x20 x21 x22 x23
      clear hb1 HT1 hx
      have HK11 := HN
      have HRp := HRN
      clear HN HRN
      obtain ⟨x20, x21, x22, x23⟩ := blk4 HK2.out
      go_wp2_with fail
      refine (HT2.out _ HLx.out).mono ?_
      rintro e u2 ⟨P2, m2, d2, rfl, hx, hb1, -⟩
      have HN := Lib.hid (Blk.new u2 24 #[.slice P2 m2 d2, .int .i64 (Q1.getD zeroAt).sq, .int .i64 (Q1.getD zeroAt).tg])
      have HRN := Lib.hid (hx.alloc (.cells #[.slice P2 m2 d2, .int .i64 (Q1.getD zeroAt).sq, .int .i64 (Q1.getD zeroAt).tg] 24))
      replace HK1 := Lib.hid ((HK1.out.bel hb1).alloc (.cells #[.slice P2 m2 d2, .int .i64 (Q1.getD zeroAt).sq, .int .i64 (Q1.getD zeroAt).tg] 24))
      replace HK2 := Lib.hid ((HK2.out.bel hb1).alloc (.cells #[.slice P2 m2 d2, .int .i64 (Q1.getD zeroAt).sq, .int .i64 (Q1.getD zeroAt).tg] 24))
      replace HK3 := Lib.hid ((HK3.out.bel hb1).alloc (.cells #[.slice P2 m2 d2, .int .i64 (Q1.getD zeroAt).sq, .int .i64 (Q1.getD zeroAt).tg] 24))
      replace HK11 := Lib.hid ((HK11.out.bel hb1).alloc (.cells #[.slice P2 m2 d2, .int .i64 (Q1.getD zeroAt).sq, .int .i64 (Q1.getD zeroAt).tg] 24))
      replace HRa := Lib.hid ((HRa.out.below hb1).alloc (.cells #[.slice P2 m2 d2, .int .i64 (Q1.getD zeroAt).sq, .int .i64 (Q1.getD zeroAt).tg] 24))
      replace HRp := Lib.hid ((HRp.out.below hb1).alloc (.cells #[.slice P2 m2 d2, .int .i64 (Q1.getD zeroAt).sq, .int .i64 (Q1.getD zeroAt).tg] 24))
      replace HLx := Lib.hid (lies_upa (lies_up HLx.out hb1) (.cells #[.slice P2 m2 d2, .int .i64 (Q1.getD zeroAt).sq, .int .i64 (Q1.getD zeroAt).tg] 24))
      replace HLo := Lib.hid (lies_upa (lies_up HLo.out hb1) (.cells #[.slice P2 m2 d2, .int .i64 (Q1.getD zeroAt).sq, .int .i64 (Q1.getD zeroAt).tg] 24))
      replace HBW := Lib.hid (bel_alloc (bel_trans HBW.out hb1) (.cells #[.slice P2 m2 d2, .int .i64 (Q1.getD zeroAt).sq, .int .i64 (Q1.getD zeroAt).tg] 24))
      clear x20 x21 x22 x23
      clear hb1 HT2 hx
      have HK12 := HN
      have HRq := HRN
      clear HN HRN
      obtain ⟨x20, x21, x22, x23⟩ := blk4 HK2.out
      go_wp2_with fail
      refine (HT3.out _ HLx.out).mono ?_
      rintro e u3 ⟨P3, m3, d3, rfl, hx, hb1, -⟩
      have HN := Lib.hid (Blk.new u3 24 #[.slice P3 m3 d3, .int .i64 (Q2.getD zeroAt).sq, .int .i64 (Q2.getD zeroAt).tg])
      have HRN := Lib.hid (hx.alloc (.cells #[.slice P3 m3 d3, .int .i64 (Q2.getD zeroAt).sq, .int .i64 (Q2.getD zeroAt).tg] 24))
      replace HK1 := Lib.hid ((HK1.out.bel hb1).alloc (.cells #[.slice P3 m3 d3, .int .i64 (Q2.getD zeroAt).sq, .int .i64 (Q2.getD zeroAt).tg] 24))
      replace HK2 := Lib.hid ((HK2.out.bel hb1).alloc (.cells #[.slice P3 m3 d3, .int .i64 (Q2.getD zeroAt).sq, .int .i64 (Q2.getD zeroAt).tg] 24))
      replace HK3 := Lib.hid ((HK3.out.bel hb1).alloc (.cells #[.slice P3 m3 d3, .int .i64 (Q2.getD zeroAt).sq, .int .i64 (Q2.getD zeroAt).tg] 24))
      replace HK11 := Lib.hid ((HK11.out.bel hb1).alloc (.cells #[.slice P3 m3 d3, .int .i64 (Q2.getD zeroAt).sq, .int .i64 (Q2.getD zeroAt).tg] 24))
      replace HK12 := Lib.hid ((HK12.out.bel hb1).alloc (.cells #[.slice P3 m3 d3, .int .i64 (Q2.getD zeroAt).sq, .int .i64 (Q2.getD zeroAt).tg] 24))
      replace HRa := Lib.hid ((HRa.out.below hb1).alloc (.cells #[.slice P3 m3 d3, .int .i64 (Q2.getD zeroAt).sq, .int .i64 (Q2.getD zeroAt).tg] 24))
      replace HRp := Lib.hid ((HRp.out.below hb1).alloc (.cells #[.slice P3 m3 d3, .int .i64 (Q2.getD zeroAt).sq, .int .i64 (Q2.getD zeroAt).tg] 24))
      replace HRq := Lib.hid ((HRq.out.below hb1).alloc (.cells #[.slice P3 m3 d3, .int .i64 (Q2.getD zeroAt).sq, .int .i64 (Q2.getD zeroAt).tg] 24))
      replace HLx := Lib.hid (lies_upa (lies_up HLx.out hb1) (.cells #[.slice P3 m3 d3, .int .i64 (Q2.getD zeroAt).sq, .int .i64 (Q2.getD zeroAt).tg] 24))
      replace HLo := Lib.hid (lies_upa (lies_up HLo.out hb1) (.cells #[.slice P3 m3 d3, .int .i64 (Q2.getD zeroAt).sq, .int .i64 (Q2.getD zeroAt).tg] 24))
      replace HBW := Lib.hid (bel_alloc (bel_trans HBW.out hb1) (.cells #[.slice P3 m3 d3, .int .i64 (Q2.getD zeroAt).sq, .int .i64 (Q2.getD zeroAt).tg] 24))
      clear x20 x21 x22 x23
      clear hb1 HT3 hx
      have HK13 := HN
      have HRf := HRN
      clear HN HRN
      obtain ⟨x20, x21, x22, x23⟩ := blk4 HK2.out
      go_wp2_with fail
      refine (HT4.out _ HLx.out).mono ?_
      rintro e u4 ⟨P4, m4, d4, rfl, hx, hb1, -⟩
      have HN := Lib.hid (Blk.new u4 24 #[.slice P4 m4 d4, .int .i64 (Q2.getD zeroAt).sq, .int .i64 (Q2.getD zeroAt).tg])
      have HRN := Lib.hid (hx.alloc (.cells #[.slice P4 m4 d4, .int .i64 (Q2.getD zeroAt).sq, .int .i64 (Q2.getD zeroAt).tg] 24))
      replace HK1 := Lib.hid ((HK1.out.bel hb1).alloc (.cells #[.slice P4 m4 d4, .int .i64 (Q2.getD zeroAt).sq, .int .i64 (Q2.getD zeroAt).tg] 24))
      replace HK2 := Lib.hid ((HK2.out.bel hb1).alloc (.cells #[.slice P4 m4 d4, .int .i64 (Q2.getD zeroAt).sq, .int .i64 (Q2.getD zeroAt).tg] 24))
      replace HK3 := Lib.hid ((HK3.out.bel hb1).alloc (.cells #[.slice P4 m4 d4, .int .i64 (Q2.getD zeroAt).sq, .int .i64 (Q2.getD zeroAt).tg] 24))
      replace HK11 := Lib.hid ((HK11.out.bel hb1).alloc (.cells #[.slice P4 m4 d4, .int .i64 (Q2.getD zeroAt).sq, .int .i64 (Q2.getD zeroAt).tg] 24))
      replace HK12 := Lib.hid ((HK12.out.bel hb1).alloc (.cells #[.slice P4 m4 d4, .int .i64 (Q2.getD zeroAt).sq, .int .i64 (Q2.getD zeroAt).tg] 24))
      replace HK13 := Lib.hid ((HK13.out.bel hb1).alloc (.cells #[.slice P4 m4 d4, .int .i64 (Q2.getD zeroAt).sq, .int .i64 (Q2.getD zeroAt).tg] 24))
      replace HRa := Lib.hid ((HRa.out.below hb1).alloc (.cells #[.slice P4 m4 d4, .int .i64 (Q2.getD zeroAt).sq, .int .i64 (Q2.getD zeroAt).tg] 24))
      replace HRp := Lib.hid ((HRp.out.below hb1).alloc (.cells #[.slice P4 m4 d4, .int .i64 (Q2.getD zeroAt).sq, .int .i64 (Q2.getD zeroAt).tg] 24))
      replace HRq := Lib.hid ((HRq.out.below hb1).alloc (.cells #[.slice P4 m4 d4, .int .i64 (Q2.getD zeroAt).sq, .int .i64 (Q2.getD zeroAt).tg] 24))
      replace HRf := Lib.hid ((HRf.out.below hb1).alloc (.cells #[.slice P4 m4 d4, .int .i64 (Q2.getD zeroAt).sq, .int .i64 (Q2.getD zeroAt).tg] 24))
      replace HLx := Lib.hid (lies_upa (lies_up HLx.out hb1) (.cells #[.slice P4 m4 d4, .int .i64 (Q2.getD zeroAt).sq, .int .i64 (Q2.getD zeroAt).tg] 24))
      replace HLo := Lib.hid (lies_upa (lies_up HLo.out hb1) (.cells #[.slice P4 m4 d4, .int .i64 (Q2.getD zeroAt).sq, .int .i64 (Q2.getD zeroAt).tg] 24))
      replace HBW := Lib.hid (bel_alloc (bel_trans HBW.out hb1) (.cells #[.slice P4 m4 d4, .int .i64 (Q2.getD zeroAt).sq, .int .i64 (Q2.getD zeroAt).tg] 24))
      clear x20 x21 x22 x23
      clear hb1 HT4 hx
      have HK14 := HN
      have HRh := HRN
      clear HN HRN
      obtain ⟨x110, x111, x112⟩ := blk3 HK11.out
      obtain ⟨x120, x121, x122⟩ := blk3 HK12.out
      go_wp2_with fail
      refine (HS1.out _ _ _ _ _ _ _ HRp.out HRq.out).mono ?_
      rintro e u5 ⟨rfl, hb1⟩
      replace HK1 := Lib.hid ((HK1.out.bel hb1))
      replace HK2 := Lib.hid ((HK2.out.bel hb1))
      replace HK3 := Lib.hid ((HK3.out.bel hb1))
      replace HK11 := Lib.hid ((HK11.out.bel hb1))
      replace HK12 := Lib.hid ((HK12.out.bel hb1))
      replace HK13 := Lib.hid ((HK13.out.bel hb1))
      replace HK14 := Lib.hid ((HK14.out.bel hb1))
      replace HRa := Lib.hid ((HRa.out.below hb1))
      replace HRp := Lib.hid ((HRp.out.below hb1))
      replace HRq := Lib.hid ((HRq.out.below hb1))
      replace HRf := Lib.hid ((HRf.out.below hb1))
      replace HRh := Lib.hid ((HRh.out.below hb1))
      replace HLx := Lib.hid (lies_up HLx.out hb1)
      replace HLo := Lib.hid (lies_up HLo.out hb1)
      replace HBW := Lib.hid (bel_trans HBW.out hb1)
      clear x110 x111 x112 x120 x121 x122
      clear hb1 HS1
      obtain ⟨x130, x131, x132⟩ := blk3 HK13.out
      obtain ⟨x140, x141, x142⟩ := blk3 HK14.out
      go_wp2_with fail
      refine (HS2.out _ _ _ _ _ _ _ HRf.out HRh.out).mono ?_
      rintro e u6 ⟨rfl, hb1⟩
      replace HK1 := Lib.hid ((HK1.out.bel hb1))
      replace HK2 := Lib.hid ((HK2.out.bel hb1))
      replace HK3 := Lib.hid ((HK3.out.bel hb1))
      replace HK11 := Lib.hid ((HK11.out.bel hb1))
      replace HK12 := Lib.hid ((HK12.out.bel hb1))
      replace HK13 := Lib.hid ((HK13.out.bel hb1))
      replace HK14 := Lib.hid ((HK14.out.bel hb1))
      replace HRa := Lib.hid ((HRa.out.below hb1))
      replace HRp := Lib.hid ((HRp.out.below hb1))
      replace HRq := Lib.hid ((HRq.out.below hb1))
      replace HRf := Lib.hid ((HRf.out.below hb1))
      replace HRh := Lib.hid ((HRh.out.below hb1))
      replace HLx := Lib.hid (lies_up HLx.out hb1)
      replace HLo := Lib.hid (lies_up HLo.out hb1)
      replace HBW := Lib.hid (bel_trans HBW.out hb1)
      clear x130 x131 x132 x140 x141 x142
      clear hb1 HS2
      go_wp2_with fail
      refine (HA.out _).mono ?_
      rintro e u7 ⟨rfl, hb1⟩
      replace HK1 := Lib.hid ((HK1.out.bel hb1))
      replace HK2 := Lib.hid ((HK2.out.bel hb1))
      replace HK3 := Lib.hid ((HK3.out.bel hb1))
      replace HK11 := Lib.hid ((HK11.out.bel hb1))
      replace HK12 := Lib.hid ((HK12.out.bel hb1))
      replace HK13 := Lib.hid ((HK13.out.bel hb1))
      replace HK14 := Lib.hid ((HK14.out.bel hb1))
      replace HRa := Lib.hid ((HRa.out.below hb1))
      replace HRp := Lib.hid ((HRp.out.below hb1))
      replace HRq := Lib.hid ((HRq.out.below hb1))
      replace HRf := Lib.hid ((HRf.out.below hb1))
      replace HRh := Lib.hid ((HRh.out.below hb1))
      replace HLx := Lib.hid (lies_up HLx.out hb1)
      replace HLo := Lib.hid (lies_up HLo.out hb1)
      replace HBW := Lib.hid (bel_trans HBW.out hb1)
      clear hb1
      go_wp2_with fail
      go_ret
      exact ⟨rfl, HBW.out⟩
    · have b3 : (t != 1) = true := bne_iff_ne.2 ht
      clear ht
      obtain ⟨x10, x11, x12⟩ := blk3 HK1.out
      go_wp2_with fail
      refine (HO.out _ HRa.out).mono ?_
      rintro e w2 ⟨VO, cO, rfl, ho, hb1⟩
      simp only at ho ⊢
      have HN := Lib.hid (Blk.new w2 37 #[.int .i64 O.kind, .int .u64 (O.num : Int), .string O.str, .slice VO O.kids.length cO])
      have HLN := Lib.hid (lies_upa (ho.more (S' := fun b => b < w2.heap.size) fun b hb _ => hb.2) (.cells #[.int .i64 O.kind, .int .u64 (O.num : Int), .string O.str, .slice VO O.kids.length cO] 37))
      replace HK1 := Lib.hid ((HK1.out.bel hb1).alloc (.cells #[.int .i64 O.kind, .int .u64 (O.num : Int), .string O.str, .slice VO O.kids.length cO] 37))
      replace HK2 := Lib.hid ((HK2.out.bel hb1).alloc (.cells #[.int .i64 O.kind, .int .u64 (O.num : Int), .string O.str, .slice VO O.kids.length cO] 37))
      replace HRa := Lib.hid ((HRa.out.below hb1).alloc (.cells #[.int .i64 O.kind, .int .u64 (O.num : Int), .string O.str, .slice VO O.kids.length cO] 37))
      replace HLx := Lib.hid (lies_upa (lies_up HLx.out hb1) (.cells #[.int .i64 O.kind, .int .u64 (O.num : Int), .string O.str, .slice VO O.kids.length cO] 37))
      replace HBW := Lib.hid (bel_alloc (bel_trans HBW.out hb1) (.cells #[.int .i64 O.kind, .int .u64 (O.num : Int), .string O.str, .slice VO O.kids.length cO] 37))
      clear x10 x11 x12
      clear hb1 HO ho
      have HK3 := HN
      have HLo := HLN
      clear HN HLN
      obtain ⟨x10, x11, x12⟩ := blk3 HK1.out
      go_wp2_with fail
      refine (HC.out _ HRa.out).mono ?_
      rintro e w3 ⟨rfl, hb1⟩
      replace HK1 := Lib.hid ((HK1.out.bel hb1))
      replace HK2 := Lib.hid ((HK2.out.bel hb1))
      replace HK3 := Lib.hid ((HK3.out.bel hb1))
      replace HRa := Lib.hid ((HRa.out.below hb1))
      replace HLx := Lib.hid (lies_up HLx.out hb1)
      replace HLo := Lib.hid (lies_up HLo.out hb1)
      replace HBW := Lib.hid (bel_trans HBW.out hb1)
      clear x10 x11 x12
      clear hb1
      obtain ⟨x10, x11, x12⟩ := blk3 HK1.out
      go_wp2_with fail
      refine (HC.out _ HRa.out).mono ?_
      rintro e w4 ⟨rfl, hb1⟩
      replace HK1 := Lib.hid ((HK1.out.bel hb1))
      replace HK2 := Lib.hid ((HK2.out.bel hb1))
      replace HK3 := Lib.hid ((HK3.out.bel hb1))
      replace HRa := Lib.hid ((HRa.out.below hb1))
      replace HLx := Lib.hid (lies_up HLx.out hb1)
      replace HLo := Lib.hid (lies_up HLo.out hb1)
      replace HBW := Lib.hid (bel_trans HBW.out hb1)
      clear x10 x11 x12
      clear hb1 HC
      obtain ⟨x20, x21, x22, x23⟩ := blk4 HK2.out
      go_wp2_with fail
      refine (HT1.out _ HLx.out).mono ?_
      rintro e u1 ⟨P1, m1, d1, rfl, hx, hb1, -⟩
      have HN := Lib.hid (Blk.new u1 24 #[.slice P1 m1 d1, .int .i64 (Q1.getD zeroAt).sq, .int .i64 (Q1.getD zeroAt).tg])
      have HRN := Lib.hid (hx.alloc (.cells #[.slice P1 m1 d1, .int .i64 (Q1.getD zeroAt).sq, .int .i64 (Q1.getD zeroAt).tg] 24))
      replace HK1 := Lib.hid ((HK1.out.bel hb1).alloc (.cells #[.slice P1 m1 d1, .int .i64 (Q1.getD zeroAt).sq, .int .i64 (Q1.getD zeroAt).tg] 24))
      replace HK2 := Lib.hid ((HK2.out.bel hb1).alloc (.cells #[.slice P1 m1 d1, .int .i64 (Q1.getD zeroAt).sq, .int .i64 (Q1.getD zeroAt).tg] 24))
      replace HK3 := Lib.hid ((HK3.out.bel hb1).alloc (.cells #[.slice P1 m1 d1, .int .i64 (Q1.getD zeroAt).sq, .int .i64 (Q1.getD zeroAt).tg] 24))
      replace HRa := Lib.hid ((HRa.out.below hb1).alloc (.cells #[.slice P1 m1 d1, .int .i64 (Q1.getD zeroAt).sq, .int .i64 (Q1.getD zeroAt).tg] 24))
      replace HLx := Lib.hid (lies_upa (lies_up HLx.out hb1) (.cells #[.slice P1 m1 d1, .int .i64 (Q1.getD zeroAt).sq, .int .i64 (Q1.getD zeroAt).tg] 24))
      replace HLo := Lib.hid (lies_upa (lies_up HLo.out hb1) (.cells #[.slice P1 m1 d1, .int .i64 (Q1.getD zeroAt).sq, .int .i64 (Q1.getD zeroAt).tg] 24))
      replace HBW := Lib.hid (bel_alloc (bel_trans HBW.out hb1) (.cells #[.slice P1 m1 d1, .int .i64 (Q1.getD zeroAt).sq, .int .i64 (Q1.getD zeroAt).tg] 24))
      clear x20 x21 x22 x23
      clear hb1 HT1 hx
      have HK11 := HN
      have HRp := HRN
      clear HN HRN
      obtain ⟨x20, x21, x22, x23⟩ := blk4 HK2.out
      go_wp2_with fail
      refine (HT2.out _ HLx.out).mono ?_
      rintro e u2 ⟨P2, m2, d2, rfl, hx, hb1, -⟩
      have HN := Lib.hid (Blk.new u2 24 #[.slice P2 m2 d2, .int .i64 (Q1.getD zeroAt).sq, .int .i64 (Q1.getD zeroAt).tg])
      have HRN := Lib.hid (hx.alloc (.cells #[.slice P2 m2 d2, .int .i64 (Q1.getD zeroAt).sq, .int .i64 (Q1.getD zeroAt).tg] 24))
      replace HK1 := Lib.hid ((HK1.out.bel hb1).alloc (.cells #[.slice P2 m2 d2, .int .i64 (Q1.getD zeroAt).sq, .int .i64 (Q1.getD zeroAt).tg] 24))
      replace HK2 := Lib.hid ((HK2.out.bel hb1).alloc (.cells #[.slice P2 m2 d2, .int .i64 (Q1.getD zeroAt).sq, .int .i64 (Q1.getD zeroAt).tg] 24))
      replace HK3 := Lib.hid ((HK3.out.bel hb1).alloc (.cells #[.slice P2 m2 d2, .int .i64 (Q1.getD zeroAt).sq, .int .i64 (Q1.getD zeroAt).tg] 24))
      replace HK11 := Lib.hid ((HK11.out.bel hb1).alloc (.cells #[.slice P2 m2 d2, .int .i64 (Q1.getD zeroAt).sq, .int .i64 (Q1.getD zeroAt).tg] 24))
      replace HRa := Lib.hid ((HRa.out.below hb1).alloc (.cells #[.slice P2 m2 d2, .int .i64 (Q1.getD zeroAt).sq, .int .i64 (Q1.getD zeroAt).tg] 24))
      replace HRp := Lib.hid ((HRp.out.below hb1).alloc (.cells #[.slice P2 m2 d2, .int .i64 (Q1.getD zeroAt).sq, .int .i64 (Q1.getD zeroAt).tg] 24))
      replace HLx := Lib.hid (lies_upa (lies_up HLx.out hb1) (.cells #[.slice P2 m2 d2, .int .i64 (Q1.getD zeroAt).sq, .int .i64 (Q1.getD zeroAt).tg] 24))
      replace HLo := Lib.hid (lies_upa (lies_up HLo.out hb1) (.cells #[.slice P2 m2 d2, .int .i64 (Q1.getD zeroAt).sq, .int .i64 (Q1.getD zeroAt).tg] 24))
      replace HBW := Lib.hid (bel_alloc (bel_trans HBW.out hb1) (.cells #[.slice P2 m2 d2, .int .i64 (Q1.getD zeroAt).sq, .int .i64 (Q1.getD zeroAt).tg] 24))
      clear x20 x21 x22 x23
      clear hb1 HT2 hx
      have HK12 := HN
      have HRq := HRN
      clear HN HRN
      obtain ⟨x20, x21, x22, x23⟩ := blk4 HK2.out
      go_wp2_with fail
      refine (HT3.out _ HLx.out).mono ?_
      rintro e u3 ⟨P3, m3, d3, rfl, hx, hb1, -⟩
      have HN := Lib.hid (Blk.new u3 24 #[.slice P3 m3 d3, .int .i64 (Q2.getD zeroAt).sq, .int .i64 (Q2.getD zeroAt).tg])
      have HRN := Lib.hid (hx.alloc (.cells #[.slice P3 m3 d3, .int .i64 (Q2.getD zeroAt).sq, .int .i64 (Q2.getD zeroAt).tg] 24))
      replace HK1 := Lib.hid ((HK1.out.bel hb1).alloc (.cells #[.slice P3 m3 d3, .int .i64 (Q2.getD zeroAt).sq, .int .i64 (Q2.getD zeroAt).tg] 24))
      replace HK2 := Lib.hid ((HK2.out.bel hb1).alloc (.cells #[.slice P3 m3 d3, .int .i64 (Q2.getD zeroAt).sq, .int .i64 (Q2.getD zeroAt).tg] 24))
      replace HK3 := Lib.hid ((HK3.out.bel hb1).alloc (.cells #[.slice P3 m3 d3, .int .i64 (Q2.getD zeroAt).sq, .int .i64 (Q2.getD zeroAt).tg] 24))
      replace HK11 := Lib.hid ((HK11.out.bel hb1).alloc (.cells #[.slice P3 m3 d3, .int .i64 (Q2.getD zeroAt).sq, .int .i64 (Q2.getD zeroAt).tg] 24))
      replace HK12 := Lib.hid ((HK12.out.bel hb1).alloc (.cells #[.slice P3 m3 d3, .int .i64 (Q2.getD zeroAt).sq, .int .i64 (Q2.getD zeroAt).tg] 24))
      replace HRa := Lib.hid ((HRa.out.below hb1).alloc (.cells #[.slice P3 m3 d3, .int .i64 (Q2.getD zeroAt).sq, .int .i64 (Q2.getD zeroAt).tg] 24))
      replace HRp := Lib.hid ((HRp.out.below hb1).alloc (.cells #[.slice P3 m3 d3, .int .i64 (Q2.getD zeroAt).sq, .int .i64 (Q2.getD zeroAt).tg] 24))
      replace HRq := Lib.hid ((HRq.out.below hb1).alloc (.cells #[.slice P3 m3 d3, .int .i64 (Q2.getD zeroAt).sq, .int .i64 (Q2.getD zeroAt).tg] 24))
      replace HLx := Lib.hid (lies_upa (lies_up HLx.out hb1) (.cells #[.slice P3 m3 d3, .int .i64 (Q2.getD zeroAt).sq, .int .i64 (Q2.getD zeroAt).tg] 24))
      replace HLo := Lib.hid (lies_upa (lies_up HLo.out hb1) (.cells #[.slice P3 m3 d3, .int .i64 (Q2.getD zeroAt).sq, .int .i64 (Q2.getD zeroAt).tg] 24))
      replace HBW := Lib.hid (bel_alloc (bel_trans HBW.out hb1) (.cells #[.slice P3 m3 d3, .int .i64 (Q2.getD zeroAt).sq, .int .i64 (Q2.getD zeroAt).tg] 24))
      clear x20 x21 x22 x23
      clear hb1 HT3 hx
      have HK13 := HN
      have HRf := HRN
      clear HN HRN
      obtain ⟨x20, x21, x22, x23⟩ := blk4 HK2.out
      go_wp2_with fail
      refine (HT4.out _ HLx.out).mono ?_
      rintro e u4 ⟨P4, m4, d4, rfl, hx, hb1, -⟩
      have HN := Lib.hid (Blk.new u4 24 #[.slice P4 m4 d4, .int .i64 (Q2.getD zeroAt).sq, .int .i64 (Q2.getD zeroAt).tg])
      have HRN := Lib.hid (hx.alloc (.cells #[.slice P4 m4 d4, .int .i64 (Q2.getD zeroAt).sq, .int .i64 (Q2.getD zeroAt).tg] 24))
      replace HK1 := Lib.hid ((HK1.out.bel hb1).alloc (.cells #[.slice P4 m4 d4, .int .i64 (Q2.getD zeroAt).sq, .int .i64 (Q2.getD zeroAt).tg] 24))
      replace HK2 := Lib.hid ((HK2.out.bel hb1).alloc (.cells #[.slice P4 m4 d4, .int .i64 (Q2.getD zeroAt).sq, .int .i64 (Q2.getD zeroAt).tg] 24))
      replace HK3 := Lib.hid ((HK3.out.bel hb1).alloc (.cells #[.slice P4 m4 d4, .int .i64 (Q2.getD zeroAt).sq, .int .i64 (Q2.getD zeroAt).tg] 24))
      replace HK11 := Lib.hid ((HK11.out.bel hb1).alloc (.cells #[.slice P4 m4 d4, .int .i64 (Q2.getD zeroAt).sq, .int .i64 (Q2.getD zeroAt).tg] 24))
      replace HK12 := Lib.hid ((HK12.out.bel hb1).alloc (.cells #[.slice P4 m4 d4, .int .i64 (Q2.getD zeroAt).sq, .int .i64 (Q2.getD zeroAt).tg] 24))
      replace HK13 := Lib.hid ((HK13.out.bel hb1).alloc (.cells #[.slice P4 m4 d4, .int .i64 (Q2.getD zeroAt).sq, .int .i64 (Q2.getD zeroAt).tg] 24))
      replace HRa := Lib.hid ((HRa.out.below hb1).alloc (.cells #[.slice P4 m4 d4, .int .i64 (Q2.getD zeroAt).sq, .int .i64 (Q2.getD zeroAt).tg] 24))
      replace HRp := Lib.hid ((HRp.out.below hb1).alloc (.cells #[.slice P4 m4 d4, .int .i64 (Q2.getD zeroAt).sq, .int .i64 (Q2.getD zeroAt).tg] 24))
      replace HRq := Lib.hid ((HRq.out.below hb1).alloc (.cells #[.slice P4 m4 d4, .int .i64 (Q2.getD zeroAt).sq, .int .i64 (Q2.getD zeroAt).tg] 24))
      replace HRf := Lib.hid ((HRf.out.below hb1).alloc (.cells #[.slice P4 m4 d4, .int .i64 (Q2.getD zeroAt).sq, .int .i64 (Q2.getD zeroAt).tg] 24))
      replace HLx := Lib.hid (lies_upa (lies_up HLx.out hb1) (.cells #[.slice P4 m4 d4, .int .i64 (Q2.getD zeroAt).sq, .int .i64 (Q2.getD zeroAt).tg] 24))
      replace HLo := Lib.hid (lies_upa (lies_up HLo.out hb1) (.cells #[.slice P4 m4 d4, .int .i64 (Q2.getD zeroAt).sq, .int .i64 (Q2.getD zeroAt).tg] 24))
      replace HBW := Lib.hid (bel_alloc (bel_trans HBW.out hb1) (.cells #[.slice P4 m4 d4, .int .i64 (Q2.getD zeroAt).sq, .int .i64 (Q2.getD zeroAt).tg] 24))
      clear x20 x21 x22 x23
      clear hb1 HT4 hx
      have HK14 := HN
      have HRh := HRN
      clear HN HRN
      obtain ⟨x110, x111, x112⟩ := blk3 HK11.out
      obtain ⟨x120, x121, x122⟩ := blk3 HK12.out
      go_wp2_with fail
      refine (HS1.out _ _ _ _ _ _ _ HRp.out HRq.out).mono ?_
      rintro e u5 ⟨rfl, hb1⟩
      replace HK1 := Lib.hid ((HK1.out.bel hb1))
      replace HK2 := Lib.hid ((HK2.out.bel hb1))
      replace HK3 := Lib.hid ((HK3.out.bel hb1))
      replace HK11 := Lib.hid ((HK11.out.bel hb1))
      replace HK12 := Lib.hid ((HK12.out.bel hb1))
      replace HK13 := Lib.hid ((HK13.out.bel hb1))
      replace HK14 := Lib.hid ((HK14.out.bel hb1))
      replace HRa := Lib.hid ((HRa.out.below hb1))
      replace HRp := Lib.hid ((HRp.out.below hb1))
      replace HRq := Lib.hid ((HRq.out.below hb1))
      replace HRf := Lib.hid ((HRf.out.below hb1))
      replace HRh := Lib.hid ((HRh.out.below hb1))
      replace HLx := Lib.hid (lies_up HLx.out hb1)
      replace HLo := Lib.hid (lies_up HLo.out hb1)
      replace HBW := Lib.hid (bel_trans HBW.out hb1)
      clear x110 x111 x112 x120 x121 x122
      clear hb1 HS1
      obtain ⟨x130, x131, x132⟩ := blk3 HK13.out
      obtain ⟨x140, x141, x142⟩ := blk3 HK14.out
      go_wp2_with fail
      refine (HS2.out _ _ _ _ _ _ _ HRf.out HRh.out).mono ?_
      rintro e u6 ⟨rfl, hb1⟩
      replace HK1 := Lib.hid ((HK1.out.bel hb1))
      replace HK2 := Lib.hid ((HK2.out.bel hb1))
      replace HK3 := Lib.hid ((HK3.out.bel hb1))
      replace HK11 := Lib.hid ((HK11.out.bel hb1))
      replace HK12 := Lib.hid ((HK12.out.bel hb1))
      replace HK13 := Lib.hid ((HK13.out.bel hb1))
      replace HK14 := Lib.hid ((HK14.out.bel hb1))
      replace HRa := Lib.hid ((HRa.out.below hb1))
      replace HRp := Lib.hid ((HRp.out.below hb1))
      replace HRq := Lib.hid ((HRq.out.below hb1))
      replace HRf := Lib.hid ((HRf.out.below hb1))
      replace HRh := Lib.hid ((HRh.out.below hb1))
      replace HLx := Lib.hid (lies_up HLx.out hb1)
      replace HLo := Lib.hid (lies_up HLo.out hb1)
      replace HBW := Lib.hid (bel_trans HBW.out hb1)
      clear x130 x131 x132 x140 x141 x142
      clear hb1 HS2
      go_wp2_with fail
      refine (HA.out _).mono ?_
      rintro e u7 ⟨rfl, hb1⟩
      replace HK1 := Lib.hid ((HK1.out.bel hb1))
      replace HK2 := Lib.hid ((HK2.out.bel hb1))
      replace HK3 := Lib.hid ((HK3.out.bel hb1))
      replace HK11 := Lib.hid ((HK11.out.bel hb1))
      replace HK12 := Lib.hid ((HK12.out.bel hb1))
      replace HK13 := Lib.hid ((HK13.out.bel hb1))
      replace HK14 := Lib.hid ((HK14.out.bel hb1))
      replace HRa := Lib.hid ((HRa.out.below hb1))
      replace HRp := Lib.hid ((HRp.out.below hb1))
      replace HRq := Lib.hid ((HRq.out.below hb1))
      replace HRf := Lib.hid ((HRf.out.below hb1))
      replace HRh := Lib.hid ((HRh.out.below hb1))
      replace HLx := Lib.hid (lies_up HLx.out hb1)
      replace HLo := Lib.hid (lies_up HLo.out hb1)
      replace HBW := Lib.hid (bel_trans HBW.out hb1)
      clear hb1
      go_wp2_with fail
      go_ret
      exact ⟨rfl, HBW.out⟩
  have hput := att_put hc
  have hwt := wt_att hc
  have HI1 := Lib.hid (fun w (h : Rs w A n c l) => attitem_any l s t A n c w h)
  have HI2 := Lib.hid (fun w (h : Rs w A n c l) => refattitem_any l s t A n c w h hc)
  rw [show attItem ⟨l, s, t⟩ = attIt ⟨l, s, t⟩ by rw [attItem, if_pos hc]] at HI1
  have hold := fun ht => old_put (a := ⟨l, s, t⟩) hc ht
  have HRO := Lib.hid (fun w (h : Rs w A n c l) => refattold_any l s t A n c w h hc)
  have hao : attOld ⟨l, s, t⟩ = if t = 1 then (oldIt ⟨l, s, t⟩, 0) else (zeroIt, 17) := by rw [attOld, if_pos hc]
  obtain ⟨y, hy⟩ : ∃ y, attIt ⟨l, s, t⟩ = y := ⟨_, rfl⟩
  obtain ⟨z, hz⟩ : ∃ z, oldIt ⟨l, s, t⟩ = z := ⟨_, rfl⟩
  rw [hy] at hput hwt HI1 HI2
  rw [hz] at hold hwt HRO hao
  have hty := fun w V k (h : Lies w (fun b => b < w.heap.size) y V k) => atttake_any y V k _ w h fun _ h => h
  rw [hput] at hty
  have HTY := Lib.hid hty
  have hyy := fun w V k V' k' (h : Lies w (fun b => b < w.heap.size) y V k) (h' : Lies w (fun b => b < w.heap.size) y V' k') => same_item y y V V' k k' _ w h h' (fun _ h => h) hwt.1
  rw [(same_iff y y).2 rfl] at hyy
  have HYY := Lib.hid hyy
  have hsa := fun w V k d (h : Rs w A n c l) (h' : Rs w V k d l) => refasame_any l s t A n c l s t V k d w h h'
  rw [asame_self] at hsa
  have HSA := Lib.hid hsa
  have hcc := fun w (h : Rs w A n c l) => HC.out w h
  rw [hc] at hcc
  replace HC := Lib.hid hcc
  have HIA := HI1
  have HSB := HSA
  have HCB := HC
  have HCC := HC
  clear hput hty hyy hsa hcc hy hc
  by_cases ht : t = 1
  case neg =>
    have b3 : (t != 1) = true := bne_iff_ne.2 ht
    rw [if_neg ht] at hao
    rw [hao] at HO
    obtain ⟨O, hO⟩ : ∃ O, zeroIt = O := ⟨_, rfl⟩
    rw [hO] at HO
    clear hao hold HRO ht hO hwt hz
    obtain ⟨x10, x11, x12⟩ := blk3 HK1.out
    go_wp2_with fail
    refine (HO.out _ HRa.out).mono ?_
    rintro e w2 ⟨VO, cO, rfl, ho, hb1⟩
    simp only at ho ⊢
    have HN := Lib.hid (Blk.new w2 37 #[.int .i64 O.kind, .int .u64 (O.num : Int), .string O.str, .slice VO O.kids.length cO])
    have HLN := Lib.hid (lies_upa (ho.more (S' := fun b => b < w2.heap.size) fun b hb _ => hb.2) (.cells #[.int .i64 O.kind, .int .u64 (O.num : Int), .string O.str, .slice VO O.kids.length cO] 37))
    replace HK1 := Lib.hid ((HK1.out.bel hb1).alloc (.cells #[.int .i64 O.kind, .int .u64 (O.num : Int), .string O.str, .slice VO O.kids.length cO] 37))
    replace HK2 := Lib.hid ((HK2.out.bel hb1).alloc (.cells #[.int .i64 O.kind, .int .u64 (O.num : Int), .string O.str, .slice VO O.kids.length cO] 37))
    replace HRa := Lib.hid ((HRa.out.below hb1).alloc (.cells #[.int .i64 O.kind, .int .u64 (O.num : Int), .string O.str, .slice VO O.kids.length cO] 37))
    replace HLx := Lib.hid (lies_upa (lies_up HLx.out hb1) (.cells #[.int .i64 O.kind, .int .u64 (O.num : Int), .string O.str, .slice VO O.kids.length cO] 37))
    replace HBW := Lib.hid (bel_alloc (bel_trans HBW.out hb1) (.cells #[.int .i64 O.kind, .int .u64 (O.num : Int), .string O.str, .slice VO O.kids.length cO] 37))
    clear x10 x11 x12
    clear hb1 HO ho
    have HK3 := HN
    have HLo := HLN
    clear HN HLN
    obtain ⟨x10, x11, x12⟩ := blk3 HK1.out
    go_wp2_with fail
    refine (HC.out _ HRa.out).mono ?_
    rintro e w3 ⟨rfl, hb1⟩
    replace HK1 := Lib.hid ((HK1.out.bel hb1))
    replace HK2 := Lib.hid ((HK2.out.bel hb1))
    replace HK3 := Lib.hid ((HK3.out.bel hb1))
    replace HRa := Lib.hid ((HRa.out.below hb1))
    replace HLx := Lib.hid (lies_up HLx.out hb1)
    replace HLo := Lib.hid (lies_up HLo.out hb1)
    replace HBW := Lib.hid (bel_trans HBW.out hb1)
    clear x10 x11 x12
    clear hb1 HC
    obtain ⟨x10, x11, x12⟩ := blk3 HK1.out
    go_wp2_with fail
    refine (HCB.out _ HRa.out).mono ?_
    rintro e w4 ⟨rfl, hb1⟩
    replace HK1 := Lib.hid ((HK1.out.bel hb1))
    replace HK2 := Lib.hid ((HK2.out.bel hb1))
    replace HK3 := Lib.hid ((HK3.out.bel hb1))
    replace HRa := Lib.hid ((HRa.out.below hb1))
    replace HLx := Lib.hid (lies_up HLx.out hb1)
    replace HLo := Lib.hid (lies_up HLo.out hb1)
    replace HBW := Lib.hid (bel_trans HBW.out hb1)
    clear x10 x11 x12
    clear hb1 HCB
    obtain ⟨x10, x11, x12⟩ := blk3 HK1.out
    go_wp2_with fail
    refine (HI1.out _ HRa.out).mono ?_
    rintro e w5 ⟨VI, cI, rfl, hi, hb1⟩
    have HLi := Lib.hid (hi.more (S' := fun b => b < w5.heap.size) fun b hb _ => hb.2)
    replace HK1 := Lib.hid ((HK1.out.bel hb1))
    replace HK2 := Lib.hid ((HK2.out.bel hb1))
    replace HK3 := Lib.hid ((HK3.out.bel hb1))
    replace HRa := Lib.hid ((HRa.out.below hb1))
    replace HLx := Lib.hid (lies_up HLx.out hb1)
    replace HLo := Lib.hid (lies_up HLo.out hb1)
    replace HBW := Lib.hid (bel_trans HBW.out hb1)
    clear x10 x11 x12
    clear hb1 hi HI1
    go_wp2_with fail
    refine (HTY.out _ _ _ HLi.out).mono ?_
    rintro e w6 ⟨P0, m0, d0, rfl, hx, hb1, -⟩
    simp only [Option.getD_some, Option.isSome_some] at hx ⊢
    have HN := Lib.hid (Blk.new w6 24 #[.slice P0 m0 d0, .int .i64 s, .int .i64 t])
    have HRN := Lib.hid (hx.alloc (.cells #[.slice P0 m0 d0, .int .i64 s, .int .i64 t] 24))
    replace HK1 := Lib.hid ((HK1.out.bel hb1).alloc (.cells #[.slice P0 m0 d0, .int .i64 s, .int .i64 t] 24))
    replace HK2 := Lib.hid ((HK2.out.bel hb1).alloc (.cells #[.slice P0 m0 d0, .int .i64 s, .int .i64 t] 24))
    replace HK3 := Lib.hid ((HK3.out.bel hb1).alloc (.cells #[.slice P0 m0 d0, .int .i64 s, .int .i64 t] 24))
    replace HRa := Lib.hid ((HRa.out.below hb1).alloc (.cells #[.slice P0 m0 d0, .int .i64 s, .int .i64 t] 24))
    replace HLx := Lib.hid (lies_upa (lies_up HLx.out hb1) (.cells #[.slice P0 m0 d0, .int .i64 s, .int .i64 t] 24))
    replace HLo := Lib.hid (lies_upa (lies_up HLo.out hb1) (.cells #[.slice P0 m0 d0, .int .i64 s, .int .i64 t] 24))
    replace HLi := Lib.hid (lies_upa (lies_up HLi.out hb1) (.cells #[.slice P0 m0 d0, .int .i64 s, .int .i64 t] 24))
    replace HBW := Lib.hid (bel_alloc (bel_trans HBW.out hb1) (.cells #[.slice P0 m0 d0, .int .i64 s, .int .i64 t] 24))
    clear hb1 HTY hx
    have HK4 := HN
    have HRb := HRN
    clear HN HRN
    go_upto_region 13 with fail
    obtain ⟨W5, hW5⟩ : ∃ W, w6.alloc (.cells #[.slice P0 m0 d0, .int .i64 s, .int .i64 t] 24) = W := ⟨_, rfl⟩
    rw [hW5] at HK1 HK2 HK3 HK4 HRa HRb HLx HLo HLi HBW
    rw [hW5]
    clear hW5
    have HCUR := Lib.hid (Below.drew (Below.refl W5.heap.size W5))
    go_region_held3 (fun w' => w'.cell? ⟨w.heap.size, 0, none⟩ = some (.slice A n c) ∧ w'.cell? ⟨w.heap.size, 1, none⟩ = some (.int .i64 s) ∧ w'.cell? ⟨w.heap.size, 2, none⟩ = some (.int .i64 t) ∧ w'.cell? ⟨w6.heap.size, 0, none⟩ = some (.slice P0 m0 d0) ∧ w'.cell? ⟨w6.heap.size, 1, none⟩ = some (.int .i64 s) ∧ w'.cell? ⟨w6.heap.size, 2, none⟩ = some (.int .i64 t)) (with_reducible exact held6 HK1.out HK4.out HCUR.out)
        (first
        | (go_at_call 17
           refine (HIA.out _ (HRa.out.below HCUR.out)).mono ?_
           rintro e v1 ⟨V1, c1, rfl, hl1, hb1⟩
           have hnow := HCUR.out.trans (hb1.mono HCUR.out.size)
           have HL1 := Lib.hid (hl1.more (S' := fun b => b < v1.heap.size) fun b hb _ => hb.2)
           clear hl1
           replace HCUR := Lib.hid hnow
           clear HIA hb1 hnow)
        | (go_at_call 19
           refine (HI2.out _ (HRa.out.below HCUR.out)).mono ?_
           rintro e v2 ⟨V2, c2, rfl, hl2, hb1⟩
           have hnow := HCUR.out.trans (hb1.mono HCUR.out.size)
           have HL2 := Lib.hid (hl2.more (S' := fun b => b < v2.heap.size) fun b hb _ => hb.2)
           replace HL1 := Lib.hid (lies_up HL1.out hb1)
           clear hl2
           replace HCUR := Lib.hid hnow
           clear HI2 hb1 hnow)
        | (go_at_call 18
           refine (HYY.out _ _ _ _ _ HL1.out HL2.out).mono ?_
           rintro e v3 ⟨rfl, hb1⟩
           have hnow := HCUR.out.trans (hb1.mono HCUR.out.size)
           replace HCUR := Lib.hid hnow
           clear HYY hb1 hnow)
        | (go_at_call 13
           refine (HSA.out _ _ _ _ (HRa.out.below HCUR.out) (HRb.out.below HCUR.out)).mono ?_
           rintro e v4 ⟨rfl, hb1⟩
           have hnow := HCUR.out.trans (hb1.mono HCUR.out.size)
           replace HCUR := Lib.hid hnow
           clear HSA hb1 hnow))
    have hb1 := HCUR.out
    replace HK1 := Lib.hid ((HK1.out.bel hb1))
    replace HK2 := Lib.hid ((HK2.out.bel hb1))
    replace HK3 := Lib.hid ((HK3.out.bel hb1))
    replace HK4 := Lib.hid ((HK4.out.bel hb1))
    replace HRa := Lib.hid ((HRa.out.below hb1))
    replace HRb := Lib.hid ((HRb.out.below hb1))
    replace HLx := Lib.hid (lies_up HLx.out hb1)
    replace HLo := Lib.hid (lies_up HLo.out hb1)
    replace HLi := Lib.hid (lies_up HLi.out hb1)
    replace HBW := Lib.hid (bel_trans HBW.out hb1)
    clear hb1 HCUR HL1 HL2
    obtain ⟨x20, x21, x22, x23⟩ := blk4 HK2.out
    go_wp2_with fail
    refine (HT1.out _ HLx.out).mono ?_
    rintro e u1 ⟨P1, m1, d1, rfl, hx, hb1, -⟩
    have HN := Lib.hid (Blk.new u1 24 #[.slice P1 m1 d1, .int .i64 (Q1.getD zeroAt).sq, .int .i64 (Q1.getD zeroAt).tg])
    have HRN := Lib.hid (hx.alloc (.cells #[.slice P1 m1 d1, .int .i64 (Q1.getD zeroAt).sq, .int .i64 (Q1.getD zeroAt).tg] 24))
    replace HK1 := Lib.hid ((HK1.out.bel hb1).alloc (.cells #[.slice P1 m1 d1, .int .i64 (Q1.getD zeroAt).sq, .int .i64 (Q1.getD zeroAt).tg] 24))
    replace HK2 := Lib.hid ((HK2.out.bel hb1).alloc (.cells #[.slice P1 m1 d1, .int .i64 (Q1.getD zeroAt).sq, .int .i64 (Q1.getD zeroAt).tg] 24))
    replace HK3 := Lib.hid ((HK3.out.bel hb1).alloc (.cells #[.slice P1 m1 d1, .int .i64 (Q1.getD zeroAt).sq, .int .i64 (Q1.getD zeroAt).tg] 24))
    replace HK4 := Lib.hid ((HK4.out.bel hb1).alloc (.cells #[.slice P1 m1 d1, .int .i64 (Q1.getD zeroAt).sq, .int .i64 (Q1.getD zeroAt).tg] 24))
    replace HRa := Lib.hid ((HRa.out.below hb1).alloc (.cells #[.slice P1 m1 d1, .int .i64 (Q1.getD zeroAt).sq, .int .i64 (Q1.getD zeroAt).tg] 24))
    replace HRb := Lib.hid ((HRb.out.below hb1).alloc (.cells #[.slice P1 m1 d1, .int .i64 (Q1.getD zeroAt).sq, .int .i64 (Q1.getD zeroAt).tg] 24))
    replace HLx := Lib.hid (lies_upa (lies_up HLx.out hb1) (.cells #[.slice P1 m1 d1, .int .i64 (Q1.getD zeroAt).sq, .int .i64 (Q1.getD zeroAt).tg] 24))
    replace HLo := Lib.hid (lies_upa (lies_up HLo.out hb1) (.cells #[.slice P1 m1 d1, .int .i64 (Q1.getD zeroAt).sq, .int .i64 (Q1.getD zeroAt).tg] 24))
    replace HLi := Lib.hid (lies_upa (lies_up HLi.out hb1) (.cells #[.slice P1 m1 d1, .int .i64 (Q1.getD zeroAt).sq, .int .i64 (Q1.getD zeroAt).tg] 24))
    replace HBW := Lib.hid (bel_alloc (bel_trans HBW.out hb1) (.cells #[.slice P1 m1 d1, .int .i64 (Q1.getD zeroAt).sq, .int .i64 (Q1.getD zeroAt).tg] 24))
    clear x20 x21 x22 x23
    clear hb1 HT1 hx
    have HK11 := HN
    have HRp := HRN
    clear HN HRN
    obtain ⟨x20, x21, x22, x23⟩ := blk4 HK2.out
    go_wp2_with fail
    refine (HT2.out _ HLx.out).mono ?_
    rintro e u2 ⟨P2, m2, d2, rfl, hx, hb1, -⟩
    have HN := Lib.hid (Blk.new u2 24 #[.slice P2 m2 d2, .int .i64 (Q1.getD zeroAt).sq, .int .i64 (Q1.getD zeroAt).tg])
    have HRN := Lib.hid (hx.alloc (.cells #[.slice P2 m2 d2, .int .i64 (Q1.getD zeroAt).sq, .int .i64 (Q1.getD zeroAt).tg] 24))
    replace HK1 := Lib.hid ((HK1.out.bel hb1).alloc (.cells #[.slice P2 m2 d2, .int .i64 (Q1.getD zeroAt).sq, .int .i64 (Q1.getD zeroAt).tg] 24))
    replace HK2 := Lib.hid ((HK2.out.bel hb1).alloc (.cells #[.slice P2 m2 d2, .int .i64 (Q1.getD zeroAt).sq, .int .i64 (Q1.getD zeroAt).tg] 24))
    replace HK3 := Lib.hid ((HK3.out.bel hb1).alloc (.cells #[.slice P2 m2 d2, .int .i64 (Q1.getD zeroAt).sq, .int .i64 (Q1.getD zeroAt).tg] 24))
    replace HK4 := Lib.hid ((HK4.out.bel hb1).alloc (.cells #[.slice P2 m2 d2, .int .i64 (Q1.getD zeroAt).sq, .int .i64 (Q1.getD zeroAt).tg] 24))
    replace HK11 := Lib.hid ((HK11.out.bel hb1).alloc (.cells #[.slice P2 m2 d2, .int .i64 (Q1.getD zeroAt).sq, .int .i64 (Q1.getD zeroAt).tg] 24))
    replace HRa := Lib.hid ((HRa.out.below hb1).alloc (.cells #[.slice P2 m2 d2, .int .i64 (Q1.getD zeroAt).sq, .int .i64 (Q1.getD zeroAt).tg] 24))
    replace HRb := Lib.hid ((HRb.out.below hb1).alloc (.cells #[.slice P2 m2 d2, .int .i64 (Q1.getD zeroAt).sq, .int .i64 (Q1.getD zeroAt).tg] 24))
    replace HRp := Lib.hid ((HRp.out.below hb1).alloc (.cells #[.slice P2 m2 d2, .int .i64 (Q1.getD zeroAt).sq, .int .i64 (Q1.getD zeroAt).tg] 24))
    replace HLx := Lib.hid (lies_upa (lies_up HLx.out hb1) (.cells #[.slice P2 m2 d2, .int .i64 (Q1.getD zeroAt).sq, .int .i64 (Q1.getD zeroAt).tg] 24))
    replace HLo := Lib.hid (lies_upa (lies_up HLo.out hb1) (.cells #[.slice P2 m2 d2, .int .i64 (Q1.getD zeroAt).sq, .int .i64 (Q1.getD zeroAt).tg] 24))
    replace HLi := Lib.hid (lies_upa (lies_up HLi.out hb1) (.cells #[.slice P2 m2 d2, .int .i64 (Q1.getD zeroAt).sq, .int .i64 (Q1.getD zeroAt).tg] 24))
    replace HBW := Lib.hid (bel_alloc (bel_trans HBW.out hb1) (.cells #[.slice P2 m2 d2, .int .i64 (Q1.getD zeroAt).sq, .int .i64 (Q1.getD zeroAt).tg] 24))
    clear x20 x21 x22 x23
    clear hb1 HT2 hx
    have HK12 := HN
    have HRq := HRN
    clear HN HRN
    obtain ⟨x20, x21, x22, x23⟩ := blk4 HK2.out
    go_wp2_with fail
    refine (HT3.out _ HLx.out).mono ?_
    rintro e u3 ⟨P3, m3, d3, rfl, hx, hb1, -⟩
    have HN := Lib.hid (Blk.new u3 24 #[.slice P3 m3 d3, .int .i64 (Q2.getD zeroAt).sq, .int .i64 (Q2.getD zeroAt).tg])
    have HRN := Lib.hid (hx.alloc (.cells #[.slice P3 m3 d3, .int .i64 (Q2.getD zeroAt).sq, .int .i64 (Q2.getD zeroAt).tg] 24))
    replace HK1 := Lib.hid ((HK1.out.bel hb1).alloc (.cells #[.slice P3 m3 d3, .int .i64 (Q2.getD zeroAt).sq, .int .i64 (Q2.getD zeroAt).tg] 24))
    replace HK2 := Lib.hid ((HK2.out.bel hb1).alloc (.cells #[.slice P3 m3 d3, .int .i64 (Q2.getD zeroAt).sq, .int .i64 (Q2.getD zeroAt).tg] 24))
    replace HK3 := Lib.hid ((HK3.out.bel hb1).alloc (.cells #[.slice P3 m3 d3, .int .i64 (Q2.getD zeroAt).sq, .int .i64 (Q2.getD zeroAt).tg] 24))
    replace HK4 := Lib.hid ((HK4.out.bel hb1).alloc (.cells #[.slice P3 m3 d3, .int .i64 (Q2.getD zeroAt).sq, .int .i64 (Q2.getD zeroAt).tg] 24))
    replace HK11 := Lib.hid ((HK11.out.bel hb1).alloc (.cells #[.slice P3 m3 d3, .int .i64 (Q2.getD zeroAt).sq, .int .i64 (Q2.getD zeroAt).tg] 24))
    replace HK12 := Lib.hid ((HK12.out.bel hb1).alloc (.cells #[.slice P3 m3 d3, .int .i64 (Q2.getD zeroAt).sq, .int .i64 (Q2.getD zeroAt).tg] 24))
    replace HRa := Lib.hid ((HRa.out.below hb1).alloc (.cells #[.slice P3 m3 d3, .int .i64 (Q2.getD zeroAt).sq, .int .i64 (Q2.getD zeroAt).tg] 24))
    replace HRb := Lib.hid ((HRb.out.below hb1).alloc (.cells #[.slice P3 m3 d3, .int .i64 (Q2.getD zeroAt).sq, .int .i64 (Q2.getD zeroAt).tg] 24))
    replace HRp := Lib.hid ((HRp.out.below hb1).alloc (.cells #[.slice P3 m3 d3, .int .i64 (Q2.getD zeroAt).sq, .int .i64 (Q2.getD zeroAt).tg] 24))
    replace HRq := Lib.hid ((HRq.out.below hb1).alloc (.cells #[.slice P3 m3 d3, .int .i64 (Q2.getD zeroAt).sq, .int .i64 (Q2.getD zeroAt).tg] 24))
    replace HLx := Lib.hid (lies_upa (lies_up HLx.out hb1) (.cells #[.slice P3 m3 d3, .int .i64 (Q2.getD zeroAt).sq, .int .i64 (Q2.getD zeroAt).tg] 24))
    replace HLo := Lib.hid (lies_upa (lies_up HLo.out hb1) (.cells #[.slice P3 m3 d3, .int .i64 (Q2.getD zeroAt).sq, .int .i64 (Q2.getD zeroAt).tg] 24))
    replace HLi := Lib.hid (lies_upa (lies_up HLi.out hb1) (.cells #[.slice P3 m3 d3, .int .i64 (Q2.getD zeroAt).sq, .int .i64 (Q2.getD zeroAt).tg] 24))
    replace HBW := Lib.hid (bel_alloc (bel_trans HBW.out hb1) (.cells #[.slice P3 m3 d3, .int .i64 (Q2.getD zeroAt).sq, .int .i64 (Q2.getD zeroAt).tg] 24))
    clear x20 x21 x22 x23
    clear hb1 HT3 hx
    have HK13 := HN
    have HRf := HRN
    clear HN HRN
    obtain ⟨x20, x21, x22, x23⟩ := blk4 HK2.out
    go_wp2_with fail
    refine (HT4.out _ HLx.out).mono ?_
    rintro e u4 ⟨P4, m4, d4, rfl, hx, hb1, -⟩
    have HN := Lib.hid (Blk.new u4 24 #[.slice P4 m4 d4, .int .i64 (Q2.getD zeroAt).sq, .int .i64 (Q2.getD zeroAt).tg])
    have HRN := Lib.hid (hx.alloc (.cells #[.slice P4 m4 d4, .int .i64 (Q2.getD zeroAt).sq, .int .i64 (Q2.getD zeroAt).tg] 24))
    replace HK1 := Lib.hid ((HK1.out.bel hb1).alloc (.cells #[.slice P4 m4 d4, .int .i64 (Q2.getD zeroAt).sq, .int .i64 (Q2.getD zeroAt).tg] 24))
    replace HK2 := Lib.hid ((HK2.out.bel hb1).alloc (.cells #[.slice P4 m4 d4, .int .i64 (Q2.getD zeroAt).sq, .int .i64 (Q2.getD zeroAt).tg] 24))
    replace HK3 := Lib.hid ((HK3.out.bel hb1).alloc (.cells #[.slice P4 m4 d4, .int .i64 (Q2.getD zeroAt).sq, .int .i64 (Q2.getD zeroAt).tg] 24))
    replace HK4 := Lib.hid ((HK4.out.bel hb1).alloc (.cells #[.slice P4 m4 d4, .int .i64 (Q2.getD zeroAt).sq, .int .i64 (Q2.getD zeroAt).tg] 24))
    replace HK11 := Lib.hid ((HK11.out.bel hb1).alloc (.cells #[.slice P4 m4 d4, .int .i64 (Q2.getD zeroAt).sq, .int .i64 (Q2.getD zeroAt).tg] 24))
    replace HK12 := Lib.hid ((HK12.out.bel hb1).alloc (.cells #[.slice P4 m4 d4, .int .i64 (Q2.getD zeroAt).sq, .int .i64 (Q2.getD zeroAt).tg] 24))
    replace HK13 := Lib.hid ((HK13.out.bel hb1).alloc (.cells #[.slice P4 m4 d4, .int .i64 (Q2.getD zeroAt).sq, .int .i64 (Q2.getD zeroAt).tg] 24))
    replace HRa := Lib.hid ((HRa.out.below hb1).alloc (.cells #[.slice P4 m4 d4, .int .i64 (Q2.getD zeroAt).sq, .int .i64 (Q2.getD zeroAt).tg] 24))
    replace HRb := Lib.hid ((HRb.out.below hb1).alloc (.cells #[.slice P4 m4 d4, .int .i64 (Q2.getD zeroAt).sq, .int .i64 (Q2.getD zeroAt).tg] 24))
    replace HRp := Lib.hid ((HRp.out.below hb1).alloc (.cells #[.slice P4 m4 d4, .int .i64 (Q2.getD zeroAt).sq, .int .i64 (Q2.getD zeroAt).tg] 24))
    replace HRq := Lib.hid ((HRq.out.below hb1).alloc (.cells #[.slice P4 m4 d4, .int .i64 (Q2.getD zeroAt).sq, .int .i64 (Q2.getD zeroAt).tg] 24))
    replace HRf := Lib.hid ((HRf.out.below hb1).alloc (.cells #[.slice P4 m4 d4, .int .i64 (Q2.getD zeroAt).sq, .int .i64 (Q2.getD zeroAt).tg] 24))
    replace HLx := Lib.hid (lies_upa (lies_up HLx.out hb1) (.cells #[.slice P4 m4 d4, .int .i64 (Q2.getD zeroAt).sq, .int .i64 (Q2.getD zeroAt).tg] 24))
    replace HLo := Lib.hid (lies_upa (lies_up HLo.out hb1) (.cells #[.slice P4 m4 d4, .int .i64 (Q2.getD zeroAt).sq, .int .i64 (Q2.getD zeroAt).tg] 24))
    replace HLi := Lib.hid (lies_upa (lies_up HLi.out hb1) (.cells #[.slice P4 m4 d4, .int .i64 (Q2.getD zeroAt).sq, .int .i64 (Q2.getD zeroAt).tg] 24))
    replace HBW := Lib.hid (bel_alloc (bel_trans HBW.out hb1) (.cells #[.slice P4 m4 d4, .int .i64 (Q2.getD zeroAt).sq, .int .i64 (Q2.getD zeroAt).tg] 24))
    clear x20 x21 x22 x23
    clear hb1 HT4 hx
    have HK14 := HN
    have HRh := HRN
    clear HN HRN
    obtain ⟨x110, x111, x112⟩ := blk3 HK11.out
    obtain ⟨x120, x121, x122⟩ := blk3 HK12.out
    go_wp2_with fail
    refine (HS1.out _ _ _ _ _ _ _ HRp.out HRq.out).mono ?_
    rintro e u5 ⟨rfl, hb1⟩
    replace HK1 := Lib.hid ((HK1.out.bel hb1))
    replace HK2 := Lib.hid ((HK2.out.bel hb1))
    replace HK3 := Lib.hid ((HK3.out.bel hb1))
    replace HK4 := Lib.hid ((HK4.out.bel hb1))
    replace HK11 := Lib.hid ((HK11.out.bel hb1))
    replace HK12 := Lib.hid ((HK12.out.bel hb1))
    replace HK13 := Lib.hid ((HK13.out.bel hb1))
    replace HK14 := Lib.hid ((HK14.out.bel hb1))
    replace HRa := Lib.hid ((HRa.out.below hb1))
    replace HRb := Lib.hid ((HRb.out.below hb1))
    replace HRp := Lib.hid ((HRp.out.below hb1))
    replace HRq := Lib.hid ((HRq.out.below hb1))
    replace HRf := Lib.hid ((HRf.out.below hb1))
    replace HRh := Lib.hid ((HRh.out.below hb1))
    replace HLx := Lib.hid (lies_up HLx.out hb1)
    replace HLo := Lib.hid (lies_up HLo.out hb1)
    replace HLi := Lib.hid (lies_up HLi.out hb1)
    replace HBW := Lib.hid (bel_trans HBW.out hb1)
    clear x110 x111 x112 x120 x121 x122
    clear hb1 HS1
    obtain ⟨x130, x131, x132⟩ := blk3 HK13.out
    obtain ⟨x140, x141, x142⟩ := blk3 HK14.out
    go_wp2_with fail
    refine (HS2.out _ _ _ _ _ _ _ HRf.out HRh.out).mono ?_
    rintro e u6 ⟨rfl, hb1⟩
    replace HK1 := Lib.hid ((HK1.out.bel hb1))
    replace HK2 := Lib.hid ((HK2.out.bel hb1))
    replace HK3 := Lib.hid ((HK3.out.bel hb1))
    replace HK4 := Lib.hid ((HK4.out.bel hb1))
    replace HK11 := Lib.hid ((HK11.out.bel hb1))
    replace HK12 := Lib.hid ((HK12.out.bel hb1))
    replace HK13 := Lib.hid ((HK13.out.bel hb1))
    replace HK14 := Lib.hid ((HK14.out.bel hb1))
    replace HRa := Lib.hid ((HRa.out.below hb1))
    replace HRb := Lib.hid ((HRb.out.below hb1))
    replace HRp := Lib.hid ((HRp.out.below hb1))
    replace HRq := Lib.hid ((HRq.out.below hb1))
    replace HRf := Lib.hid ((HRf.out.below hb1))
    replace HRh := Lib.hid ((HRh.out.below hb1))
    replace HLx := Lib.hid (lies_up HLx.out hb1)
    replace HLo := Lib.hid (lies_up HLo.out hb1)
    replace HLi := Lib.hid (lies_up HLi.out hb1)
    replace HBW := Lib.hid (bel_trans HBW.out hb1)
    clear x130 x131 x132 x140 x141 x142
    clear hb1 HS2
    go_wp2_with fail
    refine (HA.out _).mono ?_
    rintro e u7 ⟨rfl, hb1⟩
    replace HK1 := Lib.hid ((HK1.out.bel hb1))
    replace HK2 := Lib.hid ((HK2.out.bel hb1))
    replace HK3 := Lib.hid ((HK3.out.bel hb1))
    replace HK4 := Lib.hid ((HK4.out.bel hb1))
    replace HK11 := Lib.hid ((HK11.out.bel hb1))
    replace HK12 := Lib.hid ((HK12.out.bel hb1))
    replace HK13 := Lib.hid ((HK13.out.bel hb1))
    replace HK14 := Lib.hid ((HK14.out.bel hb1))
    replace HRa := Lib.hid ((HRa.out.below hb1))
    replace HRb := Lib.hid ((HRb.out.below hb1))
    replace HRp := Lib.hid ((HRp.out.below hb1))
    replace HRq := Lib.hid ((HRq.out.below hb1))
    replace HRf := Lib.hid ((HRf.out.below hb1))
    replace HRh := Lib.hid ((HRh.out.below hb1))
    replace HLx := Lib.hid (lies_up HLx.out hb1)
    replace HLo := Lib.hid (lies_up HLo.out hb1)
    replace HLi := Lib.hid (lies_up HLi.out hb1)
    replace HBW := Lib.hid (bel_trans HBW.out hb1)
    clear hb1
    go_wp2_with fail
    go_ret
    exact ⟨rfl, HBW.out⟩
  subst ht
  rw [if_pos rfl] at hao
  rw [hao] at HO
  have hto := fun w V k (h : Lies w (fun b => b < w.heap.size) z V k) => oldtake_any z V k _ w h fun _ h => h
  rw [hold rfl] at hto
  have HTO := Lib.hid hto
  have hzz := fun w V k V' k' (h : Lies w (fun b => b < w.heap.size) z V k) (h' : Lies w (fun b => b < w.heap.size) z V' k') => same_item z z V V' k k' _ w h h' (fun _ h => h) hwt.2
  rw [(same_iff z z).2 rfl] at hzz
  have HZZ := Lib.hid hzz
  clear hao hold hto hzz hwt hz
  obtain ⟨x10, x11, x12⟩ := blk3 HK1.out
  go_wp2_with fail
  refine (HO.out _ HRa.out).mono ?_
  rintro e w2 ⟨VO, cO, rfl, ho, hb1⟩
  simp only at ho ⊢
  have HN := Lib.hid (Blk.new w2 37 #[.int .i64 z.kind, .int .u64 (z.num : Int), .string z.str, .slice VO z.kids.length cO])
  have HLN := Lib.hid (lies_upa (ho.more (S' := fun b => b < w2.heap.size) fun b hb _ => hb.2) (.cells #[.int .i64 z.kind, .int .u64 (z.num : Int), .string z.str, .slice VO z.kids.length cO] 37))
  replace HK1 := Lib.hid ((HK1.out.bel hb1).alloc (.cells #[.int .i64 z.kind, .int .u64 (z.num : Int), .string z.str, .slice VO z.kids.length cO] 37))
  replace HK2 := Lib.hid ((HK2.out.bel hb1).alloc (.cells #[.int .i64 z.kind, .int .u64 (z.num : Int), .string z.str, .slice VO z.kids.length cO] 37))
  replace HRa := Lib.hid ((HRa.out.below hb1).alloc (.cells #[.int .i64 z.kind, .int .u64 (z.num : Int), .string z.str, .slice VO z.kids.length cO] 37))
  replace HLx := Lib.hid (lies_upa (lies_up HLx.out hb1) (.cells #[.int .i64 z.kind, .int .u64 (z.num : Int), .string z.str, .slice VO z.kids.length cO] 37))
  replace HBW := Lib.hid (bel_alloc (bel_trans HBW.out hb1) (.cells #[.int .i64 z.kind, .int .u64 (z.num : Int), .string z.str, .slice VO z.kids.length cO] 37))
  clear x10 x11 x12
  clear hb1 HO ho
  have HK3 := HN
  have HLo := HLN
  clear HN HLN
  obtain ⟨x10, x11, x12⟩ := blk3 HK1.out
  go_wp2_with fail
  refine (HC.out _ HRa.out).mono ?_
  rintro e w3 ⟨rfl, hb1⟩
  replace HK1 := Lib.hid ((HK1.out.bel hb1))
  replace HK2 := Lib.hid ((HK2.out.bel hb1))
  replace HK3 := Lib.hid ((HK3.out.bel hb1))
  replace HRa := Lib.hid ((HRa.out.below hb1))
  replace HLx := Lib.hid (lies_up HLx.out hb1)
  replace HLo := Lib.hid (lies_up HLo.out hb1)
  replace HBW := Lib.hid (bel_trans HBW.out hb1)
  clear x10 x11 x12
  clear hb1 HC
  obtain ⟨x10, x11, x12⟩ := blk3 HK1.out
  go_wp2_with fail
  refine (HCB.out _ HRa.out).mono ?_
  rintro e w4 ⟨rfl, hb1⟩
  replace HK1 := Lib.hid ((HK1.out.bel hb1))
  replace HK2 := Lib.hid ((HK2.out.bel hb1))
  replace HK3 := Lib.hid ((HK3.out.bel hb1))
  replace HRa := Lib.hid ((HRa.out.below hb1))
  replace HLx := Lib.hid (lies_up HLx.out hb1)
  replace HLo := Lib.hid (lies_up HLo.out hb1)
  replace HBW := Lib.hid (bel_trans HBW.out hb1)
  clear x10 x11 x12
  clear hb1 HCB
  obtain ⟨x10, x11, x12⟩ := blk3 HK1.out
  go_wp2_with fail
  refine (HI1.out _ HRa.out).mono ?_
  rintro e w5 ⟨VI, cI, rfl, hi, hb1⟩
  have HLi := Lib.hid (hi.more (S' := fun b => b < w5.heap.size) fun b hb _ => hb.2)
  replace HK1 := Lib.hid ((HK1.out.bel hb1))
  replace HK2 := Lib.hid ((HK2.out.bel hb1))
  replace HK3 := Lib.hid ((HK3.out.bel hb1))
  replace HRa := Lib.hid ((HRa.out.below hb1))
  replace HLx := Lib.hid (lies_up HLx.out hb1)
  replace HLo := Lib.hid (lies_up HLo.out hb1)
  replace HBW := Lib.hid (bel_trans HBW.out hb1)
  clear x10 x11 x12
  clear hb1 hi HI1
  go_wp2_with fail
  refine (HTY.out _ _ _ HLi.out).mono ?_
  rintro e w6 ⟨P0, m0, d0, rfl, hx, hb1, -⟩
  simp only [Option.getD_some, Option.isSome_some] at hx ⊢
  have HN := Lib.hid (Blk.new w6 24 #[.slice P0 m0 d0, .int .i64 s, .int .i64 1])
  have HRN := Lib.hid (hx.alloc (.cells #[.slice P0 m0 d0, .int .i64 s, .int .i64 1] 24))
  replace HK1 := Lib.hid ((HK1.out.bel hb1).alloc (.cells #[.slice P0 m0 d0, .int .i64 s, .int .i64 1] 24))
  replace HK2 := Lib.hid ((HK2.out.bel hb1).alloc (.cells #[.slice P0 m0 d0, .int .i64 s, .int .i64 1] 24))
  replace HK3 := Lib.hid ((HK3.out.bel hb1).alloc (.cells #[.slice P0 m0 d0, .int .i64 s, .int .i64 1] 24))
  replace HRa := Lib.hid ((HRa.out.below hb1).alloc (.cells #[.slice P0 m0 d0, .int .i64 s, .int .i64 1] 24))
  replace HLx := Lib.hid (lies_upa (lies_up HLx.out hb1) (.cells #[.slice P0 m0 d0, .int .i64 s, .int .i64 1] 24))
  replace HLo := Lib.hid (lies_upa (lies_up HLo.out hb1) (.cells #[.slice P0 m0 d0, .int .i64 s, .int .i64 1] 24))
  replace HLi := Lib.hid (lies_upa (lies_up HLi.out hb1) (.cells #[.slice P0 m0 d0, .int .i64 s, .int .i64 1] 24))
  replace HBW := Lib.hid (bel_alloc (bel_trans HBW.out hb1) (.cells #[.slice P0 m0 d0, .int .i64 s, .int .i64 1] 24))
  clear hb1 HTY hx
  have HK4 := HN
  have HRb := HRN
  clear HN HRN
  go_upto_region 13 with fail
  obtain ⟨W5, hW5⟩ : ∃ W, w6.alloc (.cells #[.slice P0 m0 d0, .int .i64 s, .int .i64 1] 24) = W := ⟨_, rfl⟩
  rw [hW5] at HK1 HK2 HK3 HK4 HRa HRb HLx HLo HLi HBW
  rw [hW5]
  clear hW5
  have HCUR := Lib.hid (Below.drew (Below.refl W5.heap.size W5))
  go_region_held3 (fun w' => w'.cell? ⟨w.heap.size, 0, none⟩ = some (.slice A n c) ∧ w'.cell? ⟨w.heap.size, 1, none⟩ = some (.int .i64 s) ∧ w'.cell? ⟨w.heap.size, 2, none⟩ = some (.int .i64 1) ∧ w'.cell? ⟨w6.heap.size, 0, none⟩ = some (.slice P0 m0 d0) ∧ w'.cell? ⟨w6.heap.size, 1, none⟩ = some (.int .i64 s) ∧ w'.cell? ⟨w6.heap.size, 2, none⟩ = some (.int .i64 1)) (with_reducible exact held6 HK1.out HK4.out HCUR.out)
      (first
      | (go_at_call 17
         refine (HIA.out _ (HRa.out.below HCUR.out)).mono ?_
         rintro e v1 ⟨V1, c1, rfl, hl1, hb1⟩
         have hnow := HCUR.out.trans (hb1.mono HCUR.out.size)
         have HL1 := Lib.hid (hl1.more (S' := fun b => b < v1.heap.size) fun b hb _ => hb.2)
         clear hl1
         replace HCUR := Lib.hid hnow
         clear HIA hb1 hnow)
      | (go_at_call 19
         refine (HI2.out _ (HRa.out.below HCUR.out)).mono ?_
         rintro e v2 ⟨V2, c2, rfl, hl2, hb1⟩
         have hnow := HCUR.out.trans (hb1.mono HCUR.out.size)
         have HL2 := Lib.hid (hl2.more (S' := fun b => b < v2.heap.size) fun b hb _ => hb.2)
         replace HL1 := Lib.hid (lies_up HL1.out hb1)
         clear hl2
         replace HCUR := Lib.hid hnow
         clear HI2 hb1 hnow)
      | (go_at_call 18
         refine (HYY.out _ _ _ _ _ HL1.out HL2.out).mono ?_
         rintro e v3 ⟨rfl, hb1⟩
         have hnow := HCUR.out.trans (hb1.mono HCUR.out.size)
         replace HCUR := Lib.hid hnow
         clear HYY hb1 hnow)
      | (go_at_call 13
         refine (HSA.out _ _ _ _ (HRa.out.below HCUR.out) (HRb.out.below HCUR.out)).mono ?_
         rintro e v4 ⟨rfl, hb1⟩
         have hnow := HCUR.out.trans (hb1.mono HCUR.out.size)
         replace HCUR := Lib.hid hnow
         clear HSA hb1 hnow))
  have hb1 := HCUR.out
  replace HK1 := Lib.hid ((HK1.out.bel hb1))
  replace HK2 := Lib.hid ((HK2.out.bel hb1))
  replace HK3 := Lib.hid ((HK3.out.bel hb1))
  replace HK4 := Lib.hid ((HK4.out.bel hb1))
  replace HRa := Lib.hid ((HRa.out.below hb1))
  replace HRb := Lib.hid ((HRb.out.below hb1))
  replace HLx := Lib.hid (lies_up HLx.out hb1)
  replace HLo := Lib.hid (lies_up HLo.out hb1)
  replace HLi := Lib.hid (lies_up HLi.out hb1)
  replace HBW := Lib.hid (bel_trans HBW.out hb1)
  clear hb1 HCUR HL1 HL2
  obtain ⟨x30, x31, x32, x33⟩ := blk4 HK3.out
  go_wp2_with fail
  refine (HTO.out _ _ _ HLo.out).mono ?_
  rintro e w7 ⟨P9, m9, d9, rfl, hx, hb1, -⟩
  simp only [Option.getD_some, Option.isSome_some] at hx ⊢
  have HN := Lib.hid (Blk.new w7 24 #[.slice P9 m9 d9, .int .i64 s, .int .i64 1])
  have HRN := Lib.hid (hx.alloc (.cells #[.slice P9 m9 d9, .int .i64 s, .int .i64 1] 24))
  replace HK1 := Lib.hid ((HK1.out.bel hb1).alloc (.cells #[.slice P9 m9 d9, .int .i64 s, .int .i64 1] 24))
  replace HK2 := Lib.hid ((HK2.out.bel hb1).alloc (.cells #[.slice P9 m9 d9, .int .i64 s, .int .i64 1] 24))
  replace HK3 := Lib.hid ((HK3.out.bel hb1).alloc (.cells #[.slice P9 m9 d9, .int .i64 s, .int .i64 1] 24))
  replace HK4 := Lib.hid ((HK4.out.bel hb1).alloc (.cells #[.slice P9 m9 d9, .int .i64 s, .int .i64 1] 24))
  replace HRa := Lib.hid ((HRa.out.below hb1).alloc (.cells #[.slice P9 m9 d9, .int .i64 s, .int .i64 1] 24))
  replace HRb := Lib.hid ((HRb.out.below hb1).alloc (.cells #[.slice P9 m9 d9, .int .i64 s, .int .i64 1] 24))
  replace HLx := Lib.hid (lies_upa (lies_up HLx.out hb1) (.cells #[.slice P9 m9 d9, .int .i64 s, .int .i64 1] 24))
  replace HLo := Lib.hid (lies_upa (lies_up HLo.out hb1) (.cells #[.slice P9 m9 d9, .int .i64 s, .int .i64 1] 24))
  replace HLi := Lib.hid (lies_upa (lies_up HLi.out hb1) (.cells #[.slice P9 m9 d9, .int .i64 s, .int .i64 1] 24))
  replace HBW := Lib.hid (bel_alloc (bel_trans HBW.out hb1) (.cells #[.slice P9 m9 d9, .int .i64 s, .int .i64 1] 24))
  clear x30 x31 x32 x33
  clear hb1 HTO hx
  have HK5 := HN
  have HRg := HRN
  clear HN HRN
  go_upto_region 17 with fail
  obtain ⟨W6, hW6⟩ : ∃ W, w7.alloc (.cells #[.slice P9 m9 d9, .int .i64 s, .int .i64 1] 24) = W := ⟨_, rfl⟩
  rw [hW6] at HK1 HK2 HK3 HK4 HK5 HRa HRb HRg HLx HLo HLi HBW
  rw [hW6]
  clear hW6
  have HCUR := Lib.hid (Below.drew (Below.refl W6.heap.size W6))
  go_region_held3 (fun w' => w'.cell? ⟨w.heap.size, 0, none⟩ = some (.slice A n c) ∧ w'.cell? ⟨w.heap.size, 1, none⟩ = some (.int .i64 s) ∧ w'.cell? ⟨w.heap.size, 2, none⟩ = some (.int .i64 1) ∧ w'.cell? ⟨w7.heap.size, 0, none⟩ = some (.slice P9 m9 d9) ∧ w'.cell? ⟨w7.heap.size, 1, none⟩ = some (.int .i64 s) ∧ w'.cell? ⟨w7.heap.size, 2, none⟩ = some (.int .i64 1) ∧ w'.cell? ⟨w2.heap.size, 0, none⟩ = some (.int .i64 z.kind) ∧ w'.cell? ⟨w2.heap.size, 1, none⟩ = some (.int .u64 (z.num : Int)) ∧ w'.cell? ⟨w2.heap.size, 2, none⟩ = some (.string z.str) ∧ w'.cell? ⟨w2.heap.size, 3, none⟩ = some (.slice VO z.kids.length cO)) (with_reducible exact held10 HK1.out HK5.out HK3.out HCUR.out)
      (first
      | (go_at_call 21
         refine (HRO.out _ (HRa.out.below HCUR.out)).mono ?_
         rintro e v1 ⟨V2, c2, rfl, hl2, hb1⟩
         have hnow := HCUR.out.trans (hb1.mono HCUR.out.size)
         have HL2 := Lib.hid (hl2.more (S' := fun b => b < v1.heap.size) fun b hb _ => hb.2)
         have HLO := Lib.hid (lies_up HLo.out hnow)
         clear hl2
         replace HCUR := Lib.hid hnow
         clear HRO hb1 hnow)
      | (go_at_call 18
         refine (HZZ.out _ _ _ _ _ HLO.out HL2.out).mono ?_
         rintro e v3 ⟨rfl, hb1⟩
         have hnow := HCUR.out.trans (hb1.mono HCUR.out.size)
         replace HCUR := Lib.hid hnow
         clear HZZ hb1 hnow)
      | (go_at_call 13
         refine (HSB.out _ _ _ _ (HRa.out.below HCUR.out) (HRg.out.below HCUR.out)).mono ?_
         rintro e v4 ⟨rfl, hb1⟩
         have hnow := HCUR.out.trans (hb1.mono HCUR.out.size)
         replace HCUR := Lib.hid hnow
         clear HSB hb1 hnow))
  have hb1 := HCUR.out
  replace HK1 := Lib.hid ((HK1.out.bel hb1))
  replace HK2 := Lib.hid ((HK2.out.bel hb1))
  replace HK3 := Lib.hid ((HK3.out.bel hb1))
  replace HK4 := Lib.hid ((HK4.out.bel hb1))
  replace HK5 := Lib.hid ((HK5.out.bel hb1))
  replace HRa := Lib.hid ((HRa.out.below hb1))
  replace HRb := Lib.hid ((HRb.out.below hb1))
  replace HRg := Lib.hid ((HRg.out.below hb1))
  replace HLx := Lib.hid (lies_up HLx.out hb1)
  replace HLo := Lib.hid (lies_up HLo.out hb1)
  replace HLi := Lib.hid (lies_up HLi.out hb1)
  replace HBW := Lib.hid (bel_trans HBW.out hb1)
  clear hb1 HCUR HL2 HLO
  obtain ⟨x20, x21, x22, x23⟩ := blk4 HK2.out
  go_wp2_with fail
  refine (HT1.out _ HLx.out).mono ?_
  rintro e u1 ⟨P1, m1, d1, rfl, hx, hb1, -⟩
  have HN := Lib.hid (Blk.new u1 24 #[.slice P1 m1 d1, .int .i64 (Q1.getD zeroAt).sq, .int .i64 (Q1.getD zeroAt).tg])
  have HRN := Lib.hid (hx.alloc (.cells #[.slice P1 m1 d1, .int .i64 (Q1.getD zeroAt).sq, .int .i64 (Q1.getD zeroAt).tg] 24))
  replace HK1 := Lib.hid ((HK1.out.bel hb1).alloc (.cells #[.slice P1 m1 d1, .int .i64 (Q1.getD zeroAt).sq, .int .i64 (Q1.getD zeroAt).tg] 24))
  replace HK2 := Lib.hid ((HK2.out.bel hb1).alloc (.cells #[.slice P1 m1 d1, .int .i64 (Q1.getD zeroAt).sq, .int .i64 (Q1.getD zeroAt).tg] 24))
  replace HK3 := Lib.hid ((HK3.out.bel hb1).alloc (.cells #[.slice P1 m1 d1, .int .i64 (Q1.getD zeroAt).sq, .int .i64 (Q1.getD zeroAt).tg] 24))
  replace HK4 := Lib.hid ((HK4.out.bel hb1).alloc (.cells #[.slice P1 m1 d1, .int .i64 (Q1.getD zeroAt).sq, .int .i64 (Q1.getD zeroAt).tg] 24))
  replace HK5 := Lib.hid ((HK5.out.bel hb1).alloc (.cells #[.slice P1 m1 d1, .int .i64 (Q1.getD zeroAt).sq, .int .i64 (Q1.getD zeroAt).tg] 24))
  replace HRa := Lib.hid ((HRa.out.below hb1).alloc (.cells #[.slice P1 m1 d1, .int .i64 (Q1.getD zeroAt).sq, .int .i64 (Q1.getD zeroAt).tg] 24))
  replace HRb := Lib.hid ((HRb.out.below hb1).alloc (.cells #[.slice P1 m1 d1, .int .i64 (Q1.getD zeroAt).sq, .int .i64 (Q1.getD zeroAt).tg] 24))
  replace HRg := Lib.hid ((HRg.out.below hb1).alloc (.cells #[.slice P1 m1 d1, .int .i64 (Q1.getD zeroAt).sq, .int .i64 (Q1.getD zeroAt).tg] 24))
  replace HLx := Lib.hid (lies_upa (lies_up HLx.out hb1) (.cells #[.slice P1 m1 d1, .int .i64 (Q1.getD zeroAt).sq, .int .i64 (Q1.getD zeroAt).tg] 24))
  replace HLo := Lib.hid (lies_upa (lies_up HLo.out hb1) (.cells #[.slice P1 m1 d1, .int .i64 (Q1.getD zeroAt).sq, .int .i64 (Q1.getD zeroAt).tg] 24))
  replace HLi := Lib.hid (lies_upa (lies_up HLi.out hb1) (.cells #[.slice P1 m1 d1, .int .i64 (Q1.getD zeroAt).sq, .int .i64 (Q1.getD zeroAt).tg] 24))
  replace HBW := Lib.hid (bel_alloc (bel_trans HBW.out hb1) (.cells #[.slice P1 m1 d1, .int .i64 (Q1.getD zeroAt).sq, .int .i64 (Q1.getD zeroAt).tg] 24))
  clear x20 x21 x22 x23
  clear hb1 HT1 hx
  have HK11 := HN
  have HRp := HRN
  clear HN HRN
  obtain ⟨x20, x21, x22, x23⟩ := blk4 HK2.out
  go_wp2_with fail
  refine (HT2.out _ HLx.out).mono ?_
  rintro e u2 ⟨P2, m2, d2, rfl, hx, hb1, -⟩
  have HN := Lib.hid (Blk.new u2 24 #[.slice P2 m2 d2, .int .i64 (Q1.getD zeroAt).sq, .int .i64 (Q1.getD zeroAt).tg])
  have HRN := Lib.hid (hx.alloc (.cells #[.slice P2 m2 d2, .int .i64 (Q1.getD zeroAt).sq, .int .i64 (Q1.getD zeroAt).tg] 24))
  replace HK1 := Lib.hid ((HK1.out.bel hb1).alloc (.cells #[.slice P2 m2 d2, .int .i64 (Q1.getD zeroAt).sq, .int .i64 (Q1.getD zeroAt).tg] 24))
  replace HK2 := Lib.hid ((HK2.out.bel hb1).alloc (.cells #[.slice P2 m2 d2, .int .i64 (Q1.getD zeroAt).sq, .int .i64 (Q1.getD zeroAt).tg] 24))
  replace HK3 := Lib.hid ((HK3.out.bel hb1).alloc (.cells #[.slice P2 m2 d2, .int .i64 (Q1.getD zeroAt).sq, .int .i64 (Q1.getD zeroAt).tg] 24))
  replace HK4 := Lib.hid ((HK4.out.bel hb1).alloc (.cells #[.slice P2 m2 d2, .int .i64 (Q1.getD zeroAt).sq, .int .i64 (Q1.getD zeroAt).tg] 24))
  replace HK5 := Lib.hid ((HK5.out.bel hb1).alloc (.cells #[.slice P2 m2 d2, .int .i64 (Q1.getD zeroAt).sq, .int .i64 (Q1.getD zeroAt).tg] 24))
  replace HK11 := Lib.hid ((HK11.out.bel hb1).alloc (.cells #[.slice P2 m2 d2, .int .i64 (Q1.getD zeroAt).sq, .int .i64 (Q1.getD zeroAt).tg] 24))
  replace HRa := Lib.hid ((HRa.out.below hb1).alloc (.cells #[.slice P2 m2 d2, .int .i64 (Q1.getD zeroAt).sq, .int .i64 (Q1.getD zeroAt).tg] 24))
  replace HRb := Lib.hid ((HRb.out.below hb1).alloc (.cells #[.slice P2 m2 d2, .int .i64 (Q1.getD zeroAt).sq, .int .i64 (Q1.getD zeroAt).tg] 24))
  replace HRg := Lib.hid ((HRg.out.below hb1).alloc (.cells #[.slice P2 m2 d2, .int .i64 (Q1.getD zeroAt).sq, .int .i64 (Q1.getD zeroAt).tg] 24))
  replace HRp := Lib.hid ((HRp.out.below hb1).alloc (.cells #[.slice P2 m2 d2, .int .i64 (Q1.getD zeroAt).sq, .int .i64 (Q1.getD zeroAt).tg] 24))
  replace HLx := Lib.hid (lies_upa (lies_up HLx.out hb1) (.cells #[.slice P2 m2 d2, .int .i64 (Q1.getD zeroAt).sq, .int .i64 (Q1.getD zeroAt).tg] 24))
  replace HLo := Lib.hid (lies_upa (lies_up HLo.out hb1) (.cells #[.slice P2 m2 d2, .int .i64 (Q1.getD zeroAt).sq, .int .i64 (Q1.getD zeroAt).tg] 24))
  replace HLi := Lib.hid (lies_upa (lies_up HLi.out hb1) (.cells #[.slice P2 m2 d2, .int .i64 (Q1.getD zeroAt).sq, .int .i64 (Q1.getD zeroAt).tg] 24))
  replace HBW := Lib.hid (bel_alloc (bel_trans HBW.out hb1) (.cells #[.slice P2 m2 d2, .int .i64 (Q1.getD zeroAt).sq, .int .i64 (Q1.getD zeroAt).tg] 24))
  clear x20 x21 x22 x23
  clear hb1 HT2 hx
  have HK12 := HN
  have HRq := HRN
  clear HN HRN
  obtain ⟨x20, x21, x22, x23⟩ := blk4 HK2.out
  go_wp2_with fail
  refine (HT3.out _ HLx.out).mono ?_
  rintro e u3 ⟨P3, m3, d3, rfl, hx, hb1, -⟩
  have HN := Lib.hid (Blk.new u3 24 #[.slice P3 m3 d3, .int .i64 (Q2.getD zeroAt).sq, .int .i64 (Q2.getD zeroAt).tg])
  have HRN := Lib.hid (hx.alloc (.cells #[.slice P3 m3 d3, .int .i64 (Q2.getD zeroAt).sq, .int .i64 (Q2.getD zeroAt).tg] 24))
  replace HK1 := Lib.hid ((HK1.out.bel hb1).alloc (.cells #[.slice P3 m3 d3, .int .i64 (Q2.getD zeroAt).sq, .int .i64 (Q2.getD zeroAt).tg] 24))
  replace HK2 := Lib.hid ((HK2.out.bel hb1).alloc (.cells #[.slice P3 m3 d3, .int .i64 (Q2.getD zeroAt).sq, .int .i64 (Q2.getD zeroAt).tg] 24))
  replace HK3 := Lib.hid ((HK3.out.bel hb1).alloc (.cells #[.slice P3 m3 d3, .int .i64 (Q2.getD zeroAt).sq, .int .i64 (Q2.getD zeroAt).tg] 24))
  replace HK4 := Lib.hid ((HK4.out.bel hb1).alloc (.cells #[.slice P3 m3 d3, .int .i64 (Q2.getD zeroAt).sq, .int .i64 (Q2.getD zeroAt).tg] 24))
  replace HK5 := Lib.hid ((HK5.out.bel hb1).alloc (.cells #[.slice P3 m3 d3, .int .i64 (Q2.getD zeroAt).sq, .int .i64 (Q2.getD zeroAt).tg] 24))
  replace HK11 := Lib.hid ((HK11.out.bel hb1).alloc (.cells #[.slice P3 m3 d3, .int .i64 (Q2.getD zeroAt).sq, .int .i64 (Q2.getD zeroAt).tg] 24))
  replace HK12 := Lib.hid ((HK12.out.bel hb1).alloc (.cells #[.slice P3 m3 d3, .int .i64 (Q2.getD zeroAt).sq, .int .i64 (Q2.getD zeroAt).tg] 24))
  replace HRa := Lib.hid ((HRa.out.below hb1).alloc (.cells #[.slice P3 m3 d3, .int .i64 (Q2.getD zeroAt).sq, .int .i64 (Q2.getD zeroAt).tg] 24))
  replace HRb := Lib.hid ((HRb.out.below hb1).alloc (.cells #[.slice P3 m3 d3, .int .i64 (Q2.getD zeroAt).sq, .int .i64 (Q2.getD zeroAt).tg] 24))
  replace HRg := Lib.hid ((HRg.out.below hb1).alloc (.cells #[.slice P3 m3 d3, .int .i64 (Q2.getD zeroAt).sq, .int .i64 (Q2.getD zeroAt).tg] 24))
  replace HRp := Lib.hid ((HRp.out.below hb1).alloc (.cells #[.slice P3 m3 d3, .int .i64 (Q2.getD zeroAt).sq, .int .i64 (Q2.getD zeroAt).tg] 24))
  replace HRq := Lib.hid ((HRq.out.below hb1).alloc (.cells #[.slice P3 m3 d3, .int .i64 (Q2.getD zeroAt).sq, .int .i64 (Q2.getD zeroAt).tg] 24))
  replace HLx := Lib.hid (lies_upa (lies_up HLx.out hb1) (.cells #[.slice P3 m3 d3, .int .i64 (Q2.getD zeroAt).sq, .int .i64 (Q2.getD zeroAt).tg] 24))
  replace HLo := Lib.hid (lies_upa (lies_up HLo.out hb1) (.cells #[.slice P3 m3 d3, .int .i64 (Q2.getD zeroAt).sq, .int .i64 (Q2.getD zeroAt).tg] 24))
  replace HLi := Lib.hid (lies_upa (lies_up HLi.out hb1) (.cells #[.slice P3 m3 d3, .int .i64 (Q2.getD zeroAt).sq, .int .i64 (Q2.getD zeroAt).tg] 24))
  replace HBW := Lib.hid (bel_alloc (bel_trans HBW.out hb1) (.cells #[.slice P3 m3 d3, .int .i64 (Q2.getD zeroAt).sq, .int .i64 (Q2.getD zeroAt).tg] 24))
  clear x20 x21 x22 x23
  clear hb1 HT3 hx
  have HK13 := HN
  have HRf := HRN
  clear HN HRN
  obtain ⟨x20, x21, x22, x23⟩ := blk4 HK2.out
  go_wp2_with fail
  refine (HT4.out _ HLx.out).mono ?_
  rintro e u4 ⟨P4, m4, d4, rfl, hx, hb1, -⟩
  have HN := Lib.hid (Blk.new u4 24 #[.slice P4 m4 d4, .int .i64 (Q2.getD zeroAt).sq, .int .i64 (Q2.getD zeroAt).tg])
  have HRN := Lib.hid (hx.alloc (.cells #[.slice P4 m4 d4, .int .i64 (Q2.getD zeroAt).sq, .int .i64 (Q2.getD zeroAt).tg] 24))
  replace HK1 := Lib.hid ((HK1.out.bel hb1).alloc (.cells #[.slice P4 m4 d4, .int .i64 (Q2.getD zeroAt).sq, .int .i64 (Q2.getD zeroAt).tg] 24))
  replace HK2 := Lib.hid ((HK2.out.bel hb1).alloc (.cells #[.slice P4 m4 d4, .int .i64 (Q2.getD zeroAt).sq, .int .i64 (Q2.getD zeroAt).tg] 24))
  replace HK3 := Lib.hid ((HK3.out.bel hb1).alloc (.cells #[.slice P4 m4 d4, .int .i64 (Q2.getD zeroAt).sq, .int .i64 (Q2.getD zeroAt).tg] 24))
  replace HK4 := Lib.hid ((HK4.out.bel hb1).alloc (.cells #[.slice P4 m4 d4, .int .i64 (Q2.getD zeroAt).sq, .int .i64 (Q2.getD zeroAt).tg] 24))
  replace HK5 := Lib.hid ((HK5.out.bel hb1).alloc (.cells #[.slice P4 m4 d4, .int .i64 (Q2.getD zeroAt).sq, .int .i64 (Q2.getD zeroAt).tg] 24))
  replace HK11 := Lib.hid ((HK11.out.bel hb1).alloc (.cells #[.slice P4 m4 d4, .int .i64 (Q2.getD zeroAt).sq, .int .i64 (Q2.getD zeroAt).tg] 24))
  replace HK12 := Lib.hid ((HK12.out.bel hb1).alloc (.cells #[.slice P4 m4 d4, .int .i64 (Q2.getD zeroAt).sq, .int .i64 (Q2.getD zeroAt).tg] 24))
  replace HK13 := Lib.hid ((HK13.out.bel hb1).alloc (.cells #[.slice P4 m4 d4, .int .i64 (Q2.getD zeroAt).sq, .int .i64 (Q2.getD zeroAt).tg] 24))
  replace HRa := Lib.hid ((HRa.out.below hb1).alloc (.cells #[.slice P4 m4 d4, .int .i64 (Q2.getD zeroAt).sq, .int .i64 (Q2.getD zeroAt).tg] 24))
  replace HRb := Lib.hid ((HRb.out.below hb1).alloc (.cells #[.slice P4 m4 d4, .int .i64 (Q2.getD zeroAt).sq, .int .i64 (Q2.getD zeroAt).tg] 24))
  replace HRg := Lib.hid ((HRg.out.below hb1).alloc (.cells #[.slice P4 m4 d4, .int .i64 (Q2.getD zeroAt).sq, .int .i64 (Q2.getD zeroAt).tg] 24))
  replace HRp := Lib.hid ((HRp.out.below hb1).alloc (.cells #[.slice P4 m4 d4, .int .i64 (Q2.getD zeroAt).sq, .int .i64 (Q2.getD zeroAt).tg] 24))
  replace HRq := Lib.hid ((HRq.out.below hb1).alloc (.cells #[.slice P4 m4 d4, .int .i64 (Q2.getD zeroAt).sq, .int .i64 (Q2.getD zeroAt).tg] 24))
  replace HRf := Lib.hid ((HRf.out.below hb1).alloc (.cells #[.slice P4 m4 d4, .int .i64 (Q2.getD zeroAt).sq, .int .i64 (Q2.getD zeroAt).tg] 24))
  replace HLx := Lib.hid (lies_upa (lies_up HLx.out hb1) (.cells #[.slice P4 m4 d4, .int .i64 (Q2.getD zeroAt).sq, .int .i64 (Q2.getD zeroAt).tg] 24))
  replace HLo := Lib.hid (lies_upa (lies_up HLo.out hb1) (.cells #[.slice P4 m4 d4, .int .i64 (Q2.getD zeroAt).sq, .int .i64 (Q2.getD zeroAt).tg] 24))
  replace HLi := Lib.hid (lies_upa (lies_up HLi.out hb1) (.cells #[.slice P4 m4 d4, .int .i64 (Q2.getD zeroAt).sq, .int .i64 (Q2.getD zeroAt).tg] 24))
  replace HBW := Lib.hid (bel_alloc (bel_trans HBW.out hb1) (.cells #[.slice P4 m4 d4, .int .i64 (Q2.getD zeroAt).sq, .int .i64 (Q2.getD zeroAt).tg] 24))
  clear x20 x21 x22 x23
  clear hb1 HT4 hx
  have HK14 := HN
  have HRh := HRN
  clear HN HRN
  obtain ⟨x110, x111, x112⟩ := blk3 HK11.out
  obtain ⟨x120, x121, x122⟩ := blk3 HK12.out
  go_wp2_with fail
  refine (HS1.out _ _ _ _ _ _ _ HRp.out HRq.out).mono ?_
  rintro e u5 ⟨rfl, hb1⟩
  replace HK1 := Lib.hid ((HK1.out.bel hb1))
  replace HK2 := Lib.hid ((HK2.out.bel hb1))
  replace HK3 := Lib.hid ((HK3.out.bel hb1))
  replace HK4 := Lib.hid ((HK4.out.bel hb1))
  replace HK5 := Lib.hid ((HK5.out.bel hb1))
  replace HK11 := Lib.hid ((HK11.out.bel hb1))
  replace HK12 := Lib.hid ((HK12.out.bel hb1))
  replace HK13 := Lib.hid ((HK13.out.bel hb1))
  replace HK14 := Lib.hid ((HK14.out.bel hb1))
  replace HRa := Lib.hid ((HRa.out.below hb1))
  replace HRb := Lib.hid ((HRb.out.below hb1))
  replace HRg := Lib.hid ((HRg.out.below hb1))
  replace HRp := Lib.hid ((HRp.out.below hb1))
  replace HRq := Lib.hid ((HRq.out.below hb1))
  replace HRf := Lib.hid ((HRf.out.below hb1))
  replace HRh := Lib.hid ((HRh.out.below hb1))
  replace HLx := Lib.hid (lies_up HLx.out hb1)
  replace HLo := Lib.hid (lies_up HLo.out hb1)
  replace HLi := Lib.hid (lies_up HLi.out hb1)
  replace HBW := Lib.hid (bel_trans HBW.out hb1)
  clear x110 x111 x112 x120 x121 x122
  clear hb1 HS1
  obtain ⟨x130, x131, x132⟩ := blk3 HK13.out
  obtain ⟨x140, x141, x142⟩ := blk3 HK14.out
  go_wp2_with fail
  refine (HS2.out _ _ _ _ _ _ _ HRf.out HRh.out).mono ?_
  rintro e u6 ⟨rfl, hb1⟩
  replace HK1 := Lib.hid ((HK1.out.bel hb1))
  replace HK2 := Lib.hid ((HK2.out.bel hb1))
  replace HK3 := Lib.hid ((HK3.out.bel hb1))
  replace HK4 := Lib.hid ((HK4.out.bel hb1))
  replace HK5 := Lib.hid ((HK5.out.bel hb1))
  replace HK11 := Lib.hid ((HK11.out.bel hb1))
  replace HK12 := Lib.hid ((HK12.out.bel hb1))
  replace HK13 := Lib.hid ((HK13.out.bel hb1))
  replace HK14 := Lib.hid ((HK14.out.bel hb1))
  replace HRa := Lib.hid ((HRa.out.below hb1))
  replace HRb := Lib.hid ((HRb.out.below hb1))
  replace HRg := Lib.hid ((HRg.out.below hb1))
  replace HRp := Lib.hid ((HRp.out.below hb1))
  replace HRq := Lib.hid ((HRq.out.below hb1))
  replace HRf := Lib.hid ((HRf.out.below hb1))
  replace HRh := Lib.hid ((HRh.out.below hb1))
  replace HLx := Lib.hid (lies_up HLx.out hb1)
  replace HLo := Lib.hid (lies_up HLo.out hb1)
  replace HLi := Lib.hid (lies_up HLi.out hb1)
  replace HBW := Lib.hid (bel_trans HBW.out hb1)
  clear x130 x131 x132 x140 x141 x142
  clear hb1 HS2
  go_wp2_with fail
  refine (HA.out _).mono ?_
  rintro e u7 ⟨rfl, hb1⟩
  replace HK1 := Lib.hid ((HK1.out.bel hb1))
  replace HK2 := Lib.hid ((HK2.out.bel hb1))
  replace HK3 := Lib.hid ((HK3.out.bel hb1))
  replace HK4 := Lib.hid ((HK4.out.bel hb1))
  replace HK5 := Lib.hid ((HK5.out.bel hb1))
  replace HK11 := Lib.hid ((HK11.out.bel hb1))
  replace HK12 := Lib.hid ((HK12.out.bel hb1))
  replace HK13 := Lib.hid ((HK13.out.bel hb1))
  replace HK14 := Lib.hid ((HK14.out.bel hb1))
  replace HRa := Lib.hid ((HRa.out.below hb1))
  replace HRb := Lib.hid ((HRb.out.below hb1))
  replace HRg := Lib.hid ((HRg.out.below hb1))
  replace HRp := Lib.hid ((HRp.out.below hb1))
  replace HRq := Lib.hid ((HRq.out.below hb1))
  replace HRf := Lib.hid ((HRf.out.below hb1))
  replace HRh := Lib.hid ((HRh.out.below hb1))
  replace HLx := Lib.hid (lies_up HLx.out hb1)
  replace HLo := Lib.hid (lies_up HLo.out hb1)
  replace HLi := Lib.hid (lies_up HLi.out hb1)
  replace HBW := Lib.hid (bel_trans HBW.out hb1)
  clear hb1
  go_wp2_with fail
  go_ret
  exact ⟨rfl, HBW.out⟩
end Go.Proofs.Ytccbkpdkmdnmfaa
