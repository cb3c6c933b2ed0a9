/-
  Texts of earlier layers, as one.
-/
import Derived.Test.YtbjooblaamjppaaGreatRecRefTake
import Derived.Test.YtbjooblaamjppaaGreatRecRefTakeOld
import Derived.Test.YtbjooblaamjppaaGreatRecAwake
import Derived.Test.YtbjooblaamjppaaGreatRecSame
import Derived.Test.YtbjooblaamjppaaGreatRecRight
import Derived.Test.YtbjooblaamjppaaGreatRCodS
import Derived.Deep.Cut
import Derived.Deep.RegionHeld
/- RecItems answers true. -/
namespace Go.Proofs.YtbjooblaamjppaaGreat.Rk
open Go.RowKit Mem Ids Att Cod

theorem lup {w w' : World} {x : It} {A : Option Addr} {c : Nat} (h : Lies w (fun b => b < w.heap.size) x A c) (hb : Below w.heap.size w w') : Lies w' (fun b => b < w'.heap.size) x A c :=
  (h.below hb fun _ hb => hb).more fun _ hb' _ => Nat.lt_of_lt_of_le hb' hb.size
theorem len_wts (l : List It) : l.length ≤ wts l := by
  induction l with
  | nil => exact Nat.zero_le _
  | cons y l ih =>
    have := wt_pos y
    simp only [wts, List.length_cons]
    omega
theorem wt_getD (x : It) (i : Nat) : wt (x.kids.getD i Cmd.zeroIt) ≤ wt x := by
  by_cases h : i < x.kids.length
  · have e : x.kids.getD i Cmd.zeroIt = x.kids[i] := by rw [List.getD_eq_getElem?_getD, List.getElem?_eq_getElem h]; rfl
    rw [e]
    have h1 := wt_mem (List.getElem_mem h)
    have h3 := wt_eq x
    omega
  · have e : x.kids.getD i Cmd.zeroIt = Cmd.zeroIt := by rw [List.getD_eq_getElem?_getD, List.getElem?_eq_none (by omega)]; rfl
    rw [e]
    have h1 : wt Cmd.zeroIt = 1 := by decide
    have := wt_pos x
    omega
theorem len_wt (x : It) : x.kids.length ≤ wt x := by
  have h1 := len_wts x.kids
  have h3 := wt_eq x
  omega
theorem key_wt (x : It) : (Cmd.kid (x.kids.getD 5 Cmd.zeroIt) 3).str.size ≤ wt x := by
  have h1 := wt_getD x 5
  have h2 : wt (Cmd.kid (x.kids.getD 5 Cmd.zeroIt) 3) ≤ wt (x.kids.getD 5 Cmd.zeroIt) := wt_getD _ 3
  have h3 := wt_eq (Cmd.kid (x.kids.getD 5 Cmd.zeroIt) 3)
  omega
theorem len_recOld (r : Rc) : (recOld r).1.kids.length ≤ 1000000000 := by
  unfold recOld
  split
  · split
    · decide
    · show (if r.st = 0 then fronts r else fronts r ++ [Cmd.cmIt r.cm, oldIt r.at_]).length ≤ _
      split
      · show 5 ≤ _; decide
      · show 7 ≤ _; decide
  · decide
/-- The ending: a record of these parts, what it hangs on in memory, and a bool. -/
def TakesTo (w : World) (q : Rc) (m : Bool) (e : Ending) (w' : World) : Prop :=
  ∃ V nv cv, e = .returned (.tuple #[.agg #[.int .i64 q.id.1, .int .i64 q.id.2, .int .i64 q.st, .int .i64 q.bl.1, .int .i64 q.bl.2, .int .i64 q.tk.1, .int .i64 q.tk.2, .int .i64 q.cm.kd, .int .i64 q.cm.cl, .int .i64 q.cm.sq, .string q.cm.ky, .string q.cm.vl, .int .i64 q.cm.rv, .slice V nv cv, .int .i64 q.at_.sq, .int .i64 q.at_.tg], .bool m]) ∧ Rs w' V nv cv q.at_.dp ∧ Below w.heap.size w w'
theorem TakesRc.to {w : World} {r : Option Rc} {e : Ending} {w' : World} (h : TakesRc w r e w') : TakesTo w (r.getD zeroRc) r.isSome e w' := by
  obtain ⟨q, V, nv, cv, he, rfl, hr, _, hb⟩ := h
  exact ⟨V, nv, cv, he, hr, hb⟩

set_option maxRecDepth 100000 in
set_option maxHeartbeats 16000000 in
theorem recitems_true (aR aN aS aB aC aT aU aK aL aQ : Int) (aY aV : ByteArray) (aZ : Int) (aA : Option Addr) (an ac : Nat) (aE aG : Int) (al : List (Int × Int)) (x : It) (B : Option Addr) (d : Nat) (w : World) (ha : Rs w aA an ac al) (hx : Lies w (fun b => b < w.heap.size) x B d) :
    Calls Tryz.prog 3 #[.agg #[.int .i64 aR, .int .i64 aN, .int .i64 aS, .int .i64 aB, .int .i64 aC, .int .i64 aT, .int .i64 aU, .int .i64 aK, .int .i64 aL, .int .i64 aQ, .string aY, .string aV, .int .i64 aZ, .slice aA an ac, .int .i64 aE, .int .i64 aG], .agg #[.int .i64 x.kind, .int .u64 (x.num : Int), .string x.str, .slice B x.kids.length d]] w (Tells true w) := by
  obtain ⟨W, hW⟩ : ∃ W, (w.alloc (.cells #[.int .i64 aR, .int .i64 aN, .int .i64 aS, .int .i64 aB, .int .i64 aC, .int .i64 aT, .int .i64 aU, .int .i64 aK, .int .i64 aL, .int .i64 aQ, .string aY, .string aV, .int .i64 aZ, .slice aA an ac, .int .i64 aE, .int .i64 aG] 32)).alloc (.cells #[.int .i64 x.kind, .int .u64 (x.num : Int), .string x.str, .slice B x.kids.length d] 36) = W := ⟨_, rfl⟩
  obtain ⟨k1, k2, kb, hsW⟩ := two_kinds w _ _ _ _ W hW
  have HKa := Lib.hid k1
  have HKx := Lib.hid k2
  have HB := Lib.hid kb
  have HW := Lib.hid hW
  have HRa := Lib.hid (ha.below kb)
  have HLx := Lib.hid (lup hx kb)
  have HAW := Lib.hid (fun w => awake_any w)
  have HGa := Lib.hid (fun w (h : Rs w aA an ac al) => great_any aR aN aS aB aC aT aU aK aL aQ aY aV aZ aA an ac aE aG al w h)
  have hga : (decide (al.length > 60) || Cmd.great ⟨aK, aL, aQ, aY, aV, aZ⟩) = false → aY.size ≤ 1073741824 := by
    intro h
    rw [Bool.or_eq_false_iff] at h
    have h2 := h.2
    unfold Cmd.great at h2
    rw [Bool.or_eq_false_iff] at h2
    have h3 := of_decide_eq_false h2.1
    simp only at h3
    omega
  generalize (decide (al.length > 60) || Cmd.great ⟨aK, aL, aQ, aY, aV, aZ⟩) = ga at HGa hga
  have HSZ := Lib.hid (fun v (h : Lies v (fun b => b < v.heap.size) x B d) => sizeof_any 400 (by omega) 40 x B d (fun b => b < v.heap.size) v (by omega) h)
  have HGA := Lib.hid hga
  have HC := Lib.hid (Below.refl W.heap.size W)
  clear k1 k2 kb hW ha hx hsW hga
  go_enter Tryz.func3, Tryz.ntmps3
  go_upto_region 1 with fail
  rw [HW.out]
  clear HW
  go_wp2_with (first | (refine wpList_load_blk_w 32 _ rfl w.heap.size 32 #[.int .i64 aR, .int .i64 aN, .int .i64 aS, .int .i64 aB, .int .i64 aC, .int .i64 aT, .int .i64 aU, .int .i64 aK, .int .i64 aL, .int .i64 aQ, .string aY, .string aV, .int .i64 aZ, .slice aA an ac, .int .i64 aE, .int .i64 aG] _ rfl ?_ (HKa.out.bel HC.out) Tryz.underlying32 rfl (by kernel_rfl) ?_; (focus rfl)))
  refine (HGa.out _ (HRa.out.below HC.out)).mono ?_
  rintro e u1 ⟨rfl, hb1⟩
  replace HC := Lib.hid (bel_trans HC.out hb1)
  clear hb1
  cases ga with
  | false =>
    obtain ⟨xx0, xx1, xx2, xx3⟩ := blk4 (HKx.out.bel HC.out)
    go_wp2_with fail
    refine (HSZ.out _ (lup HLx.out HC.out)).mono ?_
    rintro e u9 ⟨r, rfl, r0, r1, hwt, hb1⟩
    replace HC := Lib.hid (bel_trans HC.out hb1)
    clear hb1
    clear xx0 xx1 xx2 xx3
    by_cases hr : 400 < r
    · skip
      have b2 : decide ((400 : Int) < r) = true := decide_eq_true hr
      clear hwt
      go_wp2_with fail
      refine (HAW.out _).mono ?_
      rintro e u2 ⟨rfl, hb1⟩
      replace HC := Lib.hid (bel_trans HC.out hb1)
      clear hb1
      go_wp2_with fail
      go_ret
      exact ⟨rfl, HB.out.trans (HC.out.mono HB.out.size)⟩
    · skip
      have b2 : decide ((400 : Int) < r) = false := decide_eq_false hr
      have hwx := hwt (by omega)
      clear hwt r0 r1
      have hy := HGA.out (by simp)
      have hln : x.kids.length ≤ 1000000000 := by have := len_wt x; omega
      have hks : (Cmd.kid (x.kids.getD 5 Cmd.zeroIt) 3).str.size ≤ 1073741824 := by have := key_wt x; omega
      have hrr := fun v (h : Rs v aA an ac al) => refright_any aR aN aS aB aC aT aU aK aL aQ aY aV aZ aA an ac aE aG al v h hy
      have hi1 := fun v (h : Rs v aA an ac al) => item_any aR aN aS aB aC aT aU aK aL aQ aY aV aZ aA an ac aE aG al v h
      have hi2 := fun (hc : rgt ⟨(aR, aN), aS, (aB, aC), (aT, aU), ⟨aK, aL, aQ, aY, aV, aZ⟩, ⟨al, aE, aG⟩⟩ = true) v (h : Rs v aA an ac al) => refitem_any aR aN aS aB aC aT aU aK aL aQ aY aV aZ aA an ac aE aG al v h hc
      have hit : rgt ⟨(aR, aN), aS, (aB, aC), (aT, aU), ⟨aK, aL, aQ, aY, aV, aZ⟩, ⟨al, aE, aG⟩⟩ = true → recItem ⟨(aR, aN), aS, (aB, aC), (aT, aU), ⟨aK, aL, aQ, aY, aV, aZ⟩, ⟨al, aE, aG⟩⟩ = recIt ⟨(aR, aN), aS, (aB, aC), (aT, aU), ⟨aK, aL, aQ, aY, aV, aZ⟩, ⟨al, aE, aG⟩⟩ := fun h => if_pos h
      have hbk : rgt ⟨(aR, aN), aS, (aB, aC), (aT, aU), ⟨aK, aL, aQ, aY, aV, aZ⟩, ⟨al, aE, aG⟩⟩ = true → takeRc (recItem ⟨(aR, aN), aS, (aB, aC), (aT, aU), ⟨aK, aL, aQ, aY, aV, aZ⟩, ⟨al, aE, aG⟩⟩) = some ⟨(aR, aN), aS, (aB, aC), (aT, aU), ⟨aK, aL, aQ, aY, aV, aZ⟩, ⟨al, aE, aG⟩⟩ := fun h => rec_back h
      have hln1 := len_recItem ⟨(aR, aN), aS, (aB, aC), (aT, aU), ⟨aK, aL, aQ, aY, aV, aZ⟩, ⟨al, aE, aG⟩⟩
      have hwt1 := wt_recItem ⟨(aR, aN), aS, (aB, aC), (aT, aU), ⟨aK, aL, aQ, aY, aV, aZ⟩, ⟨al, aE, aG⟩⟩
      have ho1 := fun v (h : Rs v aA an ac al) => old_any aR aN aS aB aC aT aU aK aL aQ aY aV aZ aA an ac aE aG al v h
      have ho2 := fun v (h : Rs v aA an ac al) => refold_any aR aN aS aB aC aT aU aK aL aQ aY aV aZ aA an ac aE aG al v h hy
      have hbo : (recOld ⟨(aR, aN), aS, (aB, aC), (aT, aU), ⟨aK, aL, aQ, aY, aV, aZ⟩, ⟨al, aE, aG⟩⟩).2 = 0 → oldTakeRc (recOld ⟨(aR, aN), aS, (aB, aC), (aT, aU), ⟨aK, aL, aQ, aY, aV, aZ⟩, ⟨al, aE, aG⟩⟩).1 = some ⟨(aR, aN), aS, (aB, aC), (aT, aU), ⟨aK, aL, aQ, aY, aV, aZ⟩, ⟨al, aE, aG⟩⟩ := fun h => old_back h
      have hln2 := len_recOld ⟨(aR, aN), aS, (aB, aC), (aT, aU), ⟨aK, aL, aQ, aY, aV, aZ⟩, ⟨al, aE, aG⟩⟩
      have hwt2 := wt_recOld ⟨(aR, aN), aS, (aB, aC), (aT, aU), ⟨aK, aL, aQ, aY, aV, aZ⟩, ⟨al, aE, aG⟩⟩
      have hsm := rsame_refl ⟨(aR, aN), aS, (aB, aC), (aT, aU), ⟨aK, aL, aQ, aY, aV, aZ⟩, ⟨al, aE, aG⟩⟩
      have hsa := fun v V nv cv (h : Rs v aA an ac al) (h' : Rs v V nv cv al) => refrsame_any aR aN aS aB aC aT aU aK aL aQ aY aV aZ aA an ac aE aG al aR aN aS aB aC aT aU aK aL aQ aY aV aZ V nv cv aE aG al v h h'
      rw [hsm] at hsa
      have HS0 := Lib.hid hsa
      generalize recOld ⟨(aR, aN), aS, (aB, aC), (aT, aU), ⟨aK, aL, aQ, aY, aV, aZ⟩, ⟨al, aE, aG⟩⟩ = p at ho1 ho2 hbo hln2 hwt2
      obtain ⟨y, ye⟩ := p
      simp only at hbo hln2 hwt2
      generalize recItem ⟨(aR, aN), aS, (aB, aC), (aT, aU), ⟨aK, aL, aQ, aY, aV, aZ⟩, ⟨al, aE, aG⟩⟩ = z at hi1 hit hbk hln1 hwt1
      generalize recIt ⟨(aR, aN), aS, (aB, aC), (aT, aU), ⟨aK, aL, aQ, aY, aV, aZ⟩, ⟨al, aE, aG⟩⟩ = z2 at hi2 hit
      generalize rgt ⟨(aR, aN), aS, (aB, aC), (aT, aU), ⟨aK, aL, aQ, aY, aV, aZ⟩, ⟨al, aE, aG⟩⟩ = g at hrr hi2 hit hbk
      have HRR := Lib.hid hrr
      have HI1 := Lib.hid hi1
      have HI2 := Lib.hid hi2
      have HIT := Lib.hid hit
      have HBK := Lib.hid hbk
      have HLN1 := Lib.hid hln1
      have HWT1 := Lib.hid hwt1
      have HO1 := Lib.hid ho1
      have HO2 := Lib.hid ho2
      have HBO := Lib.hid hbo
      have HLN2 := Lib.hid hln2
      have HSY := Lib.hid (fun v V c V' c' (h : Lies v (fun b => b < v.heap.size) y V c) (h' : Lies v (fun b => b < v.heap.size) y V' c') => same_item y y V V' c c' _ v h h' (fun _ h => h) hwt2)
      have hx1 := fun v (h : Lies v (fun b => b < v.heap.size) x B d) => Calls.mono (take_any x B d _ v h (fun _ h => h) hln) fun e w' h => TakesRc.to h
      have hx2 := fun v (h : Lies v (fun b => b < v.heap.size) x B d) => Calls.mono (ref_takes x B d _ v h (fun _ h => h) hks) fun e w' h => TakesRc.to h
      have hx3 := fun v (h : Lies v (fun b => b < v.heap.size) x B d) => Calls.mono (takeold_any x B d _ v h (fun _ h => h) hln) fun e w' h => TakesRc.to h
      have hx4 := fun v (h : Lies v (fun b => b < v.heap.size) x B d) => Calls.mono (refold_take x B d _ v h (fun _ h => h) hks) fun e w' h => TakesRc.to h
      rw [ref_take] at hx2
      rw [ref_old] at hx4
      generalize (takeRc x).getD zeroRc = q1 at hx1 hx2
      generalize (takeRc x).isSome = m1 at hx1 hx2
      generalize (oldTakeRc x).getD zeroRc = q2 at hx3 hx4
      generalize (oldTakeRc x).isSome = m2 at hx3 hx4
      obtain ⟨⟨bR, bN⟩, bS, ⟨bB, bC⟩, ⟨bT, bU⟩, ⟨bK, bL, bQ, bY, bV, bZ⟩, ⟨bl, bE, bG⟩⟩ := q1
      obtain ⟨⟨dR, dN⟩, dS, ⟨dB, dC⟩, ⟨dT, dU⟩, ⟨dK, dL, dQ, dY, dV, dZ⟩, ⟨dl, dE, dG⟩⟩ := q2
      have HX1 := Lib.hid hx1
      have HX2 := Lib.hid hx2
      have HX3 := Lib.hid hx3
      have HX4 := Lib.hid hx4
      have hs1 := fun v V nv cv V' nv' cv' (h : Rs v V nv cv bl) (h' : Rs v V' nv' cv' bl) => refrsame_any bR bN bS bB bC bT bU bK bL bQ bY bV bZ V nv cv bE bG bl bR bN bS bB bC bT bU bK bL bQ bY bV bZ V' nv' cv' bE bG bl v h h'
      have hs2 := fun v V nv cv V' nv' cv' (h : Rs v V nv cv dl) (h' : Rs v V' nv' cv' dl) => refrsame_any dR dN dS dB dC dT dU dK dL dQ dY dV dZ V nv cv dE dG dl dR dN dS dB dC dT dU dK dL dQ dY dV dZ V' nv' cv' dE dG dl v h h'
      rw [rsame_refl] at hs1 hs2
      have HS1 := Lib.hid hs1
      have HS2 := Lib.hid hs2
      clear hrr hi1 hi2 hit hbk hln1 hwt1 ho1 ho2 hbo hln2 hwt2 hsm hsa hx1 hx2 hx3 hx4 hs1 hs2 hln hks hy hwx HSZ HGA
      go_upto_region 3 with fail
      go_cut [30] from 21 (fun cv wx => cv = .bool g ∧ Below W.heap.size W wx)
      case first =>
        go_wp2_with (first | (refine wpList_load_blk_w 32 _ rfl w.heap.size 32 #[.int .i64 aR, .int .i64 aN, .int .i64 aS, .int .i64 aB, .int .i64 aC, .int .i64 aT, .int .i64 aU, .int .i64 aK, .int .i64 aL, .int .i64 aQ, .string aY, .string aV, .int .i64 aZ, .slice aA an ac, .int .i64 aE, .int .i64 aG] _ rfl ?_ (HKa.out.bel HC.out) Tryz.underlying32 rfl (by kernel_rfl) ?_; (focus rfl)))
        refine (HRR.out _ (HRa.out.below HC.out)).mono ?_
        rintro e u2 ⟨rfl, hb1⟩
        replace HC := Lib.hid (bel_trans HC.out hb1)
        clear hb1 HRR
        go_wp2_with fail
        go_meet
        case rel => exact ⟨rfl, HC.out⟩
      case rest =>
        obtain ⟨rfl, hbx⟩ := hcut
        generalize wc = Wx at hbx ⊢
        replace HC := Lib.hid hbx
        clear hbx
        go_upto_if 30 with fail
        go_cut [] from 21 (fun wx => Below W.heap.size W wx)
        case first =>
          cases g with
          | false =>
            go_wp2_with fail
            go_meet
            case rel => exact HC.out
          | true =>
            as_aux_lemma =>
              obtain rfl := HIT.out rfl
              have hbk := HBK.out rfl
              have hi2 := HI2.out rfl
              clear HIT HBK HI2
              have HI2 := Lib.hid hi2
              have ht0 := fun v V c (h : Lies v (fun b => b < v.heap.size) z V c) => Calls.mono (take_any z V c _ v h (fun _ h => h) HLN1.out) fun e w' h => TakesRc.to h
              rw [hbk] at ht0
              have HT0 := Lib.hid ht0
              have hz := fun v V c V' c' (h : Lies v (fun b => b < v.heap.size) z V c) (h' : Lies v (fun b => b < v.heap.size) z V' c') => same_item z z V V' c c' _ v h h' (fun _ h => h) HWT1.out
              rw [(same_iff z z).2 rfl] at hz
              have HSZ := Lib.hid hz
              clear hbk hi2 ht0 hz
              go_wp2_with (first | (refine wpList_load_blk_w 32 _ rfl w.heap.size 32 #[.int .i64 aR, .int .i64 aN, .int .i64 aS, .int .i64 aB, .int .i64 aC, .int .i64 aT, .int .i64 aU, .int .i64 aK, .int .i64 aL, .int .i64 aQ, .string aY, .string aV, .int .i64 aZ, .slice aA an ac, .int .i64 aE, .int .i64 aG] _ rfl ?_ (HKa.out.bel HC.out) Tryz.underlying32 rfl (by kernel_rfl) ?_; (focus rfl)))
              refine (HI1.out _ (HRa.out.below HC.out)).mono ?_
              rintro e w1 ⟨VI, cI, rfl, hi, hb1⟩
              replace HC := Lib.hid (bel_trans HC.out hb1)
              have HLi := Lib.hid (hi.more (S' := fun b => b < w1.heap.size) fun b hb _ => hb.2)
              clear hb1 hi
              go_wp2_with fail
              refine (HT0.out _ _ _ HLi.out).mono ?_
              rintro e w2 ⟨V5, n5, c5, rfl, hrs, hb1⟩
              simp only at hrs ⊢
              have hcur := bel_trans HC.out hb1
              have hal := bel_alloc hcur (.cells #[.int .i64 aR, .int .i64 aN, .int .i64 aS, .int .i64 aB, .int .i64 aC, .int .i64 aT, .int .i64 aU, .int .i64 aK, .int .i64 aL, .int .i64 aQ, .string aY, .string aV, .int .i64 aZ, .slice V5 n5 c5, .int .i64 aE, .int .i64 aG] 32)
              have hkn := Blk.new w2 32 #[.int .i64 aR, .int .i64 aN, .int .i64 aS, .int .i64 aB, .int .i64 aC, .int .i64 aT, .int .i64 aU, .int .i64 aK, .int .i64 aL, .int .i64 aQ, .string aY, .string aV, .int .i64 aZ, .slice V5 n5 c5, .int .i64 aE, .int .i64 aG]
              have hR5 := hrs.alloc (.cells #[.int .i64 aR, .int .i64 aN, .int .i64 aS, .int .i64 aB, .int .i64 aC, .int .i64 aT, .int .i64 aU, .int .i64 aK, .int .i64 aL, .int .i64 aQ, .string aY, .string aV, .int .i64 aZ, .slice V5 n5 c5, .int .i64 aE, .int .i64 aG] 32)
              obtain ⟨k5, hke⟩ : ∃ k, w2.heap.size = k := ⟨_, rfl⟩
              obtain ⟨W5, hWn⟩ : ∃ v, w2.alloc (.cells #[.int .i64 aR, .int .i64 aN, .int .i64 aS, .int .i64 aB, .int .i64 aC, .int .i64 aT, .int .i64 aU, .int .i64 aK, .int .i64 aL, .int .i64 aQ, .string aY, .string aV, .int .i64 aZ, .slice V5 n5 c5, .int .i64 aE, .int .i64 aG] 32) = v := ⟨_, rfl⟩
              rw [hWn] at hal hkn hR5
              rw [hke] at hkn
              replace HKa := Lib.hid (HKa.out.bel hal)
              replace HKx := Lib.hid (HKx.out.bel hal)
              replace HRa := Lib.hid (HRa.out.below hal)
              replace HLx := Lib.hid (lup HLx.out hal)
              have HCW := Lib.hid hal
              replace HB := Lib.hid (HB.out.trans (hal.mono HB.out.size))
              have HK5 := Lib.hid hkn
              have HR5 := Lib.hid hR5
              replace HC := Lib.hid (Below.refl W5.heap.size W5)
              have HWN := Lib.hid hWn
              have HKE := Lib.hid hke
              clear hcur hkn hWn hke hb1 hal hR5 hrs HT0 HLi
              go_upto_region 5 with fail
              rw [HWN.out, HKE.out]
              clear HWN HKE
              replace HC := Lib.hid (Below.drew HC.out)
              refine wp_region_held_drew (S := (fun w' => Below W5.heap.size W5 w')) (by kernel_rfl) (by with_reducible exact HC.out) (fun hHeld => ?_)
              refine held_take (i := 0) (d := 37) (v := (.agg #[.int .i64 aR, .int .i64 aN, .int .i64 aS, .int .i64 aB, .int .i64 aC, .int .i64 aT, .int .i64 aU, .int .i64 aK, .int .i64 aL, .int .i64 aQ, .string aY, .string aV, .int .i64 aZ, .slice aA an ac, .int .i64 aE, .int .i64 aG])) rfl rfl (by kernel_rfl) (by kernel_rfl) (by kernel_rfl) (fun _ _ _ h => h) (by kernel_rfl) (run_load_blk 32 (.tmp 2) rfl w.heap.size 32 #[.int .i64 aR, .int .i64 aN, .int .i64 aS, .int .i64 aB, .int .i64 aC, .int .i64 aT, .int .i64 aU, .int .i64 aK, .int .i64 aL, .int .i64 aQ, .string aY, .string aV, .int .i64 aZ, .slice aA an ac, .int .i64 aE, .int .i64 aG] _ rfl (fun _ h => HKa.out.bel h) Tryz.underlying32 rfl (by kernel_rfl)) hHeld ?_
              try simp only [List.setIfInBounds_toArray, List.set_cons_zero, List.set_cons_succ]
              refine held_take (i := 2) (d := 39) (v := (.agg #[.int .i64 aR, .int .i64 aN, .int .i64 aS, .int .i64 aB, .int .i64 aC, .int .i64 aT, .int .i64 aU, .int .i64 aK, .int .i64 aL, .int .i64 aQ, .string aY, .string aV, .int .i64 aZ, .slice aA an ac, .int .i64 aE, .int .i64 aG])) rfl rfl (by kernel_rfl) (by kernel_rfl) (by kernel_rfl) (fun _ _ _ h => h) (by kernel_rfl) (run_load_blk 32 (.tmp 2) rfl w.heap.size 32 #[.int .i64 aR, .int .i64 aN, .int .i64 aS, .int .i64 aB, .int .i64 aC, .int .i64 aT, .int .i64 aU, .int .i64 aK, .int .i64 aL, .int .i64 aQ, .string aY, .string aV, .int .i64 aZ, .slice aA an ac, .int .i64 aE, .int .i64 aG] _ rfl (fun _ h => HKa.out.bel h) Tryz.underlying32 rfl (by kernel_rfl)) hHeld ?_
              try simp only [List.setIfInBounds_toArray, List.set_cons_zero, List.set_cons_succ]
              refine wpAnyH_ready (rs := [1]) (by kernel_rfl) (by simp) ?_
              refine AllReadyH.cons rfl (fun K hK => ?_) AllReadyH.nil
              go_simp
              go_at_call 9
              refine (HI1.out _ (HRa.out.below HC.out)).mono ?_
              rintro e v1 ⟨V1, c1, rfl, hl1, hb1⟩
              have HL1 := Lib.hid (hl1.more (S' := fun b => b < v1.heap.size) fun b hb _ => hb.2)
              clear hl1
              replace HC := Lib.hid (bel_trans HC.out hb1)
              clear hb1
              refine hK.out _ _ (by with_reducible exact HC.out) (fun hHeld => ?_)
              clear hK K
              refine wpAnyH_ready (rs := [3]) (by kernel_rfl) (by simp) ?_
              refine AllReadyH.cons rfl (fun K hK => ?_) AllReadyH.nil
              go_simp
              go_at_call 11
              refine (HI2.out _ (HRa.out.below HC.out)).mono ?_
              rintro e v2 ⟨V2, c2, rfl, hl2, hb1⟩
              have HL2 := Lib.hid (hl2.more (S' := fun b => b < v2.heap.size) fun b hb _ => hb.2)
              replace HL1 := Lib.hid (lup HL1.out hb1)
              clear hl2
              replace HC := Lib.hid (bel_trans HC.out hb1)
              clear hb1
              refine hK.out _ _ (by with_reducible exact HC.out) (fun hHeld => ?_)
              clear hK K
              refine wpAnyH_ready (rs := [4]) (by kernel_rfl) (by simp) ?_
              refine AllReadyH.cons rfl (fun K hK => ?_) AllReadyH.nil
              go_simp
              go_at_call 10
              refine (HSZ.out _ _ _ _ _ HL1.out HL2.out).mono ?_
              rintro e v3 ⟨rfl, hb1⟩
              replace HC := Lib.hid (bel_trans HC.out hb1)
              clear hb1
              refine hK.out _ _ (by with_reducible exact HC.out) (fun hHeld => ?_)
              clear hK K
              refine held_take (i := 5) (d := 42) (v := (.bool false)) rfl rfl (by kernel_rfl) (by kernel_rfl) (by kernel_rfl) (fun _ _ _ h => h) (by kernel_rfl) (fun w hSw => by (obtain hS := hSw); go_simp) hHeld ?_
              try simp only [List.setIfInBounds_toArray, List.set_cons_zero, List.set_cons_succ]
              refine held_take (i := 6) (d := 43) (v := (.bool false)) rfl rfl (by kernel_rfl) (by kernel_rfl) (by kernel_rfl) (fun _ _ _ h => h) (by kernel_rfl) (fun w hSw => by (obtain hS := hSw); go_simp) hHeld ?_
              try simp only [List.setIfInBounds_toArray, List.set_cons_zero, List.set_cons_succ]
              refine held_take (i := 7) (d := 44) (v := (.bool true)) rfl rfl (by kernel_rfl) (by kernel_rfl) (by kernel_rfl) (fun _ _ _ h => h) (by kernel_rfl) (fun w hSw => by (obtain hS := hSw); go_simp) hHeld ?_
              try simp only [List.setIfInBounds_toArray, List.set_cons_zero, List.set_cons_succ]
              refine held_take (i := 8) (d := 45) (v := (.bool false)) rfl rfl (by kernel_rfl) (by kernel_rfl) (by kernel_rfl) (fun _ _ _ h => h) (by kernel_rfl) (fun w hSw => by (obtain hS := hSw); go_simp) hHeld ?_
              try simp only [List.setIfInBounds_toArray, List.set_cons_zero, List.set_cons_succ]
              refine held_take (i := 9) (d := 46) (v := (.bool false)) rfl rfl (by kernel_rfl) (by kernel_rfl) (by kernel_rfl) (fun _ _ _ h => h) (by kernel_rfl) (fun w hSw => by (obtain hS := hSw); go_simp) hHeld ?_
              try simp only [List.setIfInBounds_toArray, List.set_cons_zero, List.set_cons_succ]
              refine held_take (i := 10) (d := 47) (v := (.bool false)) rfl rfl (by kernel_rfl) (by kernel_rfl) (by kernel_rfl) (fun _ _ _ h => h) (by kernel_rfl) (fun w hSw => by (obtain hS := hSw); go_simp) hHeld ?_
              try simp only [List.setIfInBounds_toArray, List.set_cons_zero, List.set_cons_succ]
              refine held_take (i := 11) (d := 48) (v := (.agg #[.int .i64 aR, .int .i64 aN, .int .i64 aS, .int .i64 aB, .int .i64 aC, .int .i64 aT, .int .i64 aU, .int .i64 aK, .int .i64 aL, .int .i64 aQ, .string aY, .string aV, .int .i64 aZ, .slice aA an ac, .int .i64 aE, .int .i64 aG])) rfl rfl (by kernel_rfl) (by kernel_rfl) (by kernel_rfl) (fun _ _ _ h => h) (by kernel_rfl) (run_load_blk 32 (.tmp 2) rfl w.heap.size 32 #[.int .i64 aR, .int .i64 aN, .int .i64 aS, .int .i64 aB, .int .i64 aC, .int .i64 aT, .int .i64 aU, .int .i64 aK, .int .i64 aL, .int .i64 aQ, .string aY, .string aV, .int .i64 aZ, .slice aA an ac, .int .i64 aE, .int .i64 aG] _ rfl (fun _ h => HKa.out.bel h) Tryz.underlying32 rfl (by kernel_rfl)) hHeld ?_
              try simp only [List.setIfInBounds_toArray, List.set_cons_zero, List.set_cons_succ]
              refine held_take (i := 12) (d := 49) (v := (.agg #[.int .i64 aR, .int .i64 aN, .int .i64 aS, .int .i64 aB, .int .i64 aC, .int .i64 aT, .int .i64 aU, .int .i64 aK, .int .i64 aL, .int .i64 aQ, .string aY, .string aV, .int .i64 aZ, .slice V5 n5 c5, .int .i64 aE, .int .i64 aG])) rfl rfl (by kernel_rfl) (by kernel_rfl) (by kernel_rfl) (fun _ _ _ h => h) (by kernel_rfl) (run_load_blk 32 (.tmp 5) rfl k5 32 #[.int .i64 aR, .int .i64 aN, .int .i64 aS, .int .i64 aB, .int .i64 aC, .int .i64 aT, .int .i64 aU, .int .i64 aK, .int .i64 aL, .int .i64 aQ, .string aY, .string aV, .int .i64 aZ, .slice V5 n5 c5, .int .i64 aE, .int .i64 aG] _ rfl (fun _ h => HK5.out.bel h) Tryz.underlying32 rfl (by kernel_rfl)) hHeld ?_
              try simp only [List.setIfInBounds_toArray, List.set_cons_zero, List.set_cons_succ]
              refine wpAnyH_ready (rs := [13]) (by kernel_rfl) (by simp) ?_
              refine AllReadyH.cons rfl (fun K hK => ?_) AllReadyH.nil
              go_simp
              go_at_call 12
              refine (HS0.out _ _ _ _ (HRa.out.below HC.out) (HR5.out.below HC.out)).mono ?_
              rintro e v4 ⟨rfl, hb1⟩
              replace HC := Lib.hid (bel_trans HC.out hb1)
              clear hb1
              refine hK.out _ _ (by with_reducible exact HC.out) (fun hHeld => ?_)
              clear hK K
              refine held_take (i := 14) (d := 51) (v := (.bool false)) rfl rfl (by kernel_rfl) (by kernel_rfl) (by kernel_rfl) (fun _ _ _ h => h) (by kernel_rfl) (fun w hSw => by (obtain hS := hSw); go_simp) hHeld ?_
              try simp only [List.setIfInBounds_toArray, List.set_cons_zero, List.set_cons_succ]
              refine held_take (i := 15) (d := 52) (v := (.bool false)) rfl rfl (by kernel_rfl) (by kernel_rfl) (by kernel_rfl) (fun _ _ _ h => h) (by kernel_rfl) (fun w hSw => by (obtain hS := hSw); go_simp) hHeld ?_
              try simp only [List.setIfInBounds_toArray, List.set_cons_zero, List.set_cons_succ]
              refine wpAnyH_done (by kernel_rfl) ?_ _
              go_wp2_with fail
              go_meet
              case rel => exact HCW.out.trans (HC.out.mono HCW.out.size)
        case rest =>
          have hbx := hcut
          generalize wc = Wy at hbx ⊢
          replace HC := Lib.hid hbx
          clear hbx HI1 HI2 HIT HBK HLN1 HWT1
          go_upto_region 7 with fail
          go_wp2_with (first | (refine wpList_load_blk_w 32 _ rfl w.heap.size 32 #[.int .i64 aR, .int .i64 aN, .int .i64 aS, .int .i64 aB, .int .i64 aC, .int .i64 aT, .int .i64 aU, .int .i64 aK, .int .i64 aL, .int .i64 aQ, .string aY, .string aV, .int .i64 aZ, .slice aA an ac, .int .i64 aE, .int .i64 aG] _ rfl ?_ (HKa.out.bel HC.out) Tryz.underlying32 rfl (by kernel_rfl) ?_; (focus rfl)))
          refine (HO1.out _ (HRa.out.below HC.out)).mono ?_
          rintro e w7 ⟨V7, c7, rfl, hl, hb1⟩
          simp only at hl ⊢
          have hcur := bel_trans HC.out hb1
          have hal := bel_alloc hcur (.cells #[.int .i64 y.kind, .int .u64 (y.num : Int), .string y.str, .slice V7 y.kids.length c7] 36)
          have hkn := Blk.new w7 36 #[.int .i64 y.kind, .int .u64 (y.num : Int), .string y.str, .slice V7 y.kids.length c7]
          have hL7 := (Lies.alloc (hl.more (S' := fun b => b < w7.heap.size) fun b hb _ => hb.2) (.cells #[.int .i64 y.kind, .int .u64 (y.num : Int), .string y.str, .slice V7 y.kids.length c7] 36)).more (S' := fun b => b < (w7.alloc (.cells #[.int .i64 y.kind, .int .u64 (y.num : Int), .string y.str, .slice V7 y.kids.length c7] 36)).heap.size) fun b hb _ => by rw [size_alloc]; omega
          obtain ⟨k7, hke⟩ : ∃ k, w7.heap.size = k := ⟨_, rfl⟩
          obtain ⟨W7, hWn⟩ : ∃ v, w7.alloc (.cells #[.int .i64 y.kind, .int .u64 (y.num : Int), .string y.str, .slice V7 y.kids.length c7] 36) = v := ⟨_, rfl⟩
          rw [hWn] at hal hkn hL7
          rw [hke] at hkn
          replace HKa := Lib.hid (HKa.out.bel hal)
          replace HKx := Lib.hid (HKx.out.bel hal)
          replace HRa := Lib.hid (HRa.out.below hal)
          replace HLx := Lib.hid (lup HLx.out hal)
          replace HB := Lib.hid (HB.out.trans (hal.mono HB.out.size))
          have HK7 := Lib.hid hkn
          have HL7 := Lib.hid hL7
          replace HC := Lib.hid (Below.refl W7.heap.size W7)
          have HWN := Lib.hid hWn
          have HKE := Lib.hid hke
          clear hcur hkn hWn hke hb1 hal hL7 hl HO1
          go_upto_region 8 with fail
          rw [HWN.out, HKE.out]
          clear HWN HKE
          go_wp2_with (first | (refine wpList_load_blk_w 32 _ rfl w.heap.size 32 #[.int .i64 aR, .int .i64 aN, .int .i64 aS, .int .i64 aB, .int .i64 aC, .int .i64 aT, .int .i64 aU, .int .i64 aK, .int .i64 aL, .int .i64 aQ, .string aY, .string aV, .int .i64 aZ, .slice aA an ac, .int .i64 aE, .int .i64 aG] _ rfl ?_ (HKa.out.bel HC.out) Tryz.underlying32 rfl (by kernel_rfl) ?_; (focus rfl)))
          refine (HO2.out _ (HRa.out.below HC.out)).mono ?_
          rintro e w8 ⟨V8, c8, rfl, hl, hb1⟩
          simp only at hl ⊢
          have hcur := bel_trans HC.out hb1
          have hal := bel_alloc hcur (.cells #[.int .i64 y.kind, .int .u64 (y.num : Int), .string y.str, .slice V8 y.kids.length c8] 36)
          have hkn := Blk.new w8 36 #[.int .i64 y.kind, .int .u64 (y.num : Int), .string y.str, .slice V8 y.kids.length c8]
          have hL9 := (Lies.alloc (hl.more (S' := fun b => b < w8.heap.size) fun b hb _ => hb.2) (.cells #[.int .i64 y.kind, .int .u64 (y.num : Int), .string y.str, .slice V8 y.kids.length c8] 36)).more (S' := fun b => b < (w8.alloc (.cells #[.int .i64 y.kind, .int .u64 (y.num : Int), .string y.str, .slice V8 y.kids.length c8] 36)).heap.size) fun b hb _ => by rw [size_alloc]; omega
          obtain ⟨k9, hke⟩ : ∃ k, w8.heap.size = k := ⟨_, rfl⟩
          obtain ⟨W9, hWn⟩ : ∃ v, w8.alloc (.cells #[.int .i64 y.kind, .int .u64 (y.num : Int), .string y.str, .slice V8 y.kids.length c8] 36) = v := ⟨_, rfl⟩
          rw [hWn] at hal hkn hL9
          rw [hke] at hkn
          replace HKa := Lib.hid (HKa.out.bel hal)
          replace HKx := Lib.hid (HKx.out.bel hal)
          replace HK7 := Lib.hid (HK7.out.bel hal)
          replace HRa := Lib.hid (HRa.out.below hal)
          replace HLx := Lib.hid (lup HLx.out hal)
          replace HL7 := Lib.hid (lup HL7.out hal)
          replace HB := Lib.hid (HB.out.trans (hal.mono HB.out.size))
          have HK9 := Lib.hid hkn
          have HL9 := Lib.hid hL9
          replace HC := Lib.hid (Below.refl W9.heap.size W9)
          have HWN := Lib.hid hWn
          have HKE := Lib.hid hke
          clear hcur hkn hWn hke hb1 hal hL9 hl HO2
          go_upto_region 9 with fail
          rw [HWN.out, HKE.out]
          clear HWN HKE
          have b3 : (ye != ye) = false := bne_self_eq_false ye
          obtain ⟨x70, x71, x72, x73⟩ := blk4 (HK7.out.bel HC.out)
          obtain ⟨x90, x91, x92, x93⟩ := blk4 (HK9.out.bel HC.out)
          go_wp2_with fail
          have hs := HSY.out _ _ _ _ _ (lup HL7.out HC.out) (lup HL9.out HC.out)
          rw [(same_iff y y).2 rfl] at hs
          refine hs.mono ?_
          rintro e w9 ⟨rfl, hb1⟩
          replace HC := Lib.hid (bel_trans HC.out hb1)
          clear hb1 hs HSY
          clear x70 x71 x72 x73 x90 x91 x92 x93
          clear b3
          go_upto_if 73 with fail
          go_cut [] from 21 (fun wx => Below W9.heap.size W9 wx)
          case first =>
            by_cases hye : ye = 0
            · skip
              as_aux_lemma =>
                subst hye
                have hbo := HBO.out rfl
                have ht0 := fun v V c (h : Lies v (fun b => b < v.heap.size) y V c) => Calls.mono (takeold_any y V c _ v h (fun _ h => h) HLN2.out) fun e w' h => TakesRc.to h
                rw [hbo] at ht0
                have HT0 := Lib.hid ht0
                clear ht0 hbo HBO
                obtain ⟨x70, x71, x72, x73⟩ := blk4 (HK7.out.bel HC.out)
                go_wp2_with fail
                have HLo := Lib.hid (lup HL7.out HC.out)
                clear x70 x71 x72 x73
                refine (HT0.out _ _ _ HLo.out).mono ?_
                rintro e w10 ⟨V11, n11, c11, rfl, hrs, hb1⟩
                simp only at hrs ⊢
                have hcur := bel_trans HC.out hb1
                have hal := bel_alloc hcur (.cells #[.int .i64 aR, .int .i64 aN, .int .i64 aS, .int .i64 aB, .int .i64 aC, .int .i64 aT, .int .i64 aU, .int .i64 aK, .int .i64 aL, .int .i64 aQ, .string aY, .string aV, .int .i64 aZ, .slice V11 n11 c11, .int .i64 aE, .int .i64 aG] 32)
                have hkn := Blk.new w10 32 #[.int .i64 aR, .int .i64 aN, .int .i64 aS, .int .i64 aB, .int .i64 aC, .int .i64 aT, .int .i64 aU, .int .i64 aK, .int .i64 aL, .int .i64 aQ, .string aY, .string aV, .int .i64 aZ, .slice V11 n11 c11, .int .i64 aE, .int .i64 aG]
                have hR11 := hrs.alloc (.cells #[.int .i64 aR, .int .i64 aN, .int .i64 aS, .int .i64 aB, .int .i64 aC, .int .i64 aT, .int .i64 aU, .int .i64 aK, .int .i64 aL, .int .i64 aQ, .string aY, .string aV, .int .i64 aZ, .slice V11 n11 c11, .int .i64 aE, .int .i64 aG] 32)
                obtain ⟨k11, hke⟩ : ∃ k, w10.heap.size = k := ⟨_, rfl⟩
                obtain ⟨W11, hWn⟩ : ∃ v, w10.alloc (.cells #[.int .i64 aR, .int .i64 aN, .int .i64 aS, .int .i64 aB, .int .i64 aC, .int .i64 aT, .int .i64 aU, .int .i64 aK, .int .i64 aL, .int .i64 aQ, .string aY, .string aV, .int .i64 aZ, .slice V11 n11 c11, .int .i64 aE, .int .i64 aG] 32) = v := ⟨_, rfl⟩
                rw [hWn] at hal hkn hR11
                rw [hke] at hkn
                replace HKa := Lib.hid (HKa.out.bel hal)
                replace HKx := Lib.hid (HKx.out.bel hal)
                replace HK7 := Lib.hid (HK7.out.bel hal)
                replace HK9 := Lib.hid (HK9.out.bel hal)
                replace HRa := Lib.hid (HRa.out.below hal)
                replace HLx := Lib.hid (lup HLx.out hal)
                replace HL7 := Lib.hid (lup HL7.out hal)
                replace HL9 := Lib.hid (lup HL9.out hal)
                have HCW := Lib.hid hal
                replace HB := Lib.hid (HB.out.trans (hal.mono HB.out.size))
                have HK11 := Lib.hid hkn
                have HR11 := Lib.hid hR11
                replace HC := Lib.hid (Below.refl W11.heap.size W11)
                have HWN := Lib.hid hWn
                have HKE := Lib.hid hke
                clear hcur hkn hWn hke hb1 hal hR11 hrs HT0 HLo
                go_upto_region 13 with fail
                rw [HWN.out, HKE.out]
                clear HWN HKE
                go_wp2_with (first | (refine wpList_load_blk_w 32 _ rfl w.heap.size 32 #[.int .i64 aR, .int .i64 aN, .int .i64 aS, .int .i64 aB, .int .i64 aC, .int .i64 aT, .int .i64 aU, .int .i64 aK, .int .i64 aL, .int .i64 aQ, .string aY, .string aV, .int .i64 aZ, .slice aA an ac, .int .i64 aE, .int .i64 aG] _ rfl ?_ (HKa.out.bel HC.out) Tryz.underlying32 rfl (by kernel_rfl) ?_; (focus rfl)) | (refine wpList_load_blk_w 32 _ rfl k11 32 #[.int .i64 aR, .int .i64 aN, .int .i64 aS, .int .i64 aB, .int .i64 aC, .int .i64 aT, .int .i64 aU, .int .i64 aK, .int .i64 aL, .int .i64 aQ, .string aY, .string aV, .int .i64 aZ, .slice V11 n11 c11, .int .i64 aE, .int .i64 aG] _ rfl ?_ (HK11.out.bel HC.out) Tryz.underlying32 rfl (by kernel_rfl) ?_; (focus rfl)))
                refine (HS0.out _ _ _ _ (HRa.out.below HC.out) (HR11.out.below HC.out)).mono ?_
                rintro e w11 ⟨rfl, hb1⟩
                replace HC := Lib.hid (bel_trans HC.out hb1)
                clear hb1 HS0
                go_wp2_with fail
                go_meet
                case rel => exact HCW.out.trans (HC.out.mono HCW.out.size)
            · skip
              have b4 : (ye == 0) = false := beq_eq_false_iff_ne.2 hye
              go_wp2_with fail
              go_meet
              case rel => exact HC.out
          case rest =>
            have hbx := hcut
            generalize wc = Wz at hbx ⊢
            replace HC := Lib.hid hbx
            clear hbx HBO HS0 HLN2
            as_aux_lemma =>
              go_upto_region 15 with fail
              obtain ⟨xx0, xx1, xx2, xx3⟩ := blk4 (HKx.out.bel HC.out)
              go_wp2_with fail
              have HLo := Lib.hid (lup HLx.out HC.out)
              clear xx0 xx1 xx2 xx3
              refine (HX1.out _ HLo.out).mono ?_
              rintro e v13 ⟨V13, n13, c13, rfl, hrs, hb1⟩
              simp only at hrs ⊢
              have hcur := bel_trans HC.out hb1
              have hal := bel_alloc hcur (.cells #[.int .i64 bR, .int .i64 bN, .int .i64 bS, .int .i64 bB, .int .i64 bC, .int .i64 bT, .int .i64 bU, .int .i64 bK, .int .i64 bL, .int .i64 bQ, .string bY, .string bV, .int .i64 bZ, .slice V13 n13 c13, .int .i64 bE, .int .i64 bG] 32)
              have hkn := Blk.new v13 32 #[.int .i64 bR, .int .i64 bN, .int .i64 bS, .int .i64 bB, .int .i64 bC, .int .i64 bT, .int .i64 bU, .int .i64 bK, .int .i64 bL, .int .i64 bQ, .string bY, .string bV, .int .i64 bZ, .slice V13 n13 c13, .int .i64 bE, .int .i64 bG]
              have hR13 := hrs.alloc (.cells #[.int .i64 bR, .int .i64 bN, .int .i64 bS, .int .i64 bB, .int .i64 bC, .int .i64 bT, .int .i64 bU, .int .i64 bK, .int .i64 bL, .int .i64 bQ, .string bY, .string bV, .int .i64 bZ, .slice V13 n13 c13, .int .i64 bE, .int .i64 bG] 32)
              obtain ⟨k13, hke⟩ : ∃ k, v13.heap.size = k := ⟨_, rfl⟩
              obtain ⟨W13, hWn⟩ : ∃ v, v13.alloc (.cells #[.int .i64 bR, .int .i64 bN, .int .i64 bS, .int .i64 bB, .int .i64 bC, .int .i64 bT, .int .i64 bU, .int .i64 bK, .int .i64 bL, .int .i64 bQ, .string bY, .string bV, .int .i64 bZ, .slice V13 n13 c13, .int .i64 bE, .int .i64 bG] 32) = v := ⟨_, rfl⟩
              rw [hWn] at hal hkn hR13
              rw [hke] at hkn
              replace HKa := Lib.hid (HKa.out.bel hal)
              replace HKx := Lib.hid (HKx.out.bel hal)
              replace HK7 := Lib.hid (HK7.out.bel hal)
              replace HK9 := Lib.hid (HK9.out.bel hal)
              replace HRa := Lib.hid (HRa.out.below hal)
              replace HLx := Lib.hid (lup HLx.out hal)
              replace HL7 := Lib.hid (lup HL7.out hal)
              replace HL9 := Lib.hid (lup HL9.out hal)
              replace HB := Lib.hid (HB.out.trans (hal.mono HB.out.size))
              have HK13 := Lib.hid hkn
              have HR13 := Lib.hid hR13
              replace HC := Lib.hid (Below.refl W13.heap.size W13)
              have HWN := Lib.hid hWn
              have HKE := Lib.hid hke
              clear hcur hkn hWn hke hb1 hal hR13 hrs HX1 HLo
              go_upto_region 16 with fail
              rw [HWN.out, HKE.out]
              clear HWN HKE
              obtain ⟨xx0, xx1, xx2, xx3⟩ := blk4 (HKx.out.bel HC.out)
              go_wp2_with fail
              have HLo := Lib.hid (lup HLx.out HC.out)
              clear xx0 xx1 xx2 xx3
              refine (HX2.out _ HLo.out).mono ?_
              rintro e v15 ⟨V15, n15, c15, rfl, hrs, hb1⟩
              simp only at hrs ⊢
              have hcur := bel_trans HC.out hb1
              have hal := bel_alloc hcur (.cells #[.int .i64 bR, .int .i64 bN, .int .i64 bS, .int .i64 bB, .int .i64 bC, .int .i64 bT, .int .i64 bU, .int .i64 bK, .int .i64 bL, .int .i64 bQ, .string bY, .string bV, .int .i64 bZ, .slice V15 n15 c15, .int .i64 bE, .int .i64 bG] 32)
              have hkn := Blk.new v15 32 #[.int .i64 bR, .int .i64 bN, .int .i64 bS, .int .i64 bB, .int .i64 bC, .int .i64 bT, .int .i64 bU, .int .i64 bK, .int .i64 bL, .int .i64 bQ, .string bY, .string bV, .int .i64 bZ, .slice V15 n15 c15, .int .i64 bE, .int .i64 bG]
              have hR15 := hrs.alloc (.cells #[.int .i64 bR, .int .i64 bN, .int .i64 bS, .int .i64 bB, .int .i64 bC, .int .i64 bT, .int .i64 bU, .int .i64 bK, .int .i64 bL, .int .i64 bQ, .string bY, .string bV, .int .i64 bZ, .slice V15 n15 c15, .int .i64 bE, .int .i64 bG] 32)
              obtain ⟨k15, hke⟩ : ∃ k, v15.heap.size = k := ⟨_, rfl⟩
              obtain ⟨W15, hWn⟩ : ∃ v, v15.alloc (.cells #[.int .i64 bR, .int .i64 bN, .int .i64 bS, .int .i64 bB, .int .i64 bC, .int .i64 bT, .int .i64 bU, .int .i64 bK, .int .i64 bL, .int .i64 bQ, .string bY, .string bV, .int .i64 bZ, .slice V15 n15 c15, .int .i64 bE, .int .i64 bG] 32) = v := ⟨_, rfl⟩
              rw [hWn] at hal hkn hR15
              rw [hke] at hkn
              replace HKa := Lib.hid (HKa.out.bel hal)
              replace HK13 := Lib.hid (HK13.out.bel hal)
              replace HKx := Lib.hid (HKx.out.bel hal)
              replace HK7 := Lib.hid (HK7.out.bel hal)
              replace HK9 := Lib.hid (HK9.out.bel hal)
              replace HRa := Lib.hid (HRa.out.below hal)
              replace HR13 := Lib.hid (HR13.out.below hal)
              replace HLx := Lib.hid (lup HLx.out hal)
              replace HL7 := Lib.hid (lup HL7.out hal)
              replace HL9 := Lib.hid (lup HL9.out hal)
              replace HB := Lib.hid (HB.out.trans (hal.mono HB.out.size))
              have HK15 := Lib.hid hkn
              have HR15 := Lib.hid hR15
              replace HC := Lib.hid (Below.refl W15.heap.size W15)
              have HWN := Lib.hid hWn
              have HKE := Lib.hid hke
              clear hcur hkn hWn hke hb1 hal hR15 hrs HX2 HLo
              go_upto_region 17 with fail
              rw [HWN.out, HKE.out]
              clear HWN HKE
              obtain ⟨xx0, xx1, xx2, xx3⟩ := blk4 (HKx.out.bel HC.out)
              go_wp2_with fail
              have HLo := Lib.hid (lup HLx.out HC.out)
              clear xx0 xx1 xx2 xx3
              refine (HX3.out _ HLo.out).mono ?_
              rintro e v17 ⟨V17, n17, c17, rfl, hrs, hb1⟩
              simp only at hrs ⊢
              have hcur := bel_trans HC.out hb1
              have hal := bel_alloc hcur (.cells #[.int .i64 dR, .int .i64 dN, .int .i64 dS, .int .i64 dB, .int .i64 dC, .int .i64 dT, .int .i64 dU, .int .i64 dK, .int .i64 dL, .int .i64 dQ, .string dY, .string dV, .int .i64 dZ, .slice V17 n17 c17, .int .i64 dE, .int .i64 dG] 32)
              have hkn := Blk.new v17 32 #[.int .i64 dR, .int .i64 dN, .int .i64 dS, .int .i64 dB, .int .i64 dC, .int .i64 dT, .int .i64 dU, .int .i64 dK, .int .i64 dL, .int .i64 dQ, .string dY, .string dV, .int .i64 dZ, .slice V17 n17 c17, .int .i64 dE, .int .i64 dG]
              have hR17 := hrs.alloc (.cells #[.int .i64 dR, .int .i64 dN, .int .i64 dS, .int .i64 dB, .int .i64 dC, .int .i64 dT, .int .i64 dU, .int .i64 dK, .int .i64 dL, .int .i64 dQ, .string dY, .string dV, .int .i64 dZ, .slice V17 n17 c17, .int .i64 dE, .int .i64 dG] 32)
              obtain ⟨k17, hke⟩ : ∃ k, v17.heap.size = k := ⟨_, rfl⟩
              obtain ⟨W17, hWn⟩ : ∃ v, v17.alloc (.cells #[.int .i64 dR, .int .i64 dN, .int .i64 dS, .int .i64 dB, .int .i64 dC, .int .i64 dT, .int .i64 dU, .int .i64 dK, .int .i64 dL, .int .i64 dQ, .string dY, .string dV, .int .i64 dZ, .slice V17 n17 c17, .int .i64 dE, .int .i64 dG] 32) = v := ⟨_, rfl⟩
              rw [hWn] at hal hkn hR17
              rw [hke] at hkn
              replace HKa := Lib.hid (HKa.out.bel hal)
              replace HK13 := Lib.hid (HK13.out.bel hal)
              replace HK15 := Lib.hid (HK15.out.bel hal)
              replace HKx := Lib.hid (HKx.out.bel hal)
              replace HK7 := Lib.hid (HK7.out.bel hal)
              replace HK9 := Lib.hid (HK9.out.bel hal)
              replace HRa := Lib.hid (HRa.out.below hal)
              replace HR13 := Lib.hid (HR13.out.below hal)
              replace HR15 := Lib.hid (HR15.out.below hal)
              replace HLx := Lib.hid (lup HLx.out hal)
              replace HL7 := Lib.hid (lup HL7.out hal)
              replace HL9 := Lib.hid (lup HL9.out hal)
              replace HB := Lib.hid (HB.out.trans (hal.mono HB.out.size))
              have HK17 := Lib.hid hkn
              have HR17 := Lib.hid hR17
              replace HC := Lib.hid (Below.refl W17.heap.size W17)
              have HWN := Lib.hid hWn
              have HKE := Lib.hid hke
              clear hcur hkn hWn hke hb1 hal hR17 hrs HX3 HLo
              go_upto_region 18 with fail
              rw [HWN.out, HKE.out]
              clear HWN HKE
              obtain ⟨xx0, xx1, xx2, xx3⟩ := blk4 (HKx.out.bel HC.out)
              go_wp2_with fail
              have HLo := Lib.hid (lup HLx.out HC.out)
              clear xx0 xx1 xx2 xx3
              refine (HX4.out _ HLo.out).mono ?_
              rintro e v19 ⟨V19, n19, c19, rfl, hrs, hb1⟩
              simp only at hrs ⊢
              have hcur := bel_trans HC.out hb1
              have hal := bel_alloc hcur (.cells #[.int .i64 dR, .int .i64 dN, .int .i64 dS, .int .i64 dB, .int .i64 dC, .int .i64 dT, .int .i64 dU, .int .i64 dK, .int .i64 dL, .int .i64 dQ, .string dY, .string dV, .int .i64 dZ, .slice V19 n19 c19, .int .i64 dE, .int .i64 dG] 32)
              have hkn := Blk.new v19 32 #[.int .i64 dR, .int .i64 dN, .int .i64 dS, .int .i64 dB, .int .i64 dC, .int .i64 dT, .int .i64 dU, .int .i64 dK, .int .i64 dL, .int .i64 dQ, .string dY, .string dV, .int .i64 dZ, .slice V19 n19 c19, .int .i64 dE, .int .i64 dG]
              have hR19 := hrs.alloc (.cells #[.int .i64 dR, .int .i64 dN, .int .i64 dS, .int .i64 dB, .int .i64 dC, .int .i64 dT, .int .i64 dU, .int .i64 dK, .int .i64 dL, .int .i64 dQ, .string dY, .string dV, .int .i64 dZ, .slice V19 n19 c19, .int .i64 dE, .int .i64 dG] 32)
              obtain ⟨k19, hke⟩ : ∃ k, v19.heap.size = k := ⟨_, rfl⟩
              obtain ⟨W19, hWn⟩ : ∃ v, v19.alloc (.cells #[.int .i64 dR, .int .i64 dN, .int .i64 dS, .int .i64 dB, .int .i64 dC, .int .i64 dT, .int .i64 dU, .int .i64 dK, .int .i64 dL, .int .i64 dQ, .string dY, .string dV, .int .i64 dZ, .slice V19 n19 c19, .int .i64 dE, .int .i64 dG] 32) = v := ⟨_, rfl⟩
              rw [hWn] at hal hkn hR19
              rw [hke] at hkn
              replace HKa := Lib.hid (HKa.out.bel hal)
              replace HK13 := Lib.hid (HK13.out.bel hal)
              replace HK15 := Lib.hid (HK15.out.bel hal)
              replace HK17 := Lib.hid (HK17.out.bel hal)
              replace HKx := Lib.hid (HKx.out.bel hal)
              replace HK7 := Lib.hid (HK7.out.bel hal)
              replace HK9 := Lib.hid (HK9.out.bel hal)
              replace HRa := Lib.hid (HRa.out.below hal)
              replace HR13 := Lib.hid (HR13.out.below hal)
              replace HR15 := Lib.hid (HR15.out.below hal)
              replace HR17 := Lib.hid (HR17.out.below hal)
              replace HLx := Lib.hid (lup HLx.out hal)
              replace HL7 := Lib.hid (lup HL7.out hal)
              replace HL9 := Lib.hid (lup HL9.out hal)
              replace HB := Lib.hid (HB.out.trans (hal.mono HB.out.size))
              have HK19 := Lib.hid hkn
              have HR19 := Lib.hid hR19
              replace HC := Lib.hid (Below.refl W19.heap.size W19)
              have HWN := Lib.hid hWn
              have HKE := Lib.hid hke
              clear hcur hkn hWn hke hb1 hal hR19 hrs HX4 HLo
              go_upto_region 19 with fail
              rw [HWN.out, HKE.out]
              clear HWN HKE
              go_wp2_with (first | (refine wpList_load_blk_w 32 _ rfl k13 32 #[.int .i64 bR, .int .i64 bN, .int .i64 bS, .int .i64 bB, .int .i64 bC, .int .i64 bT, .int .i64 bU, .int .i64 bK, .int .i64 bL, .int .i64 bQ, .string bY, .string bV, .int .i64 bZ, .slice V13 n13 c13, .int .i64 bE, .int .i64 bG] _ rfl ?_ (HK13.out.bel HC.out) Tryz.underlying32 rfl (by kernel_rfl) ?_; (focus rfl)) | (refine wpList_load_blk_w 32 _ rfl k15 32 #[.int .i64 bR, .int .i64 bN, .int .i64 bS, .int .i64 bB, .int .i64 bC, .int .i64 bT, .int .i64 bU, .int .i64 bK, .int .i64 bL, .int .i64 bQ, .string bY, .string bV, .int .i64 bZ, .slice V15 n15 c15, .int .i64 bE, .int .i64 bG] _ rfl ?_ (HK15.out.bel HC.out) Tryz.underlying32 rfl (by kernel_rfl) ?_; (focus rfl)) | (refine wpList_load_blk_w 32 _ rfl k17 32 #[.int .i64 dR, .int .i64 dN, .int .i64 dS, .int .i64 dB, .int .i64 dC, .int .i64 dT, .int .i64 dU, .int .i64 dK, .int .i64 dL, .int .i64 dQ, .string dY, .string dV, .int .i64 dZ, .slice V17 n17 c17, .int .i64 dE, .int .i64 dG] _ rfl ?_ (HK17.out.bel HC.out) Tryz.underlying32 rfl (by kernel_rfl) ?_; (focus rfl)) | (refine wpList_load_blk_w 32 _ rfl k19 32 #[.int .i64 dR, .int .i64 dN, .int .i64 dS, .int .i64 dB, .int .i64 dC, .int .i64 dT, .int .i64 dU, .int .i64 dK, .int .i64 dL, .int .i64 dQ, .string dY, .string dV, .int .i64 dZ, .slice V19 n19 c19, .int .i64 dE, .int .i64 dG] _ rfl ?_ (HK19.out.bel HC.out) Tryz.underlying32 rfl (by kernel_rfl) ?_; (focus rfl)))
              refine (HS1.out _ _ _ _ _ _ _ (HR13.out.below HC.out) (HR15.out.below HC.out)).mono ?_
              rintro e z1 ⟨rfl, hb1⟩
              replace HC := Lib.hid (bel_trans HC.out hb1)
              clear hb1 HS1
              have b5 : (m1 == m1) = true := beq_self_eq_true m1
              have b6 : (m2 == m2) = true := beq_self_eq_true m2
              go_wp2_with (first | (refine wpList_load_blk_w 32 _ rfl k13 32 #[.int .i64 bR, .int .i64 bN, .int .i64 bS, .int .i64 bB, .int .i64 bC, .int .i64 bT, .int .i64 bU, .int .i64 bK, .int .i64 bL, .int .i64 bQ, .string bY, .string bV, .int .i64 bZ, .slice V13 n13 c13, .int .i64 bE, .int .i64 bG] _ rfl ?_ (HK13.out.bel HC.out) Tryz.underlying32 rfl (by kernel_rfl) ?_; (focus rfl)) | (refine wpList_load_blk_w 32 _ rfl k15 32 #[.int .i64 bR, .int .i64 bN, .int .i64 bS, .int .i64 bB, .int .i64 bC, .int .i64 bT, .int .i64 bU, .int .i64 bK, .int .i64 bL, .int .i64 bQ, .string bY, .string bV, .int .i64 bZ, .slice V15 n15 c15, .int .i64 bE, .int .i64 bG] _ rfl ?_ (HK15.out.bel HC.out) Tryz.underlying32 rfl (by kernel_rfl) ?_; (focus rfl)) | (refine wpList_load_blk_w 32 _ rfl k17 32 #[.int .i64 dR, .int .i64 dN, .int .i64 dS, .int .i64 dB, .int .i64 dC, .int .i64 dT, .int .i64 dU, .int .i64 dK, .int .i64 dL, .int .i64 dQ, .string dY, .string dV, .int .i64 dZ, .slice V17 n17 c17, .int .i64 dE, .int .i64 dG] _ rfl ?_ (HK17.out.bel HC.out) Tryz.underlying32 rfl (by kernel_rfl) ?_; (focus rfl)) | (refine wpList_load_blk_w 32 _ rfl k19 32 #[.int .i64 dR, .int .i64 dN, .int .i64 dS, .int .i64 dB, .int .i64 dC, .int .i64 dT, .int .i64 dU, .int .i64 dK, .int .i64 dL, .int .i64 dQ, .string dY, .string dV, .int .i64 dZ, .slice V19 n19 c19, .int .i64 dE, .int .i64 dG] _ rfl ?_ (HK19.out.bel HC.out) Tryz.underlying32 rfl (by kernel_rfl) ?_; (focus rfl)))
              refine (HS2.out _ _ _ _ _ _ _ (HR17.out.below HC.out) (HR19.out.below HC.out)).mono ?_
              rintro e z2 ⟨rfl, hb1⟩
              replace HC := Lib.hid (bel_trans HC.out hb1)
              clear hb1 HS2
              go_wp2_with fail
              refine (HAW.out _).mono ?_
              rintro e u2 ⟨rfl, hb1⟩
              replace HC := Lib.hid (bel_trans HC.out hb1)
              clear hb1
              go_wp2_with fail
              go_ret
              exact ⟨rfl, HB.out.trans (HC.out.mono HB.out.size)⟩
  | true =>
    go_wp2_with fail
    refine (HAW.out _).mono ?_
    rintro e u2 ⟨rfl, hb1⟩
    replace HC := Lib.hid (bel_trans HC.out hb1)
    clear hb1
    go_wp2_with fail
    go_ret
    exact ⟨rfl, HB.out.trans (HC.out.mono HB.out.size)⟩
end Go.Proofs.YtbjooblaamjppaaGreat.Rk
