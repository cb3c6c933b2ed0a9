/-
  Texts of earlier layers, as one.
-/
import Derived.Test.YtcnjjabjdepjgaaDskGreat
import Derived.Test.YtcnjjabjdepjgaaDskKeepsWalk
import Derived.Test.YtcnjjabjdepjgaaRNum
import Derived.Test.YtcnjjabjdepjgaaRBase
import Derived.Deep.Cut
/- The law of all acts. -/
namespace Go.Proofs.Ytcnjjabjdepjgaa.Dsk
open Go.RowKit Mem Cod

theorem Fine.act {d : Dk} (h : Fine d) (z : Int) (x y : ByteArray) (p : List Nat) (nn : Int) (ks : List Int) (hn : nn ≤ 9223372036854775807) : Fine (act z x y p nn ks d).2 := by
  unfold Dsk.act
  repeat' split
  · exact h.append x p
  · exact h.sync x
  · exact h.move x y
  · exact h.remove x
  · exact h
  · exact h.fused hn
  · exact h.boot ks
  · exact h.cut x nn
  · exact h
/-- What an act is asked of. -/
def Right (a : Ac) : Prop := a.x.size ≤ 9223372036854775807 ∧ a.y.size ≤ 9223372036854775807 ∧ a.nn ≤ 9223372036854775807
/-- Both disks, side by side. -/
def Both (I : Held) (w0 w : World) (p g : Nat) (d : Dk) : Prop := ∃ S T, I w S p d ∧ IsRef w T g d ∧ (∀ k, S k → ¬ T k) ∧ (∀ k, S k → w0.heap.size ≤ k) ∧ (∀ k, T k → w0.heap.size ≤ k) ∧ Below w0.heap.size w0 w
def PlayRel (I : Held) (w0 : World) (p g n : Nat) (i : Value) (wr : World) : Prop := ∃ (k : Nat) (d : Dk), k ≤ n ∧ i = .int .i64 (k : Int) ∧ Fine d ∧ Both I w0 wr p g d
theorem ref_low {w : World} {T : Nat → Prop} {g : Nat} {d : Dk} (h : IsRef w T g d) : ∀ k, T k → k < w.heap.size := by
  obtain ⟨A, c, _, _, hlt, _⟩ := h
  exact hlt
theorem Outs.old {S : Nat → Prop} {w0 w : World} {A : Option Addr} {n c : Nat} {xs : List Value} (h : Rd w0 A n c xs) (hS : ∀ k, S k → w0.heap.size ≤ k) (_ : Below w0.heap.size w0 w) : Outs S n A := fun h0 ad e hs => by
  obtain ⟨ad', e', hlt, _⟩ := h.spot h0
  cases e.symm.trans e'
  have := hS _ hs
  omega
set_option maxRecDepth 20000 in
set_option maxHeartbeats 8000000 in
theorem disk_plays {I : Held} (hH : Has I) (room : Int) (A : Option Addr) (n c : Nat) (l : List Ac) (w : World) (h : Acts w A n c l) (hl : ∀ a ∈ l, Right a) :
    Calls Try.prog 3 #[.int .i64 room, .slice A n c] w (Tells true w) := by
  have HG := Lib.hid (great_any A n c l w h)
  have HW := Lib.hid (fun (u : World) => disk_awake hH u)
  have HAC := Lib.hid h
  have HLR := Lib.hid hl
  clear h hl
  go_enter Try.func3, Try.ntmps3
  go_wp2_with fail
  refine HG.out.mono ?_
  rintro e u ⟨t, rfl, hsm, hu⟩
  replace hu := hu.symm
  subst hu
  have HSM := Lib.hid hsm
  clear hsm HG
  cases t with
  | true =>
    go_wp2_with fail
    refine (HW.out _).mono ?_
    rintro e w1 ⟨rfl, hb⟩
    have HB := Lib.hid hb
    clear hb
    go_wp2_with fail
    go_ret
    exact ⟨rfl, HB.out⟩
  | false =>
    by_cases hr : 1073741824 < room
    · have b1 : decide (1073741824 < room) = true := decide_eq_true hr
      go_wp2_with fail
      refine (HW.out _).mono ?_
      rintro e w1 ⟨rfl, hb⟩
      have HB := Lib.hid hb
      clear hb
      go_wp2_with fail
      go_ret
      exact ⟨rfl, HB.out⟩
    have b1 : decide (1073741824 < room) = false := decide_eq_false hr
    have HN := Lib.hid (hH.new room w)
    go_wp2_with fail
    refine HN.out.mono ?_
    rintro e w1 ⟨p, S, rfl, hI, hlo, hb⟩
    have hs1 := hb.size
    have hlow := hH.low hI
    have HI := Lib.hid hI
    have HLO := Lib.hid hlo
    have HLW := Lib.hid hlow
    have HB := Lib.hid hb
    have HR := Lib.hid (new_any room w1)
    clear hI hlo hb HN hlow
    go_wp2_with fail
    refine HR.out.mono ?_
    rintro e w2 ⟨rfl, hk2, hb2⟩
    have hs2 := hb2.size
    have hboth : Both I w w2 p w1.heap.size (newDk room) := by
      have hir : IsRef w2 (fun k => k = w1.heap.size) w1.heap.size (newDk room) := by
        refine IsRef.mk (n := 0) (A := none) (c := 0) hk2 rfl (fun k hk => by rw [hk]; exact hk2.lt) (fun b hb => by cases hb) ?_
        exact ⟨[], ⟨rfl, .inl ⟨rfl, rfl⟩⟩, rfl, fun h hh => by cases hh⟩
      refine ⟨S, fun k => k = w1.heap.size, hH.keep HI.out (T := fun _ => False) (Keeps.ofBelow hb2) (fun _ _ h => h), hir, fun k hk e => ?_, HLO.out, fun k hk => by rw [hk]; exact hs1, HB.out.trans (hb2.mono hs1)⟩
      have := HLW.out k hk
      omega
    have HBO := Lib.hid hboth
    obtain ⟨g, hg⟩ : ∃ g, w1.heap.size = g := ⟨_, rfl⟩
    rw [hg] at HBO ⊢
    have hnc := HAC.out.2.1
    have hcc := HAC.out.2.2.1
    unfold maxLen at hcc
    clear hboth hk2 hb2 HI HLO HLW HB HR hs1 hs2 hg
    go_wp2_with fail
    go_loopw [7] (PlayRel I w p g n) (fun i _ => n - (intOf i).toNat)
    case atStart => exact ⟨0, newDk room, Nat.zero_le _, rfl, fine_new (by omega), HBO.out⟩
    case round =>
      obtain ⟨k, d, hk, rfl, hfine, hbo⟩ := hrel
      have HBB := Lib.hid hbo
      clear hbo
      by_cases hlt : k < n
      · obtain ⟨a, ha⟩ : ∃ a, l[k]? = some a := ⟨_, List.getElem?_eq_getElem (by rw [HAC.out.1]; exact hlt)⟩
        have hma : a ∈ l := List.mem_of_getElem? ha
        obtain ⟨bl, o, PA, pc, KA, kc, hA, hlb, c0, c1, c2, c3, c4, c5, hp, hks⟩ := HAC.out.2.2.2 k a ha
        subst hA
        have hright := HLR.out a hma
        have hsmall := (HSM.out (by first | rfl | trivial)).2 a hma
        obtain ⟨S, T, hI, hR, hST, hSw, hTw, hbw⟩ := HBB.out
        have hcell : ∀ j, wr.cell? ⟨bl, j, none⟩ = w.cell? ⟨bl, j, none⟩ := fun j => hbw.cell (p := ⟨bl, j, none⟩) hlb
        have d0 := (hcell _).trans c0
        have d1 := (hcell _).trans c1
        have d2 := (hcell _).trans c2
        have d3 := (hcell _).trans c3
        have d4 := (hcell _).trans c4
        have d5 := (hcell _).trans c5
        have hTlt := ref_low hR
        have hSlt := hH.low hI
        obtain ⟨z, x, y, pb, nn, ks⟩ := a
        obtain ⟨hx, hy, hnn⟩ := hright
        obtain ⟨hpl, hkl⟩ := hsmall
        simp only at d0 d1 d2 d3 d4 d5 hx hy hnn hpl hkl hp hks c0 c1 c2 c3 c4 c5
        obtain ⟨R, hRR⟩ : ∃ v, act z x y pb nn ks d = v := ⟨_, rfl⟩
        have hfine2 := hfine.act z x y pb nn ks hnn
        have hdo := do_any hH p S d z x y PA pb.length pc pb nn KA ks.length kc ks wr hI hfine (hp.below hbw) (Outs.old hp hSw hbw) (hks.below hbw) (Outs.old hks hSw hbw) hx hy (by omega)
        have hwant := fun (u1 : World) (h1 : IsRef u1 T g d) (hb1 : Below w.heap.size w u1) => want_any g T d z x y PA pb.length pc pb nn KA ks.length kc ks u1 h1 hfine (hp.below hb1) (Outs.old hp hTw hbw) (hks.below hb1) (Outs.old hks hTw hbw) hx hy (by omega)
        rw [hRR] at hfine2 hdo hwant
        obtain ⟨pn, hpn⟩ : ∃ v, pb.length = v := ⟨_, rfl⟩
        obtain ⟨kn, hkn⟩ : ∃ v, ks.length = v := ⟨_, rfl⟩
        rw [hpn, hkn] at hdo hwant
        rw [hpn] at d3 c3
        rw [hkn] at d5 c5
        obtain ⟨⟨bs1, r⟩, d9⟩ := R
        simp only at hdo hwant hfine2
        have HDO := Lib.hid hdo
        have HWANT := Lib.hid hwant
        have HR := Lib.hid hR
        have HST := Lib.hid hST
        have HSW := Lib.hid hSw
        have HTW := Lib.hid hTw
        have HBW := Lib.hid hbw
        have HTL := Lib.hid hTlt
        have HSL := Lib.hid hSlt
        have HF2 := Lib.hid hfine2
        have HCE := Lib.hid (show w.cell? ⟨bl, o + k * 6, none⟩ = some (.int .i64 z) ∧ w.cell? ⟨bl, o + k * 6 + 1, none⟩ = some (.string x) ∧ w.cell? ⟨bl, o + k * 6 + 2, none⟩ = some (.string y) ∧ w.cell? ⟨bl, o + k * 6 + 3, none⟩ = some (.slice PA pn pc) ∧ w.cell? ⟨bl, o + k * 6 + 4, none⟩ = some (.int .i64 nn) ∧ w.cell? ⟨bl, o + k * 6 + 5, none⟩ = some (.slice KA kn kc) from ⟨c0, c1, c2, c3, c4, c5⟩)
        have HLB := Lib.hid (show bl < w.heap.size from hlb)
        have b2 : decide ((k : Int) < (n : Int)) = true := decide_eq_true (by omega)
        have b3 : decide ((n : Int) ≤ (k : Int)) = false := decide_eq_false (by omega)
        have b4 : ¬ n ≤ k := by omega
        clear hma ha c0 c1 c2 c3 c4 c5 hp hks hI hR hST hSw hTw hbw hcell hTlt hSlt hdo hwant hfine2 hRR hfine hpn hkn hx hy hnn hpl hkl hlb
        go_upto_region 8 with (go_at_call 12; (with_reducible refine HDO.out.mono ?_); rintro e u1 ⟨A1, n1, c1', rfl, ho1, S1, hI1, hg1, hk1, hout1⟩)
        have hz1 := hk1.size
        have hR1 := HR.out.keep hk1 (fun b hT hS => HST.out b hS hT)
        have hbelow1 : Below w.heap.size w u1 := HBW.out.trans (hk1.below HBW.out.size HSW.out)
        have hwant := HWANT.out u1 hR1 hbelow1
        have hrd1 := Rd.own ho1
        have hoT1 : Outs T n1 A1 := fun h0 ad e hT => by
          subst e
          have h1 := (ho1.lt ad.block rfl).1
          have h2 := HTL.out _ hT
          omega
        have hcell : ∀ j, u1.cell? ⟨bl, j, none⟩ = w.cell? ⟨bl, j, none⟩ := fun j => hbelow1.cell (p := ⟨bl, j, none⟩) HLB.out
        have d0 := (hcell _).trans HCE.out.1
        have d1 := (hcell _).trans HCE.out.2.1
        have d2 := (hcell _).trans HCE.out.2.2.1
        have d3 := (hcell _).trans HCE.out.2.2.2.1
        have d4 := (hcell _).trans HCE.out.2.2.2.2.1
        have d5 := (hcell _).trans HCE.out.2.2.2.2.2
        have HW2 := Lib.hid hwant
        have HRD1 := Lib.hid hrd1
        have HOT1 := Lib.hid hoT1
        have HI1 := Lib.hid hI1
        have HG1 := Lib.hid hg1
        have HK1 := Lib.hid hk1
        have HB1 := Lib.hid hbelow1
        clear hz1 hR1 hbelow1 hwant hrd1 hoT1 hcell ho1 hI1 hg1 hk1 hout1 HDO HWANT
        go_upto_region 9 with (go_at_call 13; (with_reducible refine HW2.out.mono ?_); rintro e u2 ⟨A2, n2, c2', rfl, hrd2, T2, hR2, hg2, hk2⟩)
        have hST1 : ∀ b, S1 b → ¬ T b := fun b hS hT => by
          rcases HG1.out b hS with h | h
          · exact HST.out b h hT
          · have := HTL.out b hT
            omega
        have hI2 := hH.keep HI1.out hk2 hST1
        have hrd1 := ((frame_rd A1 n1 c1' (cs bs1)).go ⟨HRD1.out, HOT1.out⟩ hk2 hg2).1
        have hz2 := hk2.size
        have hz1 := HK1.out.size
        have hST2 : ∀ b, S1 b → ¬ T2 b := fun b hS hT => by
          rcases hg2 b hT with h | h
          · exact hST1 b hS h
          · have := hH.low HI1.out b hS
            omega
        have hsame := same_any A1 A2 n1 n2 c1' c2' bs1 bs1 u2 hrd1 hrd2
        rw [decide_eq_true rfl] at hsame
        have hshow := fun (q : Nat) => shows_any hH p g S1 T2 d9 (u2.drewN q) (hH.keep hI2 (T := fun _ => False) (Keeps.ofBelow (below_drewN (Below.refl _ _) q)) (fun _ _ h => h)) (hR2.below (below_drewN (Below.refl _ _) q)) hST2 HF2.out
        have b5 : ((r : Int) == (r : Int)) = true := by simp
        have HSA := Lib.hid hsame
        have HSH := Lib.hid hshow
        have HR2 := Lib.hid hR2
        have HST2 := Lib.hid hST2
        have HK2 := Lib.hid hk2
        have HG2 := Lib.hid hg2
        have HTL2 := Lib.hid (ref_low hR2)
        have hS1w : ∀ b, S1 b → w.heap.size ≤ b := fun b hS => by
          rcases HG1.out b hS with h | h
          · exact HSW.out b h
          · have := HBW.out.size
            omega
        have hT2w : ∀ b, T2 b → w.heap.size ≤ b := fun b hT => by
          rcases hg2 b hT with h | h
          · exact HTW.out b h
          · have := HB1.out.size
            omega
        have hB2 : Below w.heap.size w u2 := HB1.out.trans (hk2.below HB1.out.size HTW.out)
        have HS1W := Lib.hid hS1w
        have HT2W := Lib.hid hT2w
        have HB2 := Lib.hid hB2
        clear hST1 hI2 hrd1 hrd2 hz1 hz2 hST2 hsame hshow hR2 hk2 hg2 hS1w hT2w hB2 d0 d1 d2 d3 d4 d5
        go_wp2_with fail
        with_reducible refine HSA.out.mono ?_
        rintro e u3 ⟨rfl, q, rfl⟩
        clear HSA
        go_wp2_with fail
        with_reducible refine (HSH.out q).mono ?_
        rintro e u4 ⟨rfl, S3, hI3, hg3, hk3⟩
        have hq : (u2.drewN q).heap.size = u2.heap.size := rfl
        have hR4 : IsRef u4 T2 g d9 := (HR2.out.below (below_drewN (Below.refl _ _) q)).keep hk3 fun b hT hS => HST2.out b hS hT
        have hboth : Both I w u4 p g d9 := by
          refine ⟨S3, T2, hI3, hR4, fun b hS hT => ?_, fun b hS => ?_, HT2W.out, (below_drewN HB2.out q).trans (hk3.below (by rw [hq]; exact HB2.out.size) HS1W.out)⟩
          · rcases hg3 b hS with h | h
            · exact HST2.out b h hT
            · have := HTL2.out b hT
              omega
          · rcases hg3 b hS with h | h
            · exact HS1W.out b h
            · have := HB2.out.size
              omega
        have HBO4 := Lib.hid hboth
        clear hI3 hg3 hk3 hR4 hboth hq HSH
        go_wp2_with fail
        exact ⟨⟨k + 1, d9, by omega, by simp, HF2.out, HBO4.out⟩, by simp [intOf]; omega⟩
      · have hkn : k = n := by omega
        subst hkn
        clear hlt
        go_wp2_with fail
        refine (HW.out _).mono ?_
        rintro e w3 ⟨rfl, hb3⟩
        obtain ⟨S', T', _, _, _, _, _, hb⟩ := HBB.out
        have HB3 := Lib.hid (hb.trans (hb3.mono hb.size))
        clear hb3 hb
        go_wp2_with fail
        go_ret
        exact ⟨rfl, HB3.out⟩
end Go.Proofs.Ytcnjjabjdepjgaa.Dsk
