/-
  Texts of earlier layers, as one.
-/
import Derived.Test.YtlcggldcofncgaaIndexAllWalk
/- The law of whatever is done with an index. -/
namespace Go.Proofs.Ytlcggldcofncgaa.Ix
open Go.RowKit Mem Dsk Cmd Ids Ky

theorem blk10 {w : World} {g : Nat} {t : TypeId} {a0 a1 a2 a3 a4 a5 a6 a7 a8 a9 : Value} (h : Blk w g t #[a0, a1, a2, a3, a4, a5, a6, a7, a8, a9]) : w.cell? ⟨g, 0, none⟩ = some a0 ∧ w.cell? ⟨g, 1, none⟩ = some a1 ∧ w.cell? ⟨g, 2, none⟩ = some a2 ∧ w.cell? ⟨g, 3, none⟩ = some a3 ∧ w.cell? ⟨g, 4, none⟩ = some a4 ∧ w.cell? ⟨g, 5, none⟩ = some a5 ∧ w.cell? ⟨g, 6, none⟩ = some a6 ∧ w.cell? ⟨g, 7, none⟩ = some a7 ∧ w.cell? ⟨g, 8, none⟩ = some a8 ∧ w.cell? ⟨g, 9, none⟩ = some a9 :=
  ⟨h.cell 0, h.cell 1, h.cell 2, h.cell 3, h.cell 4, h.cell 5, h.cell 6, h.cell 7, h.cell 8, h.cell 9⟩
theorem keeps_grown {w w' : World} {row : Option Nat} (h : w.grownBy w' row) : Keeps (fun k => row = some k) w w' := ⟨h.os, h.tape, h.output, h.size, fun k hk hn => h.block k hk fun e => hn e.symm⟩
theorem topE_le {Y : List En} (h : ∀ e ∈ Y, e.s ≤ 1152921504606846976) (c : Cm) (but : Int × Int) : topE Y c but ≤ 4611686018427387904 := by
  unfold topE
  refine top_bound (by omega) fun x hx => ?_
  obtain ⟨e, he, rfl⟩ := List.mem_map.1 hx
  have := h e (mem_metE.1 he).1
  omega
/-- What lasts: all that was there, and the document's list. -/
abbrev FE (W : World) (A8 : Option Addr) (m c8 : Nat) (y : List En) (v : World) (S : Nat → Prop) : Prop := FNew W v S ∧ FRw LE A8 m c8 y v S
theorem frame_fe (W : World) (A8 : Option Addr) (m c8 : Nat) (y : List En) : Dsk.Frame (FE W A8 m c8 y) := (frame_new W).and (frame_rw LE A8 m c8 y)
/-- The same, the list's row the call's own, and the box of the act. -/
abbrev FQ (W : World) (B : Nat) (V : Option Addr) (m c' : Nat) (y : List En) (b6 : Nat) (av : Array Value) (v : World) (S : Nat → Prop) : Prop := (FNew W v S ∧ FOwn B 38 LE.s V m c' (LE.flat y) v S) ∧ FBlk b6 34 av v S
theorem frame_fq (W : World) (B : Nat) (V : Option Addr) (m c' : Nat) (y : List En) (b6 : Nat) (av : Array Value) : Dsk.Frame (FQ W B V m c' y b6 av) := ((frame_new W).and (frame_own B _ _ V m c' _)).and (frame_blk b6 _ _)
theorem Mine.fe {W u : World} {B : Nat} {V : Option Addr} {m c' p M b6 : Nat} {y z : List En} {av : Array Value} (h : Mine (FQ W B V m c' y b6 av) u p M z) : Mine (FE W V m c' y) u p M z := h.more fun S _ hf => ⟨hf.1.1, Rw.own (L := LE) hf.1.2.1, fun _ ad e hs => hf.1.2.2 ad.block (by rw [e]; rfl) hs⟩
/-- The document's list has another entry. -/
theorem Mine.app {W u u1 u2 : World} {B : Nat} {V V1 : Option Addr} {m c' n1 c1 p M b6 : Nat} {y y2 z : List En} {av : Array Value} (h : Mine (FQ W B V m c' y b6 av) u p M z) (hB : W.heap.size ≤ B) (hb : Below u.heap.size u u1) (hown : u2.ownsRow B 38 LE.s (.slice V1 n1 c1) n1 (LE.flat y2)) (hg : u1.grownBy u2 (Value.slice V m c').ownBlock)
    (hloc : (Value.slice V1 n1 c1).ownBlock = (Value.slice V m c').ownBlock ∨ (Value.slice V1 n1 c1).ownBlock = some u1.heap.size) : Mine (FE W V1 n1 c1 y2) u2 p M z := by
  obtain ⟨S, h1, ⟨h2, h3⟩, h4⟩ := h
  have hlow := ii_low h1
  have hd : ∀ k, S k → ¬ ((Value.slice V m c').ownBlock = some k) := fun k hs e => h3.2 k e hs
  refine ⟨S, ii_keep (ii_below h1 hb) (keeps_grown hg) hd, ⟨h2.1, ?_⟩, Rw.own (L := LE) hown, fun _ ad e hs => ?_⟩
  · exact (h2.2.trans (hb.mono h2.2.size)).grown hg (Nat.le_trans h2.2.size hb.size) fun k e => Nat.le_trans hB (h3.1.lt k e).1
  · have e1 : (Value.slice V1 n1 c1).ownBlock = some ad.block := by rw [e]; rfl
    rcases hloc with e2 | e2
    · exact hd _ hs (e2.symm.trans e1)
    · rw [e1] at e2
      injection e2 with e2
      have h5 := hlow _ hs
      have h6 := hb.size
      omega
def PlRel (W : World) (p n : Nat) (v8 v9 : Value) (wr : World) : Prop := ∃ (k : Nat) (A8 : Option Addr) (m c8 : Nat) (y : List En) (M : Nat), v8 = .slice A8 m c8 ∧ v9 = .int .i64 (k : Int) ∧ k ≤ n ∧ m ≤ k ∧ M ≤ 2 * k ∧ (∀ e ∈ y, e.s ≤ 1152921504606846976) ∧ Mine (FE W A8 m c8 y) wr p M y
set_option maxRecDepth 20000 in
set_option maxHeartbeats 32000000 in
theorem indexplays_true (A : Option Addr) (n c : Nat) (l : List Ac) (cm : Cm) (but : Int × Int) (w : World) (hr : Rw LA w A n c l) (hfit : ∀ y ∈ l, Fit_ y) (hcc : (Lit.int .i64 cm.cl).wf = true) :
    Calls Try.prog 3 #[.slice A n c, cmV cm, .agg #[.int .i64 but.1, .int .i64 but.2]] w (Tells true w) := by
  have hln := hr.len
  obtain ⟨b1, b2⟩ := but
  have hgr := fun u => Cw.great_any cm.kd cm.cl cm.sq cm.ky cm.vl cm.rv u
  obtain ⟨CM, hCM⟩ : ∃ CM, cm = CM := ⟨_, rfl⟩
  obtain ⟨ckd, ccl, csq, cky, cvl, crv⟩ := cm
  simp only at hgr hcc
  obtain ⟨W, hW⟩ : ∃ v, (w.alloc (.cells #[.int .i64 ckd, .int .i64 ccl, .int .i64 csq, .string cky, .string cvl, .int .i64 crv] 24)).alloc (.cells #[.int .i64 b1, .int .i64 b2] 26) = v := ⟨_, rfl⟩
  have hb1 : Below w.heap.size w W := by rw [← hW]; exact bel_alloc (bel_alloc (Below.refl _ _) _) _
  have hxc : Blk W w.heap.size 24 #[.int .i64 ckd, .int .i64 ccl, .int .i64 csq, .string cky, .string cvl, .int .i64 crv] := by rw [← hW]; exact (Blk.new w 24 #[.int .i64 ckd, .int .i64 ccl, .int .i64 csq, .string cky, .string cvl, .int .i64 crv]).alloc _
  have hxb : Blk W (w.heap.size + 1) 26 #[.int .i64 b1, .int .i64 b2] := by
    rw [← hW]
    have := Blk.new (w.alloc (.cells #[.int .i64 ckd, .int .i64 ccl, .int .i64 csq, .string cky, .string cvl, .int .i64 crv] 24)) 26 #[.int .i64 b1, .int .i64 b2]
    rw [size_alloc] at this
    exact this
  have hcells : ∀ u, Below W.heap.size W u → u.cell? ⟨w.heap.size, 0, none⟩ = some (.int .i64 ckd) ∧ u.cell? ⟨w.heap.size, 1, none⟩ = some (.int .i64 ccl) ∧ u.cell? ⟨w.heap.size, 2, none⟩ = some (.int .i64 csq) ∧ u.cell? ⟨w.heap.size, 3, none⟩ = some (.string cky) ∧ u.cell? ⟨w.heap.size, 4, none⟩ = some (.string cvl) ∧ u.cell? ⟨w.heap.size, 5, none⟩ = some (.int .i64 crv) ∧
      u.cell? ⟨w.heap.size + 1, 0, none⟩ = some (.int .i64 b1) ∧ u.cell? ⟨w.heap.size + 1, 1, none⟩ = some (.int .i64 b2) := fun u hu =>
    ⟨(hxc.bel hu).cell 0, (hxc.bel hu).cell 1, (hxc.bel hu).cell 2, (hxc.bel hu).cell 3, (hxc.bel hu).cell 4, (hxc.bel hu).cell 5, (hxb.bel hu).cell 0, (hxb.bel hu).cell 1⟩
  have hrW := hr.below hb1
  have HAW := Lib.hid (fun u => index_awake u)
  have hbig := bigA_any A n c l W hrW
  have HC := Lib.hid hcells
  have HB := Lib.hid hb1
  have HW := Lib.hid hW
  have HBC := Lib.hid (And.intro hxc hxb)
  have HR := Lib.hid (And.intro hrW (And.intro hfit hln))
  obtain ⟨q, hq⟩ : ∃ q, bigA l = q := ⟨_, rfl⟩
  obtain ⟨q2, hq2⟩ : ∃ q, great (⟨ckd, ccl, csq, cky, cvl, crv⟩ : Cm) = q := ⟨_, rfl⟩
  rw [hq] at hbig
  rw [hq2] at hgr
  have HBIG := Lib.hid hbig
  have HG := Lib.hid hgr
  have HQ := Lib.hid (And.intro hq (And.intro hq2 hcc))
  obtain ⟨pc0, pc1, pc2, pc3, pc4, pc5, pb0, pb1⟩ := HC.out _ (Below.refl _ _)
  clear hr hrW hfit hb1 hxc hxb hcells hW hbig hgr hq hq2 hcc hCM
  show Calls Try.prog 3 #[.slice A n c, .agg #[.int .i64 ckd, .int .i64 ccl, .int .i64 csq, .string cky, .string cvl, .int .i64 crv], .agg #[.int .i64 b1, .int .i64 b2]] w (Tells true w)
  cases q with
  | true =>
    go_enter Try.func3, Try.ntmps3
    go_upto_region 1 with fail
    rw [HW.out]
    go_wp2_with (first | (go_at_call 6; (with_reducible refine HBIG.out.mono ?_); rintro e u1 ⟨rfl, hbu⟩; have HU1 := Lib.hid hbu; clear hbu HBIG pc0 pc1 pc2 pc3 pc4 pc5 pb0 pb1; obtain ⟨pc0, pc1, pc2, pc3, pc4, pc5, pb0, pb1⟩ := HC.out _ HU1.out) | (go_at_call 8; (with_reducible refine (HAW.out _).mono ?_); rintro e w10 ⟨rfl, hb10⟩; have HB10 := Lib.hid hb10; clear hb10))
    go_ret
    exact ⟨rfl, bel_trans HB.out (bel_trans HU1.out HB10.out)⟩
  | false =>
    cases q2 with
    | true =>
      go_enter Try.func3, Try.ntmps3
      go_upto_region 1 with fail
      rw [HW.out]
      go_wp2_with (first | (go_at_call 6; (with_reducible refine HBIG.out.mono ?_); rintro e u1 ⟨rfl, hbu⟩; have HU1 := Lib.hid hbu; clear hbu HBIG pc0 pc1 pc2 pc3 pc4 pc5 pb0 pb1; obtain ⟨pc0, pc1, pc2, pc3, pc4, pc5, pb0, pb1⟩ := HC.out _ HU1.out) | (go_at_call 7; (with_reducible refine (HG.out _).mono ?_); rintro e u2 ⟨rfl, hbu⟩; have HU2 := Lib.hid (bel_trans HU1.out hbu); clear hbu HG pc0 pc1 pc2 pc3 pc4 pc5 pb0 pb1; obtain ⟨pc0, pc1, pc2, pc3, pc4, pc5, pb0, pb1⟩ := HC.out _ HU2.out) | (go_at_call 8; (with_reducible refine (HAW.out _).mono ?_); rintro e w10 ⟨rfl, hb10⟩; have HB10 := Lib.hid hb10; clear hb10))
      go_ret
      exact ⟨rfl, bel_trans HB.out (bel_trans HU2.out HB10.out)⟩
    | false =>
      have hn60 : n ≤ 60 := by have := (bigA_no HQ.out.1).1; omega
      go_enter Try.func3, Try.ntmps3
      go_upto_region 1 with fail
      rw [HW.out]
      go_upto_region 3 with (first | (go_at_call 6; (with_reducible refine HBIG.out.mono ?_); rintro e u1 ⟨rfl, hbu⟩; have HU1 := Lib.hid hbu; clear hbu HBIG pc0 pc1 pc2 pc3 pc4 pc5 pb0 pb1; obtain ⟨pc0, pc1, pc2, pc3, pc4, pc5, pb0, pb1⟩ := HC.out _ HU1.out) | (go_at_call 7; (with_reducible refine (HG.out _).mono ?_); rintro e u2 ⟨rfl, hbu⟩; have HU2 := Lib.hid (bel_trans HU1.out hbu); clear hbu HG pc0 pc1 pc2 pc3 pc4 pc5 pb0 pb1; obtain ⟨pc0, pc1, pc2, pc3, pc4, pc5, pb0, pb1⟩ := HC.out _ HU2.out))
      have HN := Lib.hid (new_any u2)
      clear pc0 pc1 pc2 pc3 pc4 pc5 pb0 pb1 HC
      go_wp2_with fail
      (with_reducible refine HN.out.mono ?_)
      rintro e u3 ⟨p, S, rfl, hI, hlo, hbn⟩
      have hm0 : Mine (FE W none 0 0 []) u3 p 0 [] := ⟨S, hI, ⟨fun k hk => Nat.le_trans HU2.out.size (hlo k hk), bel_trans HU2.out hbn⟩, Rw.nil_ _, fun h0 => absurd h0 (by omega)⟩
      have HM0 := Lib.hid hm0
      clear hI hlo hbn hm0 HN HU1 HU2
      unfold ptr
      go_wp2_with fail
      go_loopw [8, 9] (PlRel W p n) (fun _ v _ => n - (intOf v).toNat)
      case atStart => exact ⟨0, none, 0, 0, [], 0, rfl, rfl, Nat.zero_le _, Nat.le_refl _, Nat.le_refl _, (fun e h => by cases h), HM0.out⟩
      case round =>
        obtain ⟨k, A8, m, c8, y, M, rfl, rfl, hk, hmk, hM, hys, hm⟩ := hrel
        clear HM0
        have hbw : Below W.heap.size W wr := by
          obtain ⟨_, _, h, _⟩ := hm
          exact h.2
        by_cases hlt : k < n
        · obtain ⟨g, o, ⟨d, ⟨i1, i2⟩, ⟨kd, cl, sq, ky, vl, rv⟩, s⟩, rfl, hg, hx, hcx⟩ := HR.out.1.at_ hlt
          obtain ⟨hwi, hwc⟩ := HR.out.2.1 _ (List.mem_of_getElem? hx)
          have hky := (bigA_no HQ.out.1).2 _ (List.mem_of_getElem? hx)
          have hcxu : wr.rangeAt g (o + k * 10) (LA.enc (⟨d, (i1, i2), ⟨kd, cl, sq, ky, vl, rv⟩, s⟩ : Ac)) := range_bel hbw hg hcx
          obtain ⟨c0, c1, c2, c3, c4, c5, c6, c7, c8', c9⟩ := ten hcxu
          simp only at c0 c1 c2 c3 c4 c5 c6 c7 c8' c9 hwi hwc hky
          obtain ⟨W3, hW3⟩ : ∃ v, wr.alloc (.cells #[.int .i64 d, .int .i64 i1, .int .i64 i2, .int .i64 kd, .int .i64 cl, .int .i64 sq, .string ky, .string vl, .int .i64 rv, .int .i64 s] 34) = v := ⟨_, rfl⟩
          obtain ⟨b6, hb6⟩ : ∃ v, wr.heap.size = v := ⟨_, rfl⟩
          have hb3 : Below wr.heap.size wr W3 := by rw [← hW3]; exact bel_alloc (Below.refl _ _) _
          have hx6 : Blk W3 b6 34 #[.int .i64 d, .int .i64 i1, .int .i64 i2, .int .i64 kd, .int .i64 cl, .int .i64 sq, .string ky, .string vl, .int .i64 rv, .int .i64 s] := by rw [← hW3, ← hb6]; exact Blk.new wr _ _
          have hs3 : W3.heap.size = b6 + 1 := by rw [← hW3, ← hb6, size_alloc]
          obtain ⟨e0, e1, e2, e3, e4, e5, e6, e7, e8, e9⟩ := blk10 hx6
          have HBW3 := Lib.hid (bel_trans hbw hb3)
          have HM := Lib.hid hm
          have HX := Lib.hid (And.intro hwi (And.intro hwc (And.intro hky (And.intro hys (And.intro hx6 (And.intro hs3 (And.intro hb3 hb6)))))))
          have HW3 := Lib.hid (And.intro hW3 hb6)
          have hlen := hm.uq.2.1
          have hrl : y.length = m := by
            obtain ⟨_, _, _, h, _⟩ := hm
            exact h.len
          clear hm hbw hg hx hcx hcxu hW3 hb3 hx6 hs3 hwi hwc hky hys hlen
          go_upto_region 9 with fail
          rw [HW3.out.1]
          clear c0 c1 c2 c3 c4 c5 c6 c7 c8' c9 hb6
          by_cases hbs : 1152921504606846976 < s
          · go_wp2_with (go_at_call 8; (with_reducible refine (HAW.out _).mono ?_); rintro e w10 ⟨rfl, hb10⟩; have HB10 := Lib.hid hb10; clear hb10)
            go_ret
            exact ⟨rfl, bel_trans HB.out (bel_trans HBW3.out HB10.out)⟩
          · have hdr := refdrop_any (i1, i2) W3 (A := A8) (n := m) (c := c8) (l := y) (by
              obtain ⟨_, _, _, h, _⟩ := HM.out
              exact h.below HX.out.2.2.2.2.2.2.1) (by omega)
            obtain ⟨y2, hy2⟩ : ∃ y2, dropE y (i1, i2) = y2 := ⟨_, rfl⟩
            rw [hy2] at hdr
            obtain ⟨m2, hm2⟩ : ∃ m2, y2.length = m2 := ⟨_, rfl⟩
            have HDR2 := Lib.hid (hdr.mono (fun e v (h : NewEn W3 y2 e v) => show ∃ V c', e = .returned (.slice V m2 c') ∧ v.ownsRow W3.heap.size 38 LE.s (.slice V m2 c') m2 (LE.flat y2) ∧ Below W3.heap.size W3 v from by
              subst hm2
              exact h))
            have hm2k : m2 ≤ k := by
              rw [← hm2, ← hy2]
              refine Nat.le_trans (List.length_filter_le _ _) ?_
              omega
            have hys2 : ∀ e ∈ y2, e.s ≤ 1152921504606846976 := fun e he => by
              rw [← hy2] at he
              exact HX.out.2.2.2.1 e (mem_dropE.1 he).1
            have HY2 := Lib.hid (And.intro hy2 (And.intro hm2 hys2))
            clear hdr hy2 hm2 hys2
            go_wp2_with fail
            (with_reducible refine HDR2.out.mono ?_)
            rintro e u1 ⟨V, c', rfl, ho, hbu⟩
            have hq1 : Mine (FQ W W3.heap.size V m2 c' y2 b6 #[.int .i64 d, .int .i64 i1, .int .i64 i2, .int .i64 kd, .int .i64 cl, .int .i64 sq, .string ky, .string vl, .int .i64 rv, .int .i64 s]) u1 p M y := by
              obtain ⟨S, h1, h2, h3⟩ := HM.out
              have hlow := ii_low h1
              have h13 := bel_trans HX.out.2.2.2.2.2.2.1 hbu
              have hs3 := HX.out.2.2.2.2.2.1
              have hb6 := HX.out.2.2.2.2.2.2.2
              refine ⟨S, ii_below h1 h13, ⟨(frame_new W).go h2 (Keeps.ofBelow h13) (Grew.refl _ _), ho, fun j e hs => ?_⟩, HX.out.2.2.2.2.1.bel hbu, fun hs => ?_⟩
              · have h5 := (ho.lt j e).1
                have h6 := hlow _ hs
                omega
              · have h6 := hlow _ hs
                omega
            have HQ1 := Lib.hid hq1
            have hFq := frame_fq W W3.heap.size V m2 c' y2 b6 #[.int .i64 d, .int .i64 i1, .int .i64 i2, .int .i64 kd, .int .i64 cl, .int .i64 sq, .string ky, .string vl, .int .i64 rv, .int .i64 s]
            have HX6 := Lib.hid (HX.out.2.2.2.2.1.bel hbu)
            clear e0 e1 e2 e3 e4 e5 e6 e7 e8 e9 ho hbu hq1 HDR2 HM
            obtain ⟨e0, e1, e2, e3, e4, e5, e6, e7, e8, e9⟩ := blk10 HX6.out
            by_cases hd0 : d = 0
            · have HPUT : Hid (Calls Try.prog 11 #[.pointer (some ⟨p, 0, none⟩), .agg #[.int .i64 i1, .int .i64 i2], .agg #[.int .i64 kd, .int .i64 cl, .int .i64 sq, .string ky, .string vl, .int .i64 rv], .int .i64 s] u1 (fun e w' => e = .returned (.tuple #[]) ∧ Mine (FQ W W3.heap.size V m2 c' y2 b6 #[.int .i64 d, .int .i64 i1, .int .i64 i2, .int .i64 kd, .int .i64 cl, .int .i64 sq, .string ky, .string vl, .int .i64 rv, .int .i64 s]) w' p (M + 2) (putE y (i1, i2) (⟨kd, cl, sq, ky, vl, rv⟩ : Cm) s))) := Lib.hid (put_mine hFq (i1, i2) (⟨kd, cl, sq, ky, vl, rv⟩ : Cm) s HQ1.out HX.out.1 (by have := HX.out.2.2.1; show ky.size ≤ _; omega) HX.out.2.1 (by omega))
              clear HQ1 hFq HX6
              subst hd0
              go_wp2_with fail
              (with_reducible refine HPUT.out.mono ?_)
              rintro e u2 ⟨rfl, hm2'⟩
              have HM2 := Lib.hid hm2'
              obtain ⟨S2, hI2, ⟨hN2, hO2⟩, hB2⟩ := hm2'
              clear e0 e1 e2 e3 e4 e5 e6 e7 e8 e9 HPUT hI2 hN2
              obtain ⟨e0, e1, e2, e3, e4, e5, e6, e7, e8, e9⟩ := blk10 hB2.1
              have hbl : Below u2.heap.size u2 (u2.alloc (.cells #[.int .i64 i1, .int .i64 i2, .int .i64 kd, .int .i64 cl, .int .i64 sq, .string ky, .string vl, .int .i64 rv, .int .i64 s] 38)) := bel_alloc (Below.refl _ _) _
              have hlit : Rw LE (u2.alloc (.cells #[.int .i64 i1, .int .i64 i2, .int .i64 kd, .int .i64 cl, .int .i64 sq, .string ky, .string vl, .int .i64 rv, .int .i64 s] 38)) (some ⟨u2.heap.size, 0, none⟩) 1 1 [(⟨(i1, i2), (⟨kd, cl, sq, ky, vl, rv⟩ : Cm), s⟩ : En)] := Rw.lit (L := LE) u2 (⟨(i1, i2), (⟨kd, cl, sq, ky, vl, rv⟩ : Cm), s⟩ : En) 38
              obtain ⟨i0, hi, hz0, hz1, hz2⟩ := info_parts info_en
              have hsz := hbl.size
              have hlt6 := hB2.1.lt
              have hs3 := HX.out.2.2.2.2.2.1
              have hWB : W.heap.size ≤ W3.heap.size := HBW3.out.size
              obtain ⟨V1, c1x, u3, hrun, hown, hgrw, hloc⟩ := run_append_rw (L := LE) (ty := 32) (bytes := 88) Try.underlying32 hi hz0 hz1 hz2 rfl (ownsRow_below hO2.1 hbl) hlit (by unfold maxLen; omega) (by omega) (by omega)
              obtain ⟨m3, hm3⟩ : ∃ m3, m2 + 1 = m3 := ⟨_, rfl⟩
              rw [hm3] at hrun hown hloc
              obtain ⟨Y, hYe⟩ : ∃ Y, y2 ++ [(⟨(i1, i2), (⟨kd, cl, sq, ky, vl, rv⟩ : Cm), s⟩ : En)] = Y := ⟨_, rfl⟩
              rw [hYe] at hown
              have hY : Mine (FE W V1 m3 c1x Y) u3 p (M + 2) Y := by
                have h := HM2.out.app hWB hbl hown hgrw hloc
                have e : putE y (i1, i2) (⟨kd, cl, sq, ky, vl, rv⟩ : Cm) s = Y := by
                  rw [← hYe, ← HY2.out.1]
                  rfl
                rw [e] at h
                exact h
              have hYs : ∀ e ∈ Y, e.s ≤ 1152921504606846976 := by
                intro e he
                rw [← hYe] at he
                rcases List.mem_append.1 he with he | he
                · exact HY2.out.2.2 e he
                · rw [List.mem_singleton.1 he]
                  show s ≤ _
                  omega
              have hYm : Y.length = m3 := by
                rw [← hYe, List.length_append, HY2.out.2.1, ← hm3]
                rfl
              have hFe := frame_fe W V1 m3 c1x Y
              obtain ⟨hq1, hq2, hcc⟩ := HQ.out
              have hcky := small_cmd hq2
              have hbU : Below W.heap.size W u3 := by
                obtain ⟨_, _, h, _⟩ := hY
                exact h.2
              obtain ⟨T, hT⟩ : ∃ T, topE Y (⟨ckd, ccl, csq, cky, cvl, crv⟩ : Cm) (b1, b2) = T := ⟨_, rfl⟩
              obtain ⟨DD, hDD⟩ : ∃ DD, depsE Y (⟨ckd, ccl, csq, cky, cvl, crv⟩ : Cm) (b1, b2) = DD := ⟨_, rfl⟩
              have htop := topE_le hYs (⟨ckd, ccl, csq, cky, cvl, crv⟩ : Cm) (b1, b2)
              have HLEN : Hid (∀ u, Below u3.heap.size u3 u → Calls Try.prog 13 #[.pointer (some ⟨p, 0, none⟩)] u (fun e w' => e = .returned (.int .i64 (m3 : Int)) ∧ w' = u)) := Lib.hid fun u hu => by
                have := len_mine (hY.bel hFe hu)
                rw [hYm] at this
                exact this
              have HDEPS : Hid (∀ u, Below u3.heap.size u3 u → Calls Try.prog 15 #[.pointer (some ⟨p, 0, none⟩), .agg #[.int .i64 ckd, .int .i64 ccl, .int .i64 csq, .string cky, .string cvl, .int .i64 crv], .agg #[.int .i64 b1, .int .i64 b2]] u (Gets u DD)) := Lib.hid fun u hu => by
                have := deps_mine (⟨ckd, ccl, csq, cky, cvl, crv⟩ : Cm) (b1, b2) (hY.bel hFe hu) (by omega) (by show cky.size ≤ _; simp only at hcky; omega) hcc
                rw [hDD] at this
                exact this
              have HRD : Hid (∀ u, Below u3.heap.size u3 u → Calls Try.prog 16 #[.slice V1 m3 c1x, .agg #[.int .i64 ckd, .int .i64 ccl, .int .i64 csq, .string cky, .string cvl, .int .i64 crv], .agg #[.int .i64 b1, .int .i64 b2]] u (Makes u DD)) := Lib.hid fun u hu => by
                obtain ⟨_, _, _, hR, _⟩ := hY.bel hFe hu
                have := refdeps_any (⟨ckd, ccl, csq, cky, cvl, crv⟩ : Cm) (b1, b2) u hR (by omega)
                rw [hDD] at this
                exact this
              have HSEQ : Hid (∀ u, Below u3.heap.size u3 u → Calls Try.prog 17 #[.pointer (some ⟨p, 0, none⟩), .agg #[.int .i64 ckd, .int .i64 ccl, .int .i64 csq, .string cky, .string cvl, .int .i64 crv], .agg #[.int .i64 b1, .int .i64 b2]] u (fun e w' => e = .returned (.int .i64 (T + 1)) ∧ Below u.heap.size u w')) := Lib.hid fun u hu => by
                have := seq_mine (⟨ckd, ccl, csq, cky, cvl, crv⟩ : Cm) (b1, b2) (hY.bel hFe hu) (by omega) (by show cky.size ≤ _; simp only at hcky; omega) hcc htop
                rw [hT] at this
                exact this
              have HRSEQ : Hid (∀ u, Below u3.heap.size u3 u → Calls Try.prog 18 #[.slice V1 m3 c1x, .agg #[.int .i64 ckd, .int .i64 ccl, .int .i64 csq, .string cky, .string cvl, .int .i64 crv], .agg #[.int .i64 b1, .int .i64 b2]] u (fun e w' => e = .returned (.int .i64 (T + 1)) ∧ Below u.heap.size u w')) := Lib.hid fun u hu => by
                obtain ⟨_, _, _, hR, _⟩ := hY.bel hFe hu
                have := refseq_any (⟨ckd, ccl, csq, cky, cvl, crv⟩ : Cm) (b1, b2) u hR (by omega) htop
                rw [hT] at this
                exact this
              have HXC := Lib.hid (HBC.out.1.bel hbU)
              have HXB := Lib.hid (HBC.out.2.bel hbU)
              have HYY := Lib.hid (And.intro hY (And.intro hYs (And.intro (show m3 ≤ k + 1 by omega) (show (M + 2) ≤ 2 * (k + 1) by omega))))
              have HS0 := Lib.hid (show Below u3.heap.size u3 u3.drew from Below.drew (Below.refl _ _))
              clear hFe hq1 hq2 hcc hcky hbU hT hDD htop hY hYs hYm
              have HRUN := Lib.hid hrun
              clear hbl hlit hi hz0 hz1 hz2 hsz hlt6 hs3 hWB hrun hown hgrw hloc hYe HM2 hO2 hB2
              go_upto_region 16 with (at_builtin; refine wpList_append_row rfl (.tmp 48) (.tmp 56) rfl HRUN.out ?_)
              clear e0 e1 e2 e3 e4 e5 e6 e7 e8 e9 HRUN
              refine wp_region_held_drew (S := (fun w' => Below u3.heap.size u3 w')) (by kernel_rfl) (by first | (with_reducible exact HS6.out) | (with_reducible exact HS5.out) | (with_reducible exact HS4.out) | (with_reducible exact HS3.out) | (with_reducible exact HS2.out) | (with_reducible exact HS0.out)) (fun hHeld => ?_)
              refine held_take (i := 0) (d := 62) (v := (.pointer (some ⟨p, 0, none⟩))) rfl rfl (by kernel_rfl) (by kernel_rfl) (by kernel_rfl) (fun _ _ _ h => h) (by kernel_rfl) (fun w hSw => by (obtain hS := hSw); go_simp) hHeld ?_
              try simp only [List.setIfInBounds_toArray, List.set_cons_zero, List.set_cons_succ]
              refine held_take (i := 2) (d := 64) (v := (.slice V1 m3 c1x)) rfl rfl (by kernel_rfl) (by kernel_rfl) (by kernel_rfl) (fun _ _ _ h => h) (by kernel_rfl) (fun w hSw => by (obtain hS := hSw); go_simp) hHeld ?_
              try simp only [List.setIfInBounds_toArray, List.set_cons_zero, List.set_cons_succ]
              refine held_take (i := 3) (d := 65) (v := (.int .i64 (m3 : Int))) rfl rfl (by kernel_rfl) (by kernel_rfl) (by kernel_rfl) (fun _ _ _ h => h) (by kernel_rfl) (fun w hSw => by (obtain hS := hSw); go_simp) hHeld ?_
              try simp only [List.setIfInBounds_toArray, List.set_cons_zero, List.set_cons_succ]
              refine wpAnyH_ready (rs := [1]) (by kernel_rfl) (by simp) ?_
              refine AllReadyH.cons rfl (fun K hK => ?_) AllReadyH.nil
              go_simp
              go_at_call 13
              (with_reducible refine (HLEN.out _ HS0.out).mono ?_)
              rintro e v1 ⟨rfl, rfl⟩
              refine hK.out _ _ (by first | (with_reducible exact HS6.out) | (with_reducible exact HS5.out) | (with_reducible exact HS4.out) | (with_reducible exact HS3.out) | (with_reducible exact HS2.out) | (with_reducible exact HS0.out)) (fun hHeld => ?_)
              clear hK K
              refine held_take (i := 4) (d := 66) (v := (.bool false)) rfl rfl (by kernel_rfl) (by kernel_rfl) (by kernel_rfl) (fun _ _ _ h => h) (by kernel_rfl) (fun w hSw => by (obtain hS := hSw); go_simp) hHeld ?_
              try simp only [List.setIfInBounds_toArray, List.set_cons_zero, List.set_cons_succ]
              refine held_take (i := 5) (d := 67) (v := (.bool false)) rfl rfl (by kernel_rfl) (by kernel_rfl) (by kernel_rfl) (fun _ _ _ h => h) (by kernel_rfl) (fun w hSw => by (obtain hS := hSw); go_simp) hHeld ?_
              try simp only [List.setIfInBounds_toArray, List.set_cons_zero, List.set_cons_succ]
              refine held_take (i := 6) (d := 68) (v := (.pointer (some ⟨p, 0, none⟩))) rfl rfl (by kernel_rfl) (by kernel_rfl) (by kernel_rfl) (fun _ _ _ h => h) (by kernel_rfl) (fun w hSw => by (obtain hS := hSw); go_simp) hHeld ?_
              try simp only [List.setIfInBounds_toArray, List.set_cons_zero, List.set_cons_succ]
              refine held_take (i := 7) (d := 69) (v := (.agg #[.int .i64 ckd, .int .i64 ccl, .int .i64 csq, .string cky, .string cvl, .int .i64 crv])) rfl rfl (by kernel_rfl) (by kernel_rfl) (by kernel_rfl) (fun _ _ _ h => h) (by kernel_rfl) (run_load_blk 24 (.tmp 4) rfl (w.heap.size) 24 #[.int .i64 ckd, .int .i64 ccl, .int .i64 csq, .string cky, .string cvl, .int .i64 crv] _ rfl (fun _ h => HXC.out.bel h) Try.underlying24 rfl (by kernel_rfl)) hHeld ?_
              try simp only [List.setIfInBounds_toArray, List.set_cons_zero, List.set_cons_succ]
              refine held_take (i := 8) (d := 70) (v := (.agg #[.int .i64 b1, .int .i64 b2])) rfl rfl (by kernel_rfl) (by kernel_rfl) (by kernel_rfl) (fun _ _ _ h => h) (by kernel_rfl) (run_load_blk 26 (.tmp 5) rfl (w.heap.size + 1) 26 #[.int .i64 b1, .int .i64 b2] _ rfl (fun _ h => HXB.out.bel h) Try.underlying26 rfl (by kernel_rfl)) hHeld ?_
              try simp only [List.setIfInBounds_toArray, List.set_cons_zero, List.set_cons_succ]
              refine held_take (i := 10) (d := 72) (v := (.slice V1 m3 c1x)) rfl rfl (by kernel_rfl) (by kernel_rfl) (by kernel_rfl) (fun _ _ _ h => h) (by kernel_rfl) (fun w hSw => by (obtain hS := hSw); go_simp) hHeld ?_
              try simp only [List.setIfInBounds_toArray, List.set_cons_zero, List.set_cons_succ]
              refine held_take (i := 11) (d := 73) (v := (.agg #[.int .i64 ckd, .int .i64 ccl, .int .i64 csq, .string cky, .string cvl, .int .i64 crv])) rfl rfl (by kernel_rfl) (by kernel_rfl) (by kernel_rfl) (fun _ _ _ h => h) (by kernel_rfl) (run_load_blk 24 (.tmp 4) rfl (w.heap.size) 24 #[.int .i64 ckd, .int .i64 ccl, .int .i64 csq, .string cky, .string cvl, .int .i64 crv] _ rfl (fun _ h => HXC.out.bel h) Try.underlying24 rfl (by kernel_rfl)) hHeld ?_
              try simp only [List.setIfInBounds_toArray, List.set_cons_zero, List.set_cons_succ]
              refine held_take (i := 12) (d := 74) (v := (.agg #[.int .i64 b1, .int .i64 b2])) rfl rfl (by kernel_rfl) (by kernel_rfl) (by kernel_rfl) (fun _ _ _ h => h) (by kernel_rfl) (run_load_blk 26 (.tmp 5) rfl (w.heap.size + 1) 26 #[.int .i64 b1, .int .i64 b2] _ rfl (fun _ h => HXB.out.bel h) Try.underlying26 rfl (by kernel_rfl)) hHeld ?_
              try simp only [List.setIfInBounds_toArray, List.set_cons_zero, List.set_cons_succ]
              refine wpAnyH_ready (rs := [9]) (by kernel_rfl) (by simp) ?_
              refine AllReadyH.cons rfl (fun K hK => ?_) AllReadyH.nil
              go_simp
              go_at_call 15
              (with_reducible refine (HDEPS.out _ HS0.out).mono ?_)
              rintro e v2 ⟨A5, k5, rfl, hrs, hbu⟩
              have HS2 := Lib.hid (bel_trans HS0.out hbu)
              have HR5 := Lib.hid hrs
              clear hbu hrs HDEPS
              refine hK.out _ _ (by first | (with_reducible exact HS6.out) | (with_reducible exact HS5.out) | (with_reducible exact HS4.out) | (with_reducible exact HS3.out) | (with_reducible exact HS2.out) | (with_reducible exact HS0.out)) (fun hHeld => ?_)
              clear hK K
              refine wpAnyH_ready (rs := [13]) (by kernel_rfl) (by simp) ?_
              refine AllReadyH.cons rfl (fun K hK => ?_) AllReadyH.nil
              go_simp
              go_at_call 16
              (with_reducible refine (HRD.out _ HS2.out).mono ?_)
              rintro e v3 ⟨V6, k6, rfl, ho, hbu⟩
              have HS3 := Lib.hid (bel_trans HS2.out hbu)
              have HQ6 := Lib.hid (eq_same (HR5.out.below hbu) (rs_li (Rw.own (L := LI) ho)))
              clear hbu ho HRD HR5
              refine hK.out _ _ (by first | (with_reducible exact HS6.out) | (with_reducible exact HS5.out) | (with_reducible exact HS4.out) | (with_reducible exact HS3.out) | (with_reducible exact HS2.out) | (with_reducible exact HS0.out)) (fun hHeld => ?_)
              clear hK K
              refine wpAnyH_ready (rs := [14]) (by kernel_rfl) (by simp) ?_
              refine AllReadyH.cons rfl (fun K hK => ?_) AllReadyH.nil
              go_simp
              go_at_call 14
              (with_reducible refine (HQ6.out).mono ?_)
              rintro e v4 ⟨rfl, hbu⟩
              have HS4 := Lib.hid (bel_trans HS3.out hbu)
              clear hbu HQ6
              refine hK.out _ _ (by first | (with_reducible exact HS6.out) | (with_reducible exact HS5.out) | (with_reducible exact HS4.out) | (with_reducible exact HS3.out) | (with_reducible exact HS2.out) | (with_reducible exact HS0.out)) (fun hHeld => ?_)
              clear hK K
              refine held_take (i := 15) (d := 77) (v := (.bool false)) rfl rfl (by kernel_rfl) (by kernel_rfl) (by kernel_rfl) (fun _ _ _ h => h) (by kernel_rfl) (fun w hSw => by (obtain hS := hSw); go_simp) hHeld ?_
              try simp only [List.setIfInBounds_toArray, List.set_cons_zero, List.set_cons_succ]
              refine held_take (i := 16) (d := 78) (v := (.bool false)) rfl rfl (by kernel_rfl) (by kernel_rfl) (by kernel_rfl) (fun _ _ _ h => h) (by kernel_rfl) (fun w hSw => by (obtain hS := hSw); go_simp) hHeld ?_
              try simp only [List.setIfInBounds_toArray, List.set_cons_zero, List.set_cons_succ]
              refine held_take (i := 17) (d := 79) (v := (.bool false)) rfl rfl (by kernel_rfl) (by kernel_rfl) (by kernel_rfl) (fun _ _ _ h => h) (by kernel_rfl) (fun w hSw => by (obtain hS := hSw); go_simp) hHeld ?_
              try simp only [List.setIfInBounds_toArray, List.set_cons_zero, List.set_cons_succ]
              refine held_take (i := 18) (d := 80) (v := (.pointer (some ⟨p, 0, none⟩))) rfl rfl (by kernel_rfl) (by kernel_rfl) (by kernel_rfl) (fun _ _ _ h => h) (by kernel_rfl) (fun w hSw => by (obtain hS := hSw); go_simp) hHeld ?_
              try simp only [List.setIfInBounds_toArray, List.set_cons_zero, List.set_cons_succ]
              refine held_take (i := 19) (d := 81) (v := (.agg #[.int .i64 ckd, .int .i64 ccl, .int .i64 csq, .string cky, .string cvl, .int .i64 crv])) rfl rfl (by kernel_rfl) (by kernel_rfl) (by kernel_rfl) (fun _ _ _ h => h) (by kernel_rfl) (run_load_blk 24 (.tmp 4) rfl (w.heap.size) 24 #[.int .i64 ckd, .int .i64 ccl, .int .i64 csq, .string cky, .string cvl, .int .i64 crv] _ rfl (fun _ h => HXC.out.bel h) Try.underlying24 rfl (by kernel_rfl)) hHeld ?_
              try simp only [List.setIfInBounds_toArray, List.set_cons_zero, List.set_cons_succ]
              refine held_take (i := 20) (d := 82) (v := (.agg #[.int .i64 b1, .int .i64 b2])) rfl rfl (by kernel_rfl) (by kernel_rfl) (by kernel_rfl) (fun _ _ _ h => h) (by kernel_rfl) (run_load_blk 26 (.tmp 5) rfl (w.heap.size + 1) 26 #[.int .i64 b1, .int .i64 b2] _ rfl (fun _ h => HXB.out.bel h) Try.underlying26 rfl (by kernel_rfl)) hHeld ?_
              try simp only [List.setIfInBounds_toArray, List.set_cons_zero, List.set_cons_succ]
              refine held_take (i := 22) (d := 84) (v := (.slice V1 m3 c1x)) rfl rfl (by kernel_rfl) (by kernel_rfl) (by kernel_rfl) (fun _ _ _ h => h) (by kernel_rfl) (fun w hSw => by (obtain hS := hSw); go_simp) hHeld ?_
              try simp only [List.setIfInBounds_toArray, List.set_cons_zero, List.set_cons_succ]
              refine held_take (i := 23) (d := 85) (v := (.agg #[.int .i64 ckd, .int .i64 ccl, .int .i64 csq, .string cky, .string cvl, .int .i64 crv])) rfl rfl (by kernel_rfl) (by kernel_rfl) (by kernel_rfl) (fun _ _ _ h => h) (by kernel_rfl) (run_load_blk 24 (.tmp 4) rfl (w.heap.size) 24 #[.int .i64 ckd, .int .i64 ccl, .int .i64 csq, .string cky, .string cvl, .int .i64 crv] _ rfl (fun _ h => HXC.out.bel h) Try.underlying24 rfl (by kernel_rfl)) hHeld ?_
              try simp only [List.setIfInBounds_toArray, List.set_cons_zero, List.set_cons_succ]
              refine held_take (i := 24) (d := 86) (v := (.agg #[.int .i64 b1, .int .i64 b2])) rfl rfl (by kernel_rfl) (by kernel_rfl) (by kernel_rfl) (fun _ _ _ h => h) (by kernel_rfl) (run_load_blk 26 (.tmp 5) rfl (w.heap.size + 1) 26 #[.int .i64 b1, .int .i64 b2] _ rfl (fun _ h => HXB.out.bel h) Try.underlying26 rfl (by kernel_rfl)) hHeld ?_
              try simp only [List.setIfInBounds_toArray, List.set_cons_zero, List.set_cons_succ]
              refine wpAnyH_ready (rs := [21]) (by kernel_rfl) (by simp) ?_
              refine AllReadyH.cons rfl (fun K hK => ?_) AllReadyH.nil
              go_simp
              go_at_call 17
              (with_reducible refine (HSEQ.out _ HS4.out).mono ?_)
              rintro e v5 ⟨rfl, hbu⟩
              have HS5 := Lib.hid (bel_trans HS4.out hbu)
              clear hbu HSEQ
              refine hK.out _ _ (by first | (with_reducible exact HS6.out) | (with_reducible exact HS5.out) | (with_reducible exact HS4.out) | (with_reducible exact HS3.out) | (with_reducible exact HS2.out) | (with_reducible exact HS0.out)) (fun hHeld => ?_)
              clear hK K
              refine wpAnyH_ready (rs := [25]) (by kernel_rfl) (by simp) ?_
              refine AllReadyH.cons rfl (fun K hK => ?_) AllReadyH.nil
              go_simp
              go_at_call 18
              (with_reducible refine (HRSEQ.out _ HS5.out).mono ?_)
              rintro e v6 ⟨rfl, hbu⟩
              have HS6 := Lib.hid (bel_trans HS5.out hbu)
              clear hbu HRSEQ
              refine hK.out _ _ (by first | (with_reducible exact HS6.out) | (with_reducible exact HS5.out) | (with_reducible exact HS4.out) | (with_reducible exact HS3.out) | (with_reducible exact HS2.out) | (with_reducible exact HS0.out)) (fun hHeld => ?_)
              clear hK K
              refine held_take (i := 26) (d := 88) (v := (.bool false)) rfl rfl (by kernel_rfl) (by kernel_rfl) (by kernel_rfl) (fun _ _ _ h => h) (by kernel_rfl) (fun w hSw => by (obtain hS := hSw); go_simp) hHeld ?_
              try simp only [List.setIfInBounds_toArray, List.set_cons_zero, List.set_cons_succ]
              refine held_take (i := 27) (d := 89) (v := (.bool false)) rfl rfl (by kernel_rfl) (by kernel_rfl) (by kernel_rfl) (fun _ _ _ h => h) (by kernel_rfl) (fun w hSw => by (obtain hS := hSw); go_simp) hHeld ?_
              try simp only [List.setIfInBounds_toArray, List.set_cons_zero, List.set_cons_succ]
              refine wpAnyH_done (by kernel_rfl) ?_ _
              have HFI := Lib.hid (show PlRel W p n (.slice V1 m3 c1x) (.int .i64 ((k + 1 : Nat) : Int)) v6 from ⟨k + 1, V1, m3, c1x, Y, (M + 2), rfl, rfl, by omega, HYY.out.2.2.1, HYY.out.2.2.2, HYY.out.2.1, HYY.out.1.bel (frame_fe _ _ _ _ _) HS6.out⟩)
              go_wp2_with fail
              go_roundw
              case rel => simpa using HFI.out
              case measure =>
                simp [intOf]
                omega
            · have HDROP : Hid (Calls Try.prog 12 #[.pointer (some ⟨p, 0, none⟩), .agg #[.int .i64 i1, .int .i64 i2]] u1 (fun e w' => e = .returned (.tuple #[]) ∧ Mine (FQ W W3.heap.size V m2 c' y2 b6 #[.int .i64 d, .int .i64 i1, .int .i64 i2, .int .i64 kd, .int .i64 cl, .int .i64 sq, .string ky, .string vl, .int .i64 rv, .int .i64 s]) w' p M (dropE y (i1, i2)))) := Lib.hid (drop_mine hFq (i1, i2) HQ1.out HX.out.1)
              have nd0 : (d == 0) = false := beq_false_of_ne hd0
              clear HQ1 hFq HX6
              go_upto_region 16 with (go_at_call 12; (with_reducible refine HDROP.out.mono ?_); rintro e u2 ⟨rfl, hm2'⟩; have HM2 := Lib.hid hm2'; clear hm2' e0 e1 e2 e3 e4 e5 e6 e7 e8 e9 HDROP)
              obtain ⟨Y, hYe⟩ : ∃ Y, y2 = Y := ⟨_, rfl⟩
              have hY : Mine (FE W V m2 c' Y) u2 p M Y := by
                have h := HM2.out.fe
                rw [HY2.out.1, hYe] at h
                exact h
              have hYs : ∀ e ∈ Y, e.s ≤ 1152921504606846976 := by
                rw [← hYe]
                exact HY2.out.2.2
              have hYm : Y.length = m2 := by rw [← hYe, HY2.out.2.1]
              have hFe := frame_fe W V m2 c' Y
              obtain ⟨hq1, hq2, hcc⟩ := HQ.out
              have hcky := small_cmd hq2
              have hbU : Below W.heap.size W u2 := by
                obtain ⟨_, _, h, _⟩ := hY
                exact h.2
              obtain ⟨T, hT⟩ : ∃ T, topE Y (⟨ckd, ccl, csq, cky, cvl, crv⟩ : Cm) (b1, b2) = T := ⟨_, rfl⟩
              obtain ⟨DD, hDD⟩ : ∃ DD, depsE Y (⟨ckd, ccl, csq, cky, cvl, crv⟩ : Cm) (b1, b2) = DD := ⟨_, rfl⟩
              have htop := topE_le hYs (⟨ckd, ccl, csq, cky, cvl, crv⟩ : Cm) (b1, b2)
              have HLEN : Hid (∀ u, Below u2.heap.size u2 u → Calls Try.prog 13 #[.pointer (some ⟨p, 0, none⟩)] u (fun e w' => e = .returned (.int .i64 (m2 : Int)) ∧ w' = u)) := Lib.hid fun u hu => by
                have := len_mine (hY.bel hFe hu)
                rw [hYm] at this
                exact this
              have HDEPS : Hid (∀ u, Below u2.heap.size u2 u → Calls Try.prog 15 #[.pointer (some ⟨p, 0, none⟩), .agg #[.int .i64 ckd, .int .i64 ccl, .int .i64 csq, .string cky, .string cvl, .int .i64 crv], .agg #[.int .i64 b1, .int .i64 b2]] u (Gets u DD)) := Lib.hid fun u hu => by
                have := deps_mine (⟨ckd, ccl, csq, cky, cvl, crv⟩ : Cm) (b1, b2) (hY.bel hFe hu) (by omega) (by show cky.size ≤ _; simp only at hcky; omega) hcc
                rw [hDD] at this
                exact this
              have HRD : Hid (∀ u, Below u2.heap.size u2 u → Calls Try.prog 16 #[.slice V m2 c', .agg #[.int .i64 ckd, .int .i64 ccl, .int .i64 csq, .string cky, .string cvl, .int .i64 crv], .agg #[.int .i64 b1, .int .i64 b2]] u (Makes u DD)) := Lib.hid fun u hu => by
                obtain ⟨_, _, _, hR, _⟩ := hY.bel hFe hu
                have := refdeps_any (⟨ckd, ccl, csq, cky, cvl, crv⟩ : Cm) (b1, b2) u hR (by omega)
                rw [hDD] at this
                exact this
              have HSEQ : Hid (∀ u, Below u2.heap.size u2 u → Calls Try.prog 17 #[.pointer (some ⟨p, 0, none⟩), .agg #[.int .i64 ckd, .int .i64 ccl, .int .i64 csq, .string cky, .string cvl, .int .i64 crv], .agg #[.int .i64 b1, .int .i64 b2]] u (fun e w' => e = .returned (.int .i64 (T + 1)) ∧ Below u.heap.size u w')) := Lib.hid fun u hu => by
                have := seq_mine (⟨ckd, ccl, csq, cky, cvl, crv⟩ : Cm) (b1, b2) (hY.bel hFe hu) (by omega) (by show cky.size ≤ _; simp only at hcky; omega) hcc htop
                rw [hT] at this
                exact this
              have HRSEQ : Hid (∀ u, Below u2.heap.size u2 u → Calls Try.prog 18 #[.slice V m2 c', .agg #[.int .i64 ckd, .int .i64 ccl, .int .i64 csq, .string cky, .string cvl, .int .i64 crv], .agg #[.int .i64 b1, .int .i64 b2]] u (fun e w' => e = .returned (.int .i64 (T + 1)) ∧ Below u.heap.size u w')) := Lib.hid fun u hu => by
                obtain ⟨_, _, _, hR, _⟩ := hY.bel hFe hu
                have := refseq_any (⟨ckd, ccl, csq, cky, cvl, crv⟩ : Cm) (b1, b2) u hR (by omega) htop
                rw [hT] at this
                exact this
              have HXC := Lib.hid (HBC.out.1.bel hbU)
              have HXB := Lib.hid (HBC.out.2.bel hbU)
              have HYY := Lib.hid (And.intro hY (And.intro hYs (And.intro (show m2 ≤ k + 1 by omega) (show M ≤ 2 * (k + 1) by omega))))
              have HS0 := Lib.hid (show Below u2.heap.size u2 u2.drew from Below.drew (Below.refl _ _))
              clear hFe hq1 hq2 hcc hcky hbU hT hDD htop hY hYs hYm
              clear hYe HM2
              refine wp_region_held_drew (S := (fun w' => Below u2.heap.size u2 w')) (by kernel_rfl) (by first | (with_reducible exact HS6.out) | (with_reducible exact HS5.out) | (with_reducible exact HS4.out) | (with_reducible exact HS3.out) | (with_reducible exact HS2.out) | (with_reducible exact HS0.out)) (fun hHeld => ?_)
              refine held_take (i := 0) (d := 62) (v := (.pointer (some ⟨p, 0, none⟩))) rfl rfl (by kernel_rfl) (by kernel_rfl) (by kernel_rfl) (fun _ _ _ h => h) (by kernel_rfl) (fun w hSw => by (obtain hS := hSw); go_simp) hHeld ?_
              try simp only [List.setIfInBounds_toArray, List.set_cons_zero, List.set_cons_succ]
              refine held_take (i := 2) (d := 64) (v := (.slice V m2 c')) rfl rfl (by kernel_rfl) (by kernel_rfl) (by kernel_rfl) (fun _ _ _ h => h) (by kernel_rfl) (fun w hSw => by (obtain hS := hSw); go_simp) hHeld ?_
              try simp only [List.setIfInBounds_toArray, List.set_cons_zero, List.set_cons_succ]
              refine held_take (i := 3) (d := 65) (v := (.int .i64 (m2 : Int))) rfl rfl (by kernel_rfl) (by kernel_rfl) (by kernel_rfl) (fun _ _ _ h => h) (by kernel_rfl) (fun w hSw => by (obtain hS := hSw); go_simp) hHeld ?_
              try simp only [List.setIfInBounds_toArray, List.set_cons_zero, List.set_cons_succ]
              refine wpAnyH_ready (rs := [1]) (by kernel_rfl) (by simp) ?_
              refine AllReadyH.cons rfl (fun K hK => ?_) AllReadyH.nil
              go_simp
              go_at_call 13
              (with_reducible refine (HLEN.out _ HS0.out).mono ?_)
              rintro e v1 ⟨rfl, rfl⟩
              refine hK.out _ _ (by first | (with_reducible exact HS6.out) | (with_reducible exact HS5.out) | (with_reducible exact HS4.out) | (with_reducible exact HS3.out) | (with_reducible exact HS2.out) | (with_reducible exact HS0.out)) (fun hHeld => ?_)
              clear hK K
              refine held_take (i := 4) (d := 66) (v := (.bool false)) rfl rfl (by kernel_rfl) (by kernel_rfl) (by kernel_rfl) (fun _ _ _ h => h) (by kernel_rfl) (fun w hSw => by (obtain hS := hSw); go_simp) hHeld ?_
              try simp only [List.setIfInBounds_toArray, List.set_cons_zero, List.set_cons_succ]
              refine held_take (i := 5) (d := 67) (v := (.bool false)) rfl rfl (by kernel_rfl) (by kernel_rfl) (by kernel_rfl) (fun _ _ _ h => h) (by kernel_rfl) (fun w hSw => by (obtain hS := hSw); go_simp) hHeld ?_
              try simp only [List.setIfInBounds_toArray, List.set_cons_zero, List.set_cons_succ]
              refine held_take (i := 6) (d := 68) (v := (.pointer (some ⟨p, 0, none⟩))) rfl rfl (by kernel_rfl) (by kernel_rfl) (by kernel_rfl) (fun _ _ _ h => h) (by kernel_rfl) (fun w hSw => by (obtain hS := hSw); go_simp) hHeld ?_
              try simp only [List.setIfInBounds_toArray, List.set_cons_zero, List.set_cons_succ]
              refine held_take (i := 7) (d := 69) (v := (.agg #[.int .i64 ckd, .int .i64 ccl, .int .i64 csq, .string cky, .string cvl, .int .i64 crv])) rfl rfl (by kernel_rfl) (by kernel_rfl) (by kernel_rfl) (fun _ _ _ h => h) (by kernel_rfl) (run_load_blk 24 (.tmp 4) rfl (w.heap.size) 24 #[.int .i64 ckd, .int .i64 ccl, .int .i64 csq, .string cky, .string cvl, .int .i64 crv] _ rfl (fun _ h => HXC.out.bel h) Try.underlying24 rfl (by kernel_rfl)) hHeld ?_
              try simp only [List.setIfInBounds_toArray, List.set_cons_zero, List.set_cons_succ]
              refine held_take (i := 8) (d := 70) (v := (.agg #[.int .i64 b1, .int .i64 b2])) rfl rfl (by kernel_rfl) (by kernel_rfl) (by kernel_rfl) (fun _ _ _ h => h) (by kernel_rfl) (run_load_blk 26 (.tmp 5) rfl (w.heap.size + 1) 26 #[.int .i64 b1, .int .i64 b2] _ rfl (fun _ h => HXB.out.bel h) Try.underlying26 rfl (by kernel_rfl)) hHeld ?_
              try simp only [List.setIfInBounds_toArray, List.set_cons_zero, List.set_cons_succ]
              refine held_take (i := 10) (d := 72) (v := (.slice V m2 c')) rfl rfl (by kernel_rfl) (by kernel_rfl) (by kernel_rfl) (fun _ _ _ h => h) (by kernel_rfl) (fun w hSw => by (obtain hS := hSw); go_simp) hHeld ?_
              try simp only [List.setIfInBounds_toArray, List.set_cons_zero, List.set_cons_succ]
              refine held_take (i := 11) (d := 73) (v := (.agg #[.int .i64 ckd, .int .i64 ccl, .int .i64 csq, .string cky, .string cvl, .int .i64 crv])) rfl rfl (by kernel_rfl) (by kernel_rfl) (by kernel_rfl) (fun _ _ _ h => h) (by kernel_rfl) (run_load_blk 24 (.tmp 4) rfl (w.heap.size) 24 #[.int .i64 ckd, .int .i64 ccl, .int .i64 csq, .string cky, .string cvl, .int .i64 crv] _ rfl (fun _ h => HXC.out.bel h) Try.underlying24 rfl (by kernel_rfl)) hHeld ?_
              try simp only [List.setIfInBounds_toArray, List.set_cons_zero, List.set_cons_succ]
              refine held_take (i := 12) (d := 74) (v := (.agg #[.int .i64 b1, .int .i64 b2])) rfl rfl (by kernel_rfl) (by kernel_rfl) (by kernel_rfl) (fun _ _ _ h => h) (by kernel_rfl) (run_load_blk 26 (.tmp 5) rfl (w.heap.size + 1) 26 #[.int .i64 b1, .int .i64 b2] _ rfl (fun _ h => HXB.out.bel h) Try.underlying26 rfl (by kernel_rfl)) hHeld ?_
              try simp only [List.setIfInBounds_toArray, List.set_cons_zero, List.set_cons_succ]
              refine wpAnyH_ready (rs := [9]) (by kernel_rfl) (by simp) ?_
              refine AllReadyH.cons rfl (fun K hK => ?_) AllReadyH.nil
              go_simp
              go_at_call 15
              (with_reducible refine (HDEPS.out _ HS0.out).mono ?_)
              rintro e v2 ⟨A5, k5, rfl, hrs, hbu⟩
              have HS2 := Lib.hid (bel_trans HS0.out hbu)
              have HR5 := Lib.hid hrs
              clear hbu hrs HDEPS
              refine hK.out _ _ (by first | (with_reducible exact HS6.out) | (with_reducible exact HS5.out) | (with_reducible exact HS4.out) | (with_reducible exact HS3.out) | (with_reducible exact HS2.out) | (with_reducible exact HS0.out)) (fun hHeld => ?_)
              clear hK K
              refine wpAnyH_ready (rs := [13]) (by kernel_rfl) (by simp) ?_
              refine AllReadyH.cons rfl (fun K hK => ?_) AllReadyH.nil
              go_simp
              go_at_call 16
              (with_reducible refine (HRD.out _ HS2.out).mono ?_)
              rintro e v3 ⟨V6, k6, rfl, ho, hbu⟩
              have HS3 := Lib.hid (bel_trans HS2.out hbu)
              have HQ6 := Lib.hid (eq_same (HR5.out.below hbu) (rs_li (Rw.own (L := LI) ho)))
              clear hbu ho HRD HR5
              refine hK.out _ _ (by first | (with_reducible exact HS6.out) | (with_reducible exact HS5.out) | (with_reducible exact HS4.out) | (with_reducible exact HS3.out) | (with_reducible exact HS2.out) | (with_reducible exact HS0.out)) (fun hHeld => ?_)
              clear hK K
              refine wpAnyH_ready (rs := [14]) (by kernel_rfl) (by simp) ?_
              refine AllReadyH.cons rfl (fun K hK => ?_) AllReadyH.nil
              go_simp
              go_at_call 14
              (with_reducible refine (HQ6.out).mono ?_)
              rintro e v4 ⟨rfl, hbu⟩
              have HS4 := Lib.hid (bel_trans HS3.out hbu)
              clear hbu HQ6
              refine hK.out _ _ (by first | (with_reducible exact HS6.out) | (with_reducible exact HS5.out) | (with_reducible exact HS4.out) | (with_reducible exact HS3.out) | (with_reducible exact HS2.out) | (with_reducible exact HS0.out)) (fun hHeld => ?_)
              clear hK K
              refine held_take (i := 15) (d := 77) (v := (.bool false)) rfl rfl (by kernel_rfl) (by kernel_rfl) (by kernel_rfl) (fun _ _ _ h => h) (by kernel_rfl) (fun w hSw => by (obtain hS := hSw); go_simp) hHeld ?_
              try simp only [List.setIfInBounds_toArray, List.set_cons_zero, List.set_cons_succ]
              refine held_take (i := 16) (d := 78) (v := (.bool false)) rfl rfl (by kernel_rfl) (by kernel_rfl) (by kernel_rfl) (fun _ _ _ h => h) (by kernel_rfl) (fun w hSw => by (obtain hS := hSw); go_simp) hHeld ?_
              try simp only [List.setIfInBounds_toArray, List.set_cons_zero, List.set_cons_succ]
              refine held_take (i := 17) (d := 79) (v := (.bool false)) rfl rfl (by kernel_rfl) (by kernel_rfl) (by kernel_rfl) (fun _ _ _ h => h) (by kernel_rfl) (fun w hSw => by (obtain hS := hSw); go_simp) hHeld ?_
              try simp only [List.setIfInBounds_toArray, List.set_cons_zero, List.set_cons_succ]
              refine held_take (i := 18) (d := 80) (v := (.pointer (some ⟨p, 0, none⟩))) rfl rfl (by kernel_rfl) (by kernel_rfl) (by kernel_rfl) (fun _ _ _ h => h) (by kernel_rfl) (fun w hSw => by (obtain hS := hSw); go_simp) hHeld ?_
              try simp only [List.setIfInBounds_toArray, List.set_cons_zero, List.set_cons_succ]
              refine held_take (i := 19) (d := 81) (v := (.agg #[.int .i64 ckd, .int .i64 ccl, .int .i64 csq, .string cky, .string cvl, .int .i64 crv])) rfl rfl (by kernel_rfl) (by kernel_rfl) (by kernel_rfl) (fun _ _ _ h => h) (by kernel_rfl) (run_load_blk 24 (.tmp 4) rfl (w.heap.size) 24 #[.int .i64 ckd, .int .i64 ccl, .int .i64 csq, .string cky, .string cvl, .int .i64 crv] _ rfl (fun _ h => HXC.out.bel h) Try.underlying24 rfl (by kernel_rfl)) hHeld ?_
              try simp only [List.setIfInBounds_toArray, List.set_cons_zero, List.set_cons_succ]
              refine held_take (i := 20) (d := 82) (v := (.agg #[.int .i64 b1, .int .i64 b2])) rfl rfl (by kernel_rfl) (by kernel_rfl) (by kernel_rfl) (fun _ _ _ h => h) (by kernel_rfl) (run_load_blk 26 (.tmp 5) rfl (w.heap.size + 1) 26 #[.int .i64 b1, .int .i64 b2] _ rfl (fun _ h => HXB.out.bel h) Try.underlying26 rfl (by kernel_rfl)) hHeld ?_
              try simp only [List.setIfInBounds_toArray, List.set_cons_zero, List.set_cons_succ]
              refine held_take (i := 22) (d := 84) (v := (.slice V m2 c')) rfl rfl (by kernel_rfl) (by kernel_rfl) (by kernel_rfl) (fun _ _ _ h => h) (by kernel_rfl) (fun w hSw => by (obtain hS := hSw); go_simp) hHeld ?_
              try simp only [List.setIfInBounds_toArray, List.set_cons_zero, List.set_cons_succ]
              refine held_take (i := 23) (d := 85) (v := (.agg #[.int .i64 ckd, .int .i64 ccl, .int .i64 csq, .string cky, .string cvl, .int .i64 crv])) rfl rfl (by kernel_rfl) (by kernel_rfl) (by kernel_rfl) (fun _ _ _ h => h) (by kernel_rfl) (run_load_blk 24 (.tmp 4) rfl (w.heap.size) 24 #[.int .i64 ckd, .int .i64 ccl, .int .i64 csq, .string cky, .string cvl, .int .i64 crv] _ rfl (fun _ h => HXC.out.bel h) Try.underlying24 rfl (by kernel_rfl)) hHeld ?_
              try simp only [List.setIfInBounds_toArray, List.set_cons_zero, List.set_cons_succ]
              refine held_take (i := 24) (d := 86) (v := (.agg #[.int .i64 b1, .int .i64 b2])) rfl rfl (by kernel_rfl) (by kernel_rfl) (by kernel_rfl) (fun _ _ _ h => h) (by kernel_rfl) (run_load_blk 26 (.tmp 5) rfl (w.heap.size + 1) 26 #[.int .i64 b1, .int .i64 b2] _ rfl (fun _ h => HXB.out.bel h) Try.underlying26 rfl (by kernel_rfl)) hHeld ?_
              try simp only [List.setIfInBounds_toArray, List.set_cons_zero, List.set_cons_succ]
              refine wpAnyH_ready (rs := [21]) (by kernel_rfl) (by simp) ?_
              refine AllReadyH.cons rfl (fun K hK => ?_) AllReadyH.nil
              go_simp
              go_at_call 17
              (with_reducible refine (HSEQ.out _ HS4.out).mono ?_)
              rintro e v5 ⟨rfl, hbu⟩
              have HS5 := Lib.hid (bel_trans HS4.out hbu)
              clear hbu HSEQ
              refine hK.out _ _ (by first | (with_reducible exact HS6.out) | (with_reducible exact HS5.out) | (with_reducible exact HS4.out) | (with_reducible exact HS3.out) | (with_reducible exact HS2.out) | (with_reducible exact HS0.out)) (fun hHeld => ?_)
              clear hK K
              refine wpAnyH_ready (rs := [25]) (by kernel_rfl) (by simp) ?_
              refine AllReadyH.cons rfl (fun K hK => ?_) AllReadyH.nil
              go_simp
              go_at_call 18
              (with_reducible refine (HRSEQ.out _ HS5.out).mono ?_)
              rintro e v6 ⟨rfl, hbu⟩
              have HS6 := Lib.hid (bel_trans HS5.out hbu)
              clear hbu HRSEQ
              refine hK.out _ _ (by first | (with_reducible exact HS6.out) | (with_reducible exact HS5.out) | (with_reducible exact HS4.out) | (with_reducible exact HS3.out) | (with_reducible exact HS2.out) | (with_reducible exact HS0.out)) (fun hHeld => ?_)
              clear hK K
              refine held_take (i := 26) (d := 88) (v := (.bool false)) rfl rfl (by kernel_rfl) (by kernel_rfl) (by kernel_rfl) (fun _ _ _ h => h) (by kernel_rfl) (fun w hSw => by (obtain hS := hSw); go_simp) hHeld ?_
              try simp only [List.setIfInBounds_toArray, List.set_cons_zero, List.set_cons_succ]
              refine held_take (i := 27) (d := 89) (v := (.bool false)) rfl rfl (by kernel_rfl) (by kernel_rfl) (by kernel_rfl) (fun _ _ _ h => h) (by kernel_rfl) (fun w hSw => by (obtain hS := hSw); go_simp) hHeld ?_
              try simp only [List.setIfInBounds_toArray, List.set_cons_zero, List.set_cons_succ]
              refine wpAnyH_done (by kernel_rfl) ?_ _
              have HFI := Lib.hid (show PlRel W p n (.slice V m2 c') (.int .i64 ((k + 1 : Nat) : Int)) v6 from ⟨k + 1, V, m2, c', Y, M, rfl, rfl, by omega, HYY.out.2.2.1, HYY.out.2.2.2, HYY.out.2.1, HYY.out.1.bel (frame_fe _ _ _ _ _) HS6.out⟩)
              go_wp2_with fail
              go_roundw
              case rel => simpa using HFI.out
              case measure =>
                simp [intOf]
                omega
        · have hkn : k = n := by omega
          have HBW := Lib.hid hbw
          clear hm hbw hys
          subst hkn
          go_wp2_with (go_at_call 8; (with_reducible refine (HAW.out _).mono ?_); rintro e w10 ⟨rfl, hb10⟩; have HB10 := Lib.hid hb10; clear hb10)
          go_ret
          exact ⟨rfl, bel_trans HB.out (HBW.out.trans (HB10.out.mono HBW.out.size))⟩
end Go.Proofs.Ytlcggldcofncgaa.Ix
