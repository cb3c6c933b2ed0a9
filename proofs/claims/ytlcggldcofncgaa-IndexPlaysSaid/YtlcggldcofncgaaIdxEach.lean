/-
  Texts of earlier layers, as one.
-/
import Derived.Test.YtlcggldcofncgaaIdxNear
import Derived.Test.YtlcggldcofncgaaRIds
/- The program's each: all that meet a command but one are told, whatever is told with it. -/
namespace Go.Proofs.Ytlcggldcofncgaa.Ix
open Go.RowKit Mem Dsk Go.Maps Ky Cmd Run Ids

/-- What is held of an id; whether one is told of it. -/
def said (l : List En) (i : Int × Int) : Cm × Int := (heldF l i).getD (zeroCm, 0)
def tells (l : List En) (c : Cm) (but i : Int × Int) : Bool := !decide (i = but) && meet (said l i).1 c
theorem meet_zero (c : Cm) : meet zeroCm c = false := by
  unfold meet
  rw [if_pos (.inl rfl)]
/-- A function that is told one id after the other: what holds of the world, of the blocks that are its own, and of what it was told. -/
structure Teller (F : Nat) (cap : Value) (I : World → (Nat → Prop) → List ((Int × Int) × Int) → Prop) : Prop where
  enter : ∀ args W, (callFunc F args).run Try.prog W = .ok (.enter F args) W
  tell : ∀ u T told (i : Int × Int) (s : Int), I u T told → told.length ≤ 1000000000 → Calls Try.prog F #[.agg #[.int .i64 i.1, .int .i64 i.2], .int .i64 s, cap] u (fun e u' => e = .returned (.tuple #[]) ∧ ∃ T', I u' T' (told ++ [(i, s)]) ∧ Dsk.Grew T T' u ∧ Keeps T u u')
  keep : ∀ u u' T S told, I u T told → Keeps S u u' → (∀ k, T k → ¬ S k) → I u' T told
  low : ∀ u T told, I u T told → ∀ k, T k → k < u.heap.size
def Sound (l : List En) (c : Cm) (but : Int × Int) (told : List ((Int × Int) × Int)) : Prop := ∀ y ∈ told, tells l c but y.1 = true ∧ y.2 = (said l y.1).2
def Done (l : List En) (c : Cm) (but : Int × Int) (m : Nat → Int × Int → Option Unit) (os : List (Option Nat)) (told : List ((Int × Int) × Int)) : Prop := ∀ o ∈ os, ∀ g, o = some g → ∀ i, (m g i).isSome → tells l c but i = true → (i, (said l i).2) ∈ told
/-- All that meet, but one, were told, and no others. -/
def Told (l : List En) (c : Cm) (but : Int × Int) (told : List ((Int × Int) × Int)) : Prop := ∀ y, y ∈ told ↔ ∃ e ∈ metE l c but, y = (e.i, e.s)
theorem told_all {l : List En} {c : Cm} {but : Int × Int} {told : List ((Int × Int) × Int)} {m : Nat → Int × Int → Option Unit} {os : List (Option Nat)} (u : Uq l) (hs : Sound l c but told) (hd : Done l c but m os told) (hc : ∀ x ∈ l, meet x.c c = true → ∃ g, some g ∈ os ∧ (m g x.i).isSome) : Told l c but told := by
  have hsaid : ∀ e ∈ l, said l e.i = (ask e.c, e.s) := fun e he => by unfold said; rw [heldF_in u he]; rfl
  intro y
  constructor
  · intro hy
    obtain ⟨h1, h2⟩ := hs y hy
    unfold tells at h1
    rw [Bool.and_eq_true] at h1
    cases hf : heldF l y.1 with
    | none =>
      unfold said at h1
      rw [hf] at h1
      have := h1.2
      rw [Option.getD_none, meet_zero] at this
      cases this
    | some x =>
      obtain ⟨e, he, hi, rfl⟩ := heldF_some hf
      refine ⟨e, mem_metE.2 ⟨he, by rw [hi]; simpa using h1.1, ?_⟩, ?_⟩
      · have := h1.2
        rw [← hi, hsaid e he, meet_ask] at this
        rw [meet_comm]
        exact this
      · rw [← hi, hsaid e he] at h2
        exact Prod.ext hi.symm h2
  · rintro ⟨e, he, rfl⟩
    obtain ⟨he, hb, hm⟩ := mem_metE.1 he
    rw [meet_comm] at hm
    obtain ⟨g, h1, h2⟩ := hc e he hm
    have := hd _ h1 g rfl e.i h2 (by unfold tells; rw [hsaid e he, meet_ask, hm]; simp [hb])
    rw [hsaid e he] at this
    exact this
def EachO (I : World → (Nat → Prop) → List ((Int × Int) × Int) → Prop) (w1 : World) (T0 : Nat → Prop) (l : List En) (c : Cm) (but : Int × Int) (m : Nat → Int × Int → Option Unit) (os : List (Option Nat)) (M : Nat) (v : Value) (wr : World) : Prop := ∃ (k : Nat) (T : Nat → Prop) (told : List ((Int × Int) × Int)),
  v = .int .i64 (k : Int) ∧ k ≤ os.length ∧ I wr T told ∧ Dsk.Grew T0 T w1 ∧ Keeps T0 w1 wr ∧ Sound l c but told ∧ told.length ≤ M * k ∧ Done l c but m (os.take k) told
def EachI (I : World → (Nat → Prop) → List ((Int × Int) × Int) → Prop) (w1 : World) (T0 : Nat → Prop) (l : List En) (c : Cm) (but : Int × Int) (m : Nat → Int × Int → Option Unit) (os : List (Option Nat)) (X r : Nat) (ob : Option Nat) (f : Int × Int → Option Unit) (_v : Value) (wr : World) : Prop := ∃ (T : Nat → Prop) (told : List ((Int × Int) × Int)) (left : Int × Int → Bool) (cnt : Nat),
  I wr T told ∧ Dsk.Grew T0 T w1 ∧ Keeps T0 w1 wr ∧ Sound l c but told ∧ Done l c but m os told ∧ Rg idK unE wr ob r f left cnt ∧ ¬ T r ∧ told.length + cnt ≤ X ∧ ∀ i, (f i).isSome → left i = false → tells l c but i = true → (i, (said l i).2) ∈ told
/-- What a group is. -/
def grpF (m : Nat → Int × Int → Option Unit) (ob : Option Nat) : Int × Int → Option Unit := match ob with
  | some g => m g
  | none => fun _ => none
theorem grp_mp {w : World} {G : Nat → Prop} {m : Nat → Int × Int → Option Unit} {M : Nat} {ob : Option Nat} (h : Grps w G m M) (ho : ob = none ∨ ∃ g, ob = some g ∧ G g) : ∃ N, N ≤ M ∧ MpO idK unE w ob N (grpF m ob) := by
  rcases ho with rfl | ⟨g, rfl, hg⟩
  · exact ⟨0, Nat.zero_le _, rfl, rfl⟩
  · exact h g hg
theorem blk7 {w : World} {g : Nat} {t : TypeId} {a b c d e f h : Value} (k : Blk w g t #[a, b, c, d, e, f, h]) : w.cell? ⟨g, 0, none⟩ = some a ∧ w.cell? ⟨g, 1, none⟩ = some b ∧ w.cell? ⟨g, 2, none⟩ = some c ∧ w.cell? ⟨g, 3, none⟩ = some d ∧ w.cell? ⟨g, 4, none⟩ = some e ∧ w.cell? ⟨g, 5, none⟩ = some f ∧ w.cell? ⟨g, 6, none⟩ = some h := ⟨k.cell 0, k.cell 1, k.cell 2, k.cell 3, k.cell 4, k.cell 5, k.cell 6⟩
theorem keeps_next {w w' : World} {r : Nat} (h : w.grownBy w' (some r)) : Keeps (fun k => k = r) w w' := Keeps.ofGrown h rfl
/-- Behind a step of the inner range, ahead of what is done with it. -/
def StepI (I : World → (Nat → Prop) → List ((Int × Int) × Int) → Prop) (w1 : World) (T0 : Nat → Prop) (l : List En) (c : Cm) (but : Int × Int) (m : Nat → Int × Int → Option Unit) (os : List (Option Nat)) (X r : Nat) (ob : Option Nat) (f : Int × Int → Option Unit) (x : Int × Int) (cnt2 : Nat) (T : Nat → Prop) (told : List ((Int × Int) × Int)) (u2 : World) : Prop := ∃ (left : Int × Int → Bool),
  I u2 T told ∧ Dsk.Grew T0 T w1 ∧ Keeps T0 w1 u2 ∧ Sound l c but told ∧ Done l c but m os told ∧ Rg idK unE u2 ob r f (fun y => left y && !decide (y = x)) cnt2 ∧ ¬ T r ∧ told.length + cnt2 < X ∧ ∀ i, (f i).isSome → left i = false → tells l c but i = true → (i, (said l i).2) ∈ told
section
variable {I : World → (Nat → Prop) → List ((Int × Int) × Int) → Prop} {w1 u2 u4 u5 : World} {T0 T : Nat → Prop} {l : List En} {c : Cm} {but x : Int × Int} {m : Nat → Int × Int → Option Unit} {os : List (Option Nat)} {X r cnt2 F : Nat} {ob : Option Nat} {f : Int × Int → Option Unit} {told : List ((Int × Int) × Int)} {cap : Value}
theorem step_no (hT : Teller F cap I) (h : StepI I w1 T0 l c but m os X r ob f x cnt2 T told u2) (hob : ∀ b, ob = some b → b < w1.heap.size ∧ ¬ T0 b) (hb : Below u2.heap.size u2 u4) (hno : tells l c but x = false) (v : Value) : EachI I w1 T0 l c but m os X r ob f v u4 ∧ meas u4 ob r = cnt2 := by
  obtain ⟨left, hI, hg, hkp, hso, hdn, hrg, hTr, hln, hall⟩ := h
  have hrg4 := hrg.keep (w' := u4) (fun b e => hb.block b (by have := (hob b e).1; have := hkp.size; omega)) (hb.block r hrg.lt)
  refine ⟨⟨T, told, _, cnt2, hT.keep _ _ _ _ _ hI (Keeps.ofBelow (S := fun _ => False) hb) (fun _ _ h => h), hg, hkp.trans (Keeps.ofBelow hb) (Grew.refl _ _), hso, hdn, hrg4, hTr, by omega, fun i h1 h2 h3 => ?_⟩, hrg4.meas⟩
  by_cases e : i = x
  · rw [e, hno] at h3
    cases h3
  · exact hall i h1 (by simpa [e] using h2) h3
theorem step_yes (h : StepI I w1 T0 l c but m os X r ob f x cnt2 T told u2) (hob : ∀ b, ob = some b → b < w1.heap.size ∧ ¬ T0 b) (hb : Below u2.heap.size u2 u4) (hyes : tells l c but x = true) {s : Int} (hs : (said l x).2 = s)
    (ht : ∃ T', I u5 T' (told ++ [(x, s)]) ∧ Dsk.Grew T T' u4 ∧ Keeps T u4 u5) (v : Value) : EachI I w1 T0 l c but m os X r ob f v u5 ∧ meas u5 ob r = cnt2 := by
  obtain ⟨left, hI, hg, hkp, hso, hdn, hrg, hTr, hln, hall⟩ := h
  obtain ⟨T', hI', hg', hk'⟩ := ht
  have hsz := hb.size
  have hrg5 := hrg.keep (w' := u5) (fun b e => by
    obtain ⟨h1, h2⟩ := hob b e
    have h3 := hkp.size
    rw [hk'.block b (by omega) (fun h => (hg b h).elim h2 fun h => by omega), hb.block b (by omega)]) (by
    have := hrg.lt
    rw [hk'.block r (by omega) hTr, hb.block r this])
  have hkp4 : Keeps T0 w1 u4 := hkp.trans (Keeps.ofBelow hb) (Grew.refl _ _)
  have hsz4 := hkp4.size
  refine ⟨⟨T', told ++ [(x, s)], _, cnt2, hI', fun j hj => ?_, hkp4.trans hk' hg, fun y hy => ?_, fun o ho g hg i h1 h2 => List.mem_append_left _ (hdn o ho g hg i h1 h2), hrg5, fun h => ?_, by simp; omega, fun i h1 h2 h3 => ?_⟩, hrg5.meas⟩
  · rcases hg' j hj with h | h
    · exact hg j h
    · right; omega
  · rcases List.mem_append.1 hy with hy | hy
    · exact hso y hy
    · rw [List.mem_singleton.1 hy]
      exact ⟨hyes, hs.symm⟩
  · rcases hg' r h with h | h
    · exact hTr h
    · have := hrg.lt
      omega
  · by_cases e : i = x
    · rw [e, hs]
      simp
    · exact List.mem_append_left _ (hall i h1 (by simpa [e] using h2) h3)
end
set_option maxRecDepth 20000 in
set_option maxHeartbeats 16000000 in
theorem each_any {S : Nat → Prop} {p M F : Nat} {l : List En} {cap : Value} {I : World → (Nat → Prop) → List ((Int × Int) × Int) → Prop} {T0 : Nat → Prop} (hT : Teller F cap I) (c : Cm) (but : Int × Int) (w : World) (hw : II w S p M l) (hM : M ≤ 10000) (hky : strK.ok c.ky) (hcl : intK.ok c.cl) (hI : I w T0 []) (hd : ∀ k, S k → ¬ T0 k) :
    Calls Try.prog 28 #[ptr p, cmV c, .agg #[.int .i64 but.1, .int .i64 but.2], .func (.func F) #[] #[cap]] w (fun e w' => e = .returned (.tuple #[]) ∧ ∃ T told, I w' T told ∧ Dsk.Grew T0 T w ∧ Keeps T0 w w' ∧ Told l c but told ∧ told.length ≤ 100100000) := by
  obtain ⟨g1, g2, g3, g4, G, m, fk, fc, ho⟩ := hw
  have hF := hT.enter
  obtain ⟨b1, b2⟩ := but
  obtain ⟨C, hC⟩ : ∃ C, c = C := ⟨_, rfl⟩
  obtain ⟨ckd, ccl, csq, cky, cvl, crv⟩ := c
  have hb1 := bel_alloc (bel_alloc (Below.refl w.heap.size w) (.cells #[.int .i64 ckd, .int .i64 ccl, .int .i64 csq, .string cky, .string cvl, .int .i64 crv] 24)) (.cells #[.int .i64 b1, .int .i64 b2] 26)
  have hbx := (Blk.new w 24 #[.int .i64 ckd, .int .i64 ccl, .int .i64 csq, .string cky, .string cvl, .int .i64 crv]).alloc (.cells #[.int .i64 b1, .int .i64 b2] 26)
  have hby := Blk.new (w.alloc (.cells #[.int .i64 ckd, .int .i64 ccl, .int .i64 csq, .string cky, .string cvl, .int .i64 crv] 24)) 26 #[.int .i64 b1, .int .i64 b2]
  rw [size_alloc] at hby
  obtain ⟨W, hW⟩ : ∃ v, (w.alloc (.cells #[.int .i64 ckd, .int .i64 ccl, .int .i64 csq, .string cky, .string cvl, .int .i64 crv] 24)).alloc (.cells #[.int .i64 b1, .int .i64 b2] 26) = v := ⟨_, rfl⟩
  have hsW : W.heap.size = w.heap.size + 2 := by rw [← hW]; simp
  rw [hW] at hb1 hbx hby
  have hoW := ho.below hb1
  have HNE := Lib.hid (near_any ⟨ckd, ccl, csq, cky, cvl, crv⟩ W hoW (by omega) hky hcl)
  have HB := Lib.hid hb1
  have HW := Lib.hid hW
  have HX := Lib.hid hbx
  have HY := Lib.hid hby
  have HO := Lib.hid hoW
  have HSW := Lib.hid hsW
  have HT := Lib.hid hT
  have HI0 := Lib.hid hI
  have HD := Lib.hid hd
  have HM := Lib.hid hM
  have HCE := Lib.hid hC
  have HLOW := Lib.hid (hT.low w T0 [] hI)
  have hxc := Cw.blk6 hbx
  unfold cmV at HNE ⊢
  unfold ptr at HNE ⊢
  obtain ⟨x0, x1, x2, x3, x4, x5⟩ := hxc
  clear hb1 hbx hby hW hsW hoW ho hT hI hd hM hky hcl
  go_enter Try.func28, Try.ntmps28
  go_upto_region 1 with fail
  rw [HW.out]
  go_wp2_with (go_at_call 41; (with_reducible refine HNE.out.mono ?_); rintro e w1 ⟨A, n, kk, os, rfl, hrd, hnew, hon, hnM, hosG, hcov, hbn⟩; have HRD := Lib.hid hrd; have HN := Lib.hid (And.intro hnew (And.intro hon (And.intro hnM (And.intro hosG hcov)))); have HBN := Lib.hid hbn; have hnk := And.intro hrd.le hrd.cap; unfold maxLen at hnk; clear hrd hnew hosG hcov hbn x0 x1 x2 x3 x4 x5)
  have HX1 := Lib.hid (HX.out.bel HBN.out)
  have HY1 := Lib.hid (HY.out.bel HBN.out)
  have HO1 := Lib.hid (HO.out.below HBN.out)
  have hTn : ∀ k, T0 k → ¬ (w.heap.size ≤ k) := fun k h => by have := HLOW.out k h; omega
  have HTN := Lib.hid hTn
  have HI1 := Lib.hid (HT.out.keep w w1 T0 (fun _ => False) [] HI0.out (Keeps.ofBelow (bel_trans HB.out HBN.out)) fun _ _ h => h)
  clear hTn HNE
  have hnn : n ≤ 10003 := by have := HM.out; omega
  subst hon
  go_loopw [16] (EachO I w1 T0 l C (b1, b2) m os M) (fun v _ => os.length - (intOf v).toNat)
  case atStart => exact ⟨0, T0, [], rfl, Nat.zero_le _, HI1.out, Grew.refl _ _, Keeps.refl _ _, (fun y hy => by cases hy), by simp, fun o ho => by cases ho⟩
  case round =>
    obtain ⟨k, T, told, rfl, hk, hI, hg, hkp, hso, hln, hdn⟩ := hrel
    by_cases hlt : k < os.length
    · have hrd := HRD.out
      have hkp0 : ∀ b, b < w1.heap.size → w.heap.size ≤ b → wr.heap[b]? = w1.heap[b]? := fun b h1 h2 => hkp.block b h1 fun h => HTN.out b h h2
      obtain ⟨ad, u, rfl, hblk, hu, hcell⟩ := hrd.at_ hlt
      have hadw := HN.out.1 ad rfl
      obtain ⟨ag, ao, asp⟩ := ad
      have hcell := (World.cell?_of_block (w := w1) (w' := wr) (a := (⟨ag, ao, asp⟩ : Addr).add k) (by rw [add_block]; exact hkp0 ag hblk (by have := HB.out.size; have : W.heap.size ≤ ag := hadw; omega))).trans hcell
      obtain ⟨ob, hob⟩ : ∃ ob, os[k]? = some ob := ⟨os[k], List.getElem?_eq_getElem hlt⟩
      have hue : u = .map ob := by
        unfold gs at hu
        rw [List.getElem?_map, hob] at hu
        exact (Option.some.inj hu).symm
      rw [hue] at hcell
      have hobG := HN.out.2.2.2.1 ob (List.mem_of_getElem? hob)
      have hOr := HO1.out.keep hkp HD.out
      obtain ⟨Nb, hNb, hmp⟩ := grp_mp hOr.grp hobG
      have HMP := Lib.hid hmp
      have HL := Lib.hid (And.intro hk (And.intro hI (And.intro hg (And.intro hkp (And.intro hso (And.intro hln (And.intro hdn (And.intro hob (And.intro hNb hobG)))))))))
      clear hk hI hg hkp hso hln hdn hob hobG hOr hNb hmp hu hue hrd hkp0 hblk hadw
      go_wp2_with (at_range; refine wpList_range_rg rfl (.tmp 20) 58 rfl 64 idK Try.underlying58 unE ob Nb (grpF m ob) rfl HMP.out ?_; intro w2 hrg hgr hsz)
      try go_frame
      obtain ⟨r, hr⟩ : ∃ r, wr.heap.size = r := ⟨_, rfl⟩
      rw [hr] at hrg hsz ⊢
      have HR := Lib.hid hr
      have hk2 : Keeps (fun _ => False) wr w2 := ⟨hgr.os, hgr.tape, hgr.output, hgr.size, fun j hj _ => hgr.block j hj (fun e => by cases e)⟩
      have HST := Lib.hid (And.intro hrg (And.intro hk2 hsz))
      clear hrg hgr hsz hr hk2
      go_loopw [10] (EachI I w1 T0 l C (b1, b2) m (os.take k) (M * k + M) r ob (grpF m ob)) (fun _ wr => meas wr ob r)
      case atStart =>
        obtain ⟨hk, hI, hg, hkp, hso, hln, hdn, hob, hNb, hobG⟩ := HL.out
        obtain ⟨hrg, hk2, hsz⟩ := HST.out
        exact ⟨T, told, _, Nb, HT.out.keep _ _ _ _ _ hI hk2 (fun _ _ h => h), hg, hkp.trans (Keeps.weak (T := T0) hk2 fun _ h => h.elim) (Grew.refl _ _), hso, hdn, hrg, (fun h => by have := HT.out.low _ _ _ hI r h; have := HR.out; omega), by omega, fun i h1 h2 => by rw [h1] at h2; cases h2⟩
      case round =>
        obtain ⟨T1, told1, left, cnt, hI, hg, hkp, hso, hdn, hrg, hTr, hln, hall⟩ := hrel
        have HRG := Lib.hid hrg
        have HL1 := Lib.hid (And.intro hI (And.intro hg (And.intro hkp (And.intro hso (And.intro hdn (And.intro hTr (And.intro hln hall)))))))
        clear hI hg hkp hso hdn hrg hTr hln hall
        go_wp2_with (at_next; refine wpList_next_rg rfl (.tmp 21) rfl idK unE (fun x => .agg #[.int .i64 x.1, .int .i64 x.2]) (fun _ => .agg #[]) rfl rfl unE_inj ob r (grpF m ob) left cnt rfl HRG.out ?_ ?_)
        · intro hl0
          go_wp2_with fail
          go_roundw
          case rel =>
            obtain ⟨hI, hg, hkp, hso, hdn, hTr, hln, hall⟩ := HL1.out
            obtain ⟨hk, _, _, _, _, _, _, hob, _, _⟩ := HL.out
            refine ⟨k + 1, T1, told1, by simp, hlt, hI, hg, hkp, hso, by rw [Nat.mul_succ]; omega, ?_⟩
            intro o ho g hg2 i h1 h2
            rw [List.take_add_one, hob] at ho
            rcases List.mem_append.1 ho with ho | ho
            · exact hdn o ho g hg2 i h1 h2
            · have ho : o = ob := by simpa using ho
              subst ho
              subst hg2
              exact hall i h1 (hl0 i.1 i.2) h2
          case measure =>
            simp [intOf]
            omega
        · intro i1 i2 cu u2 cnt2 hxok hlk hfx hrg2 hlt2 hg3 hs3 hen
          have hr1 : w1.heap.size ≤ r := by have h1 := HL.out.2.2.2.1.size; have h2 := HR.out; omega
          obtain ⟨hI, hg, hkp, hso, hdn, hTr, hln, hall⟩ := HL1.out
          have hk3 := keeps_next hg3
          have hkp2 : Keeps T0 w1 u2 := hkp.trans hk3 fun j hj => .inr (by have hj : j = r := hj; rw [hj]; exact hr1)
          have HSTEP : Hid (StepI I w1 T0 l C (b1, b2) m (os.take k) (M * k + M) r ob (grpF m ob) (i1, i2) cnt2 T1 told1 u2) := Lib.hid ⟨left, HT.out.keep _ _ _ _ _ hI hk3 (fun j h e => hTr (by have e : j = r := e; rw [← e]; exact h)), hg, hkp2, hso, hdn, hrg2, hTr, by omega, hall⟩
          have hlow2 : ∀ b, b < w1.heap.size → w.heap.size ≤ b → u2.heap[b]? = w1.heap[b]? := fun b h1 h2 => hkp2.block b h1 fun h => HTN.out b h h2
          have hO2 := HO1.out.keep hkp2 HD.out
          obtain ⟨y, hy⟩ : ∃ y, said l (i1, i2) = y := ⟨_, rfl⟩
          obtain ⟨U, hU⟩ : ∃ v, u2.alloc (.cells #[.int .i64 i1, .int .i64 i2] 26) = v := ⟨_, rfl⟩
          have hbU : Below u2.heap.size u2 U := by rw [← hU]; exact bel_alloc (Below.refl _ _) _
          have hiU : Blk U u2.heap.size 26 #[.int .i64 i1, .int .i64 i2] := by rw [← hU]; exact Blk.new _ _ _
          have hOU := hO2.below hbU
          have hlook : ∀ U', Below U.heap.size U U' → (Instr.lookup 54 (.map (some g1)) (.agg #[.int .i64 i1, .int .i64 i2]) false).run Try.prog U' = .ok (entE y) U' := fun U' hb => by
            have := (hOU.held.bel hb hOU.held.lt).look (x := (i1, i2)) Try.underlying54 zero_ent hxok
            rw [← hy]
            exact this
          have hxU : Blk U w.heap.size 24 #[.int .i64 ckd, .int .i64 ccl, .int .i64 csq, .string cky, .string cvl, .int .i64 crv] := Blk.bel (show Blk u2 w.heap.size 24 #[.int .i64 ckd, .int .i64 ccl, .int .i64 csq, .string cky, .string cvl, .int .i64 crv] from (hlow2 _ HX1.out.lt (Nat.le_refl _)).trans HX1.out) hbU
          have hyU : Blk U (w.heap.size + 1) 26 #[.int .i64 b1, .int .i64 b2] := Blk.bel (show Blk u2 (w.heap.size + 1) 26 #[.int .i64 b1, .int .i64 b2] from (hlow2 _ HY1.out.lt (Nat.le_succ _)).trans HY1.out) hbU
          obtain ⟨⟨kd, cl, sq, ky, vl, rv⟩, s⟩ := y
          have HLK : Hid (∀ U', Below U.heap.size U U' → (Instr.lookup 54 (.map (some g1)) (.agg #[.int .i64 i1, .int .i64 i2]) false).run Try.prog U' = .ok (.agg #[.int .i64 kd, .int .i64 cl, .int .i64 sq, .string ky, .string vl, .int .i64 rv, .int .i64 s]) U') := Lib.hid hlook
          have HPU := Lib.hid (show p < U.heap.size from hOU.box.lt)
          have HCU := Lib.hid hOU.cells.1
          have HIU := Lib.hid hiU
          have HUU := Lib.hid hU
          have HBU := Lib.hid hbU
          have HXU := Lib.hid hxU
          have HYU := Lib.hid hyU
          have HSD := Lib.hid hy
          have HS0 := Lib.hid (show Below U.heap.size U U.drew from Below.drew (Below.refl _ _))
          have heq := neq_id (i1, i2) (b1, b2)
          have HT2 : Hid (tells l C (b1, b2) (i1, i2) = (!decide ((i1, i2) = (b1, b2)) && meet (⟨kd, cl, sq, ky, vl, rv⟩ : Cm) C)) := Lib.hid (by unfold tells; rw [hy])
          have HME := Lib.hid (fun u => Cw.meet_any kd cl sq ky vl rv ckd ccl csq cky cvl crv u)
          rw [show (⟨ckd, ccl, csq, cky, cvl, crv⟩ : Cm) = C from HCE.out] at HME
          have hobb : ∀ b, ob = some b → b < w1.heap.size ∧ ¬ T0 b := fun b e => by
            obtain ⟨_, _, _, _, _, _, _, _, _, hobG⟩ := HL.out
            rcases hobG with h | ⟨g, h, hgG⟩
            · rw [h] at e; cases e
            · rw [h] at e
              injection e with e
              subst e
              exact ⟨HO1.out.grp.lt hgG, HD.out _ (HO1.out.mineG _ hgG)⟩
          have HOBB := Lib.hid hobb
          have HCN := Lib.hid hlt2
          have hbnd : told1.length ≤ 1000000000 := by
            have h1 : M * k ≤ 10000 * 10003 := Nat.mul_le_mul HM.out (by omega)
            have h2 := HM.out
            omega
          have HBND := Lib.hid hbnd
          obtain ⟨q, hq⟩ : ∃ q, decide ((i1, i2) = (b1, b2)) = q := ⟨_, rfl⟩
          obtain ⟨b, hb⟩ : ∃ b, meet (⟨kd, cl, sq, ky, vl, rv⟩ : Cm) C = b := ⟨_, rfl⟩
          rw [hq, hb] at HT2
          simp only at heq
          rw [show (decide ((i1, i2) = (b1, b2))) = q from hq] at heq
          rw [hb] at HME
          clear hr1 hI hg hkp hso hdn hTr hln hall hk3 hkp2 hlow2 hO2 hU hbU hiU hOU hlook hxU hyU hy hq hb hobb hbnd hxok hlk hfx hrg2 hlt2 hg3 hs3
          go_upto_region 7 with fail
          rw [HUU.out]
          refine wp_region_held_drew (S := (fun w' => Below U.heap.size U w')) (by kernel_rfl) (by first | (with_reducible exact HS0.out) | (with_reducible exact HS1.out) | (with_reducible exact HS2.out)) (fun hHeld => ?_)
          refine held_take (i := 0) (d := 26) (v := (.pointer (some ⟨p, 0, none⟩))) rfl rfl (by kernel_rfl) (by kernel_rfl) (by kernel_rfl) (fun _ _ _ h => h) (by kernel_rfl) (fun w hSw => by (obtain hS := hSw); go_simp) hHeld ?_
          try simp only [List.setIfInBounds_toArray, List.set_cons_zero, List.set_cons_succ]
          refine held_take (i := 1) (d := 27) (v := (.pointer (some ⟨p, 0, none⟩))) rfl rfl (by kernel_rfl) (by kernel_rfl) (by kernel_rfl) (fun _ _ _ h => h) (by kernel_rfl) (fun w hSw => by (obtain hS := hSw); go_simp) hHeld ?_
          try simp only [List.setIfInBounds_toArray, List.set_cons_zero, List.set_cons_succ]
          refine held_take (i := 2) (d := 28) (v := (.pointer (some ⟨p, 0, none⟩))) rfl rfl (by kernel_rfl) (by kernel_rfl) (by kernel_rfl) (fun _ _ _ h => h) (by kernel_rfl) (fun w hSw => by (obtain hS := hSw); go_simp) hHeld ?_
          try simp only [List.setIfInBounds_toArray, List.set_cons_zero, List.set_cons_succ]
          refine held_take (i := 3) (d := 29) (v := (.map (some g1))) rfl rfl (by kernel_rfl) (by kernel_rfl) (by kernel_rfl) (fun _ _ _ h => h) (by kernel_rfl) (fun w1 hSw => by (have h0 := (hSw.cell (p := ⟨p, 0, none⟩) HPU.out).trans HCU.out; go_simp)) hHeld ?_
          try simp only [List.setIfInBounds_toArray, List.set_cons_zero, List.set_cons_succ]
          refine held_take (i := 4) (d := 30) (v := (.agg #[.int .i64 i1, .int .i64 i2])) rfl rfl (by kernel_rfl) (by kernel_rfl) (by kernel_rfl) (fun _ _ _ h => h) (by kernel_rfl) (run_load_blk 26 (.tmp 10) rfl u2.heap.size 26 #[.int .i64 i1, .int .i64 i2] _ rfl (fun _ h => HIU.out.bel h) Try.underlying26 rfl (by kernel_rfl)) hHeld ?_
          try simp only [List.setIfInBounds_toArray, List.set_cons_zero, List.set_cons_succ]
          refine held_take (i := 5) (d := 31) (v := (.agg #[.int .i64 kd, .int .i64 cl, .int .i64 sq, .string ky, .string vl, .int .i64 rv, .int .i64 s])) rfl rfl (by kernel_rfl) (by kernel_rfl) (by kernel_rfl) (fun _ _ _ h => h) (by kernel_rfl) (fun w1 hSw => by (have h0 := HLK.out _ hSw; go_simp)) hHeld ?_
          try simp only [List.setIfInBounds_toArray, List.set_cons_zero, List.set_cons_succ]
          refine wpAnyH_ready (rs := [6]) (by kernel_rfl) (by simp) ?_
          refine AllReadyH.cons rfl (fun K hK => ?_) AllReadyH.nil
          go_simp
          have HS1 := Lib.hid (show Below U.heap.size U (U.alloc (.cells #[.int .i64 0, .int .i64 0, .int .i64 0, .string ⟨#[]⟩, .string ⟨#[]⟩, .int .i64 0, .int .i64 0] 63)).drew from Below.drew (bel_alloc (Below.refl _ _) _))
          refine hK.out _ _ (by first | (with_reducible exact HS0.out) | (with_reducible exact HS1.out) | (with_reducible exact HS2.out)) (fun hHeld => ?_)
          clear hK K
          refine wpAnyH_ready (rs := [7]) (by kernel_rfl) (by simp) ?_
          refine AllReadyH.cons rfl (fun K hK => ?_) AllReadyH.nil
          refine step_store_blk rfl 63 (.tmp 11) (.tmp 31) rfl U.heap.size 63 #[.int .i64 0, .int .i64 0, .int .i64 0, .string ⟨#[]⟩, .string ⟨#[]⟩, .int .i64 0, .int .i64 0] #[.int .i64 kd, .int .i64 cl, .int .i64 sq, .string ky, .string vl, .int .i64 rv, .int .i64 s] rfl rfl (show Blk (U.alloc (.cells #[.int .i64 0, .int .i64 0, .int .i64 0, .string ⟨#[]⟩, .string ⟨#[]⟩, .int .i64 0, .int .i64 0] 63)).drew U.heap.size 63 #[.int .i64 0, .int .i64 0, .int .i64 0, .string ⟨#[]⟩, .string ⟨#[]⟩, .int .i64 0, .int .i64 0] from Blk.new U 63 #[.int .i64 0, .int .i64 0, .int .i64 0, .string ⟨#[]⟩, .string ⟨#[]⟩, .int .i64 0, .int .i64 0]) (by kernel_rfl) rfl (by kernel_rfl) ?_
          intro u3 hblk hg3
          show K (Act.put _ none _) _
          try simp only [Act.put]
          have hb3 := bel_grown HS1.out hg3 (fun k e => by injection e with e; subst e; exact Nat.le_refl _)
          have HS2 := Lib.hid hb3
          have HEB := Lib.hid hblk
          clear hblk hg3 hb3
          refine hK.out _ _ (by first | (with_reducible exact HS0.out) | (with_reducible exact HS1.out) | (with_reducible exact HS2.out)) (fun hHeld => ?_)
          clear hK K
          refine wpAnyH_done (by kernel_rfl) ?_ _
          go_upto_region 8 with fail
          have hI3 := HIU.out.bel HS2.out
          have hX3 := HXU.out.bel HS2.out
          have hY3 := HYU.out.bel HS2.out
          obtain ⟨x0, x1, x2, x3, x4, x5⟩ := Cw.blk6 hX3
          have e0 : u3.cell? ⟨u2.heap.size, 0, none⟩ = some (.int .i64 i1) := hI3.cell 0
          have e1 : u3.cell? ⟨u2.heap.size, 1, none⟩ = some (.int .i64 i2) := hI3.cell 1
          have y0 : u3.cell? ⟨w.heap.size + 1, 0, none⟩ = some (.int .i64 b1) := hY3.cell 0
          have y1 : u3.cell? ⟨w.heap.size + 1, 1, none⟩ = some (.int .i64 b2) := hY3.cell 1
          obtain ⟨d0, d1, d2, d3, d4, d5, d6⟩ := blk7 HEB.out
          have HBE := Lib.hid (bel_trans HBU.out HS2.out)
          have HI3 := Lib.hid hI3
          clear hI3 hX3 hY3
          cases q with
          | true =>
            have hst := fun v => step_no HT.out HSTEP.out HOBB.out HBE.out (HT2.out.trans (by simp)) v
            have HEND := Lib.hid hst
            clear hst
            go_wp2_with fail
            go_roundw
            case rel => exact (HEND.out _).1
            case measure =>
              rw [(HEND.out (.int .i64 0)).2, HRG.out.meas]
              exact HCN.out
          | false =>
            cases b with
            | false =>
              go_wp2_with (go_at_call 20; (with_reducible refine (HME.out _).mono ?_); rintro e u4 ⟨rfl, hb4⟩; have HB4 := Lib.hid hb4; clear hb4 x0 x1 x2 x3 x4 x5 d0 d1 d2 d3 d4 d5 d6 e0 e1 y0 y1)
              have hst := fun v => step_no HT.out HSTEP.out HOBB.out (bel_trans HBE.out HB4.out) (HT2.out.trans (by simp)) v
              go_roundw
              case rel => exact (hst _).1
              case measure =>
                rw [(hst (.int .i64 0)).2, HRG.out.meas]
                exact HCN.out
            | true =>
              go_upto_region 9 with (go_at_call 20; (with_reducible refine (HME.out _).mono ?_); rintro e u4 ⟨rfl, hb4⟩; have HB4 := Lib.hid hb4; clear hb4 x0 x1 x2 x3 x4 x5 d0 d1 d2 d3 d4 d5 d6 e0 e1 y0 y1)
              have hI4 := HI3.out.bel HB4.out
              have hE4 := HEB.out.bel HB4.out
              have e0 : u4.cell? ⟨u2.heap.size, 0, none⟩ = some (.int .i64 i1) := hI4.cell 0
              have e1 : u4.cell? ⟨u2.heap.size, 1, none⟩ = some (.int .i64 i2) := hI4.cell 1
              have d6 := (blk7 hE4).2.2.2.2.2.2
              have HTE := Lib.hid (by
                obtain ⟨left', hIs, _⟩ := HSTEP.out
                exact HT.out.tell u4 T1 told1 (i1, i2) s (HT.out.keep _ _ _ _ _ hIs (Keeps.ofBelow (S := fun _ => False) (bel_trans HBE.out HB4.out)) (fun _ _ h => h)) HBND.out)
              clear hI4 hE4
              go_wp2_with fail
              (with_reducible refine HTE.out.mono ?_)
              rintro e u5 ⟨rfl, ht5⟩
              have hst := fun v => step_yes HSTEP.out HOBB.out (bel_trans HBE.out HB4.out) (HT2.out.trans (by simp)) (congrArg Prod.snd HSD.out) ht5 v
              have HEND := Lib.hid hst
              clear hst ht5
              go_wp2_with fail
              go_roundw
              case rel => exact (HEND.out _).1
              case measure =>
                rw [(HEND.out (.int .i64 0)).2, HRG.out.meas]
                exact HCN.out
    · have hkn : k = os.length := by omega
      have hlen : told.length ≤ 100100000 := by
        have h1 : M * k ≤ 10000 * 10003 := Nat.mul_le_mul HM.out (by omega)
        omega
      have HL := Lib.hid (And.intro hI (And.intro hg (And.intro hkp (And.intro hso (And.intro hdn hlen)))))
      clear hI hg hkp hso hdn hlen
      go_wp2_with fail
      go_end0
      obtain ⟨hI, hg, hkp, hso, hdn, hlen⟩ := HL.out
      rw [hkn, List.take_length] at hdn
      refine ⟨rfl, T, told, hI, fun j hj => ?_, (Keeps.ofBelow (bel_trans HB.out HBN.out)).trans hkp (Grew.refl _ _), ?_, hlen⟩
      · rcases hg j hj with h | h
        · exact .inl h
        · right
          have := (bel_trans HB.out HBN.out).size
          omega
      · rw [HCE.out] at HN
        exact told_all HO.out.uq hso hdn HN.out.2.2.2.2
end Go.Proofs.Ytlcggldcofncgaa.Ix
