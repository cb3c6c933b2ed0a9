/-
  Texts of earlier layers, as one.
-/
import Derived.Test.YtldlcddmbgcfdaaWheelOnceWalk
import Derived.Test.YtldlcddmbgcfdaaWhlOpen
import Derived.Deep.CutRange
import Derived.Deep.CutBlock
/- The law of whatever is done with a wheel. -/
namespace Go.Proofs.Ytldlcddmbgcfdaa.Wh
open Go.RowKit Mem Dsk

theorem place_or {x : List Tm} (u : Uq x) (i : Int × Int) : (∃ (j : Nat) (t : Tm), placeR x i = (j : Int) ∧ x[j]? = some t ∧ t.i = i ∧ atR x i = some t.a) ∨ (placeR x i = -1 ∧ atR x i = none) := by
  unfold placeR
  cases e : posR x i with
  | none => exact .inr ⟨rfl, atR_out (posR_none e)⟩
  | some k =>
    obtain ⟨t, h1, h2⟩ := posR_some e
    exact .inl ⟨k, t, rfl, h1, h2, atR_in u (List.mem_of_getElem? h1) h2⟩
theorem four {w : World} {g o : Nat} {y : Ac} (h : w.rangeAt g o (encA y)) : w.cell? ⟨g, o, none⟩ = some (.int .i64 y.d) ∧ w.cell? ⟨g, o + 1, none⟩ = some (.int .i64 y.i.1) ∧ w.cell? ⟨g, o + 2, none⟩ = some (.int .i64 y.i.2) ∧ w.cell? ⟨g, o + 3, none⟩ = some (.int .i64 y.a) := ⟨h 0 _ rfl, h 1 _ rfl, h 2 _ rfl, h 3 _ rfl⟩
theorem blk4 {w : World} {g : Nat} {t : TypeId} {a b c d : Value} (h : Blk w g t #[a, b, c, d]) : w.cell? ⟨g, 0, none⟩ = some a ∧ w.cell? ⟨g, 1, none⟩ = some b ∧ w.cell? ⟨g, 2, none⟩ = some c ∧ w.cell? ⟨g, 3, none⟩ = some d := ⟨h.cell 0, h.cell 1, h.cell 2, h.cell 3⟩
theorem run_cut_s {P : Program} (t : TypeId) (s : Nat) (ht : P.underlying t = some (.slice (P.elem t))) (hsz : ∀ w : World, (sizeOf (P.elem t)).run P w = .ok s w) (A : Option Addr) (n c k : Nat) (hk : k ≤ n) (w : World) :
    (Instr.slice t (.slice A n c) (some (.int .i64 (k : Int))) none none).run P w = .ok (.slice (cutS s A c k) (n - k) (c - k)) w := by
  rw [run_slice_l w t A n c ht .i64 (k : Int) (by omega) (by omega), hsz]
  simp [Result.andThen, sliced, cutS]
/-- What lasts: the acts, and the document's list. -/
abbrev FP (w : World) (A : Option Addr) (n c : Nat) (l : List Ac) (A4 : Option Addr) (n4 c4 : Nat) (x : List Tm) (v : World) (S : Nat → Prop) : Prop := FNew w v S ∧ (FRw LA A n c l v S ∧ FRw LT A4 n4 c4 x v S)
theorem frame_fp (w : World) (A : Option Addr) (n c : Nat) (l : List Ac) (A4 : Option Addr) (n4 c4 : Nat) (x : List Tm) : Dsk.Frame (FP w A n c l A4 n4 c4 x) := (frame_new w).and ((frame_rw LA A n c l).and (frame_rw LT A4 n4 c4 x))
def PlRel (w : World) (p : Nat) (A : Option Addr) (n c : Nat) (l : List Ac) (v4 v5 : Value) (wr : World) : Prop := ∃ (k : Nat) (A4 : Option Addr) (n4 c4 : Nat) (x : List Tm), v4 = .slice A4 n4 c4 ∧ v5 = .int .i64 (k : Int) ∧ k ≤ n ∧ x.length ≤ k ∧ Mine (FP w A n c l A4 n4 c4 x) wr p x
def PlCut (w : World) (p : Nat) (A : Option Addr) (n c : Nat) (l : List Ac) (k : Nat) (v4 : Value) (wr : World) : Prop := ∃ (A4 : Option Addr) (n4 c4 : Nat) (x : List Tm), v4 = .slice A4 n4 c4 ∧ x.length ≤ k + 1 ∧ Mine (FP w A n c l A4 n4 c4 x) wr p x
def PjRel (F : World → (Nat → Prop) → Prop) (p : Nat) (y : List Tm) (m : Nat) (v12 : Value) (wr : World) : Prop := ∃ j : Nat, v12 = .int .i64 (j : Int) ∧ j ≤ m ∧ Mine F wr p y
theorem due_le' {x : List Tm} {now : Int} : dueR x now ≤ x.length := by
  induction x with
  | nil => exact Nat.le_refl _
  | cons r x ih =>
    rw [dueR_cons]
    split
    · simp; exact ih
    · simp
/-- A new list of the document's takes the old one's place. -/
theorem Mine.list {w u u2 : World} {p : Nat} {A A4 V : Option Addr} {n c n4 c4 c' : Nat} {l : List Ac} {x y z : List Tm} {G : World → (Nat → Prop) → Prop} (h : Mine (fun v S => FP w A n c l A4 n4 c4 x v S ∧ G v S) u p z) (hrow : u2.ownsRow u.heap.size 35 LT.s (.slice V y.length c') y.length (LT.flat y)) (hb : Below u.heap.size u u2) :
    Mine (FP w A n c l V y.length c' y) u2 p z := by
  obtain ⟨S, h1, ⟨h2, h3, h4⟩, _⟩ := h
  have hlow := wi_low h1
  have hk := Keeps.ofBelow (S := S) hb
  refine ⟨S, wi_below h1 hb, (frame_new w).go h2 hk (Grew.refl _ _), (frame_rw LA A n c l).go h3 hk (Grew.refl _ _), Rw.own hrow, fun h0 ad e hs => ?_⟩
  have h5 := hrow.lt ad.block (by rw [e]; rfl)
  have h6 := hlow _ hs
  omega
set_option maxRecDepth 20000 in
set_option maxHeartbeats 32000000 in
theorem wheelplays_true (A : Option Addr) (n c : Nat) (l : List Ac) (w : World) (hr : Rw LA w A n c l) (hwf : ∀ y ∈ l, Wf y.i) :
    Calls Try.prog 3 #[.slice A n c] w (Tells true w) := by
  have hln := hr.len
  have HAW := Lib.hid (fun W => wheel_awake W)
  by_cases hbig : 100 < n
  · have hb : (100 : Int) < (n : Int) := by omega
    clear hwf hr
    go_enter Try.func3, Try.ntmps3
    go_wp2_with (go_at_call 6; (with_reducible refine (HAW.out _).mono ?_); rintro e w10 ⟨rfl, hb10⟩)
    go_ret
    exact ⟨rfl, hb10⟩
  · have hb : ¬ (100 : Int) < (n : Int) := by omega
    have hn100 : n ≤ 100 := by omega
    have HN := Lib.hid (new_any w)
    have HR := Lib.hid (And.intro hr (And.intro hwf hln))
    clear hr hwf hbig hln
    go_enter Try.func3, Try.ntmps3
    go_wp2_with fail
    refine HN.out.mono ?_
    rintro e w1 ⟨p, S, rfl, hI, hl, hbe⟩
    have hm0 : Mine (FP w A n c l none 0 0 []) w1 p [] := by
      refine ⟨S, hI, ⟨hl, hbe⟩, ⟨HR.out.1.below hbe, fun h0 ad e hs => ?_⟩, Rw.nil_ _, fun h0 => absurd h0 (by omega)⟩
      obtain ⟨g, o, e', hlt, _⟩ := HR.out.1.spot h0
      cases e.symm.trans e'
      have h1 : w.heap.size ≤ g := hl _ hs
      omega
    have HM0 := Lib.hid hm0
    unfold ptr
    clear hI hl hbe hm0 HN
    go_wp2_with fail
    go_loopw [4, 5] (PlRel w p A n c l) (fun _ v _ => n - (intOf v).toNat)
    case atStart => exact ⟨0, none, 0, 0, [], rfl, rfl, Nat.zero_le _, Nat.le_refl _, HM0.out⟩
    case round =>
      obtain ⟨k, A4, n4, c4, x, rfl, rfl, hk, hxl, hm⟩ := hrel
      clear HM0
      by_cases hlt : k < n
      · have hFr := frame_fp w A n c l A4 n4 c4 x
        have huq := hm.uq
        have hml := hm
        obtain ⟨S1, hI1, hN1, hR1, hX1⟩ := hm
        obtain ⟨g, o, ⟨d, ⟨i1, i2⟩, a⟩, rfl, hg, hy, hc⟩ := hR1.1.at_ hlt
        have hwi := HR.out.2.1 _ (List.mem_of_getElem? hy)
        obtain ⟨c3, c4', c5, c6⟩ := four hc
        rw [show o + k * LA.s = o + k * 4 from rfl] at c3 c4' c5 c6
        simp only at c3 c4' c5 c6 hwi
        have hm6 := hml.box hFr #[.int .i64 d, .int .i64 i1, .int .i64 i2, .int .i64 a] 30
        have hFr6 := hFr.and (frame_blk wr.heap.size 30 #[.int .i64 d, .int .i64 i1, .int .i64 i2, .int .i64 a])
        obtain ⟨W, hW⟩ : ∃ v, wr.alloc (.cells #[.int .i64 d, .int .i64 i1, .int .i64 i2, .int .i64 a] 30) = v := ⟨_, rfl⟩
        obtain ⟨b6, hb6⟩ : ∃ v, wr.heap.size = v := ⟨_, rfl⟩
        rw [hW, hb6] at hm6
        rw [hb6] at hFr6
        have hnx : x.length = n4 := hX1.1.len
        have hx4 : n4 ≤ 100 := by omega
        obtain ⟨S6, hI6, ⟨hN6, hR6, hX6⟩, hB6⟩ := hm6
        obtain ⟨e0, e1, e2, e3⟩ := blk4 hB6.1
        have hfind := find_any (i1, i2) W hX6.1 (by omega)
        have HFIND := Lib.hid hfind
        have HM6 := Lib.hid (show Mine (fun v S => FP w (some ⟨g, o, none⟩) n c l A4 n4 c4 x v S ∧ FBlk b6 30 #[.int .i64 d, .int .i64 i1, .int .i64 i2, .int .i64 a] v S) W p x from ⟨S6, hI6, ⟨hN6, hR6, hX6⟩, hB6⟩)
        have HW := Lib.hid (And.intro hW hb6)
        have HX := Lib.hid (And.intro huq.1 (And.intro hnx (And.intro hxl (And.intro hwi hlt))))
        have hhk := place_or huq.1 (i1, i2)
        obtain ⟨pv, hpv⟩ : ∃ v, placeR x (i1, i2) = v := ⟨_, rfl⟩
        rw [hpv] at HFIND hhk
        clear hml hI1 hN1 hR1 hX1 hg hy hc hI6 hN6 hR6 hX6 hB6 hfind huq hW hb6 hxl hwi hpv
        go_upto_region 9 with fail
        rw [HW.out.1, HW.out.2]
        clear c3 c4' c5 c6
        go_wp2_with fail
        refine HFIND.out.mono ?_
        rintro e u1 ⟨rfl, hbu1⟩
        have hm7 := HM6.out.bel hFr6 hbu1
        have hat := at_mine hFr6 (i1, i2) hm7 HX.out.2.2.2.1 (by have := HX.out.2.1; omega)
        obtain ⟨S7, hI7, hF7, hB7⟩ := hm7
        obtain ⟨e0, e1, e2, e3⟩ := blk4 hB7.1
        have HAT := Lib.hid hat
        unfold ptr at HAT
        obtain ⟨av, hav⟩ : ∃ v, (atR x (i1, i2)).getD 0 = v := ⟨_, rfl⟩
        obtain ⟨is, his⟩ : ∃ v, (atR x (i1, i2)).isSome = v := ⟨_, rfl⟩
        rw [hav, his] at HAT
        clear hbu1 hat hI7 hF7 hB7 HFIND
        go_wp2_with fail
        refine HAT.out.mono ?_
        rintro e U ⟨rfl, hm8, _⟩
        have hpl : decide (0 ≤ pv) = is := by
          rcases hhk with ⟨j, t, h1, h2, h3, h4⟩ | ⟨h1, h2⟩
          · rw [← his, h4, h1]
            simp
          · rw [← his, h2, h1]
            rfl
        obtain ⟨S8, hI8, hF8, hB8⟩ := hm8
        have hrow8 := hF8.2.2.1
        obtain ⟨e0, e1, e2, e3⟩ := blk4 hB8.1
        have HM8 := Lib.hid (show Mine (fun v S => FP w (some ⟨g, o, none⟩) n c l A4 n4 c4 x v S ∧ FBlk b6 30 #[.int .i64 d, .int .i64 i1, .int .i64 i2, .int .i64 a] v S) U p x from ⟨S8, hI8, hF8, hB8⟩)
        have HPL := Lib.hid (And.intro hpl (And.intro hav his))
        have HHK := Lib.hid hhk
        have HROW8 := Lib.hid hrow8
        clear hI8 hF8 hB8 hhk hpl hav his hrow8 HAT HM6
        go_upto_region 11 with fail
        go_cut [64] from 41 to 64 (fun v wx => v = .bool false ∧ wx = U)
        case first =>
          rcases HHK.out with ⟨j, t, h1, h2, h3, h4⟩ | ⟨h1, h2⟩
          · have hj : j < n4 := by have := (List.getElem?_eq_some_iff.1 h2).1; have := HX.out.2.1; omega
            obtain ⟨g2, o2, t', rfl, _, ht', hc2⟩ := HROW8.out.at_ hj
            have htt : t' = t := by rw [h2] at ht'; injection ht' with e; exact e.symm
            subst htt
            have q5 := (three hc2).2.2
            rw [show o2 + j * LT.s = o2 + j * 3 from rfl] at q5
            have hh := HPL.out
            rw [h4] at hh
            obtain ⟨_, ha1, ha2⟩ := hh
            simp only [Option.getD_some, Option.isSome_some] at ha1 ha2
            rw [ha1] at q5
            subst ha2
            subst h1
            clear h2 h3 h4 hc2 ht' ha1
            go_wp2_with fail
            go_meet
            case rel => exact ⟨rfl, rfl⟩
          · have hh := HPL.out
            rw [h2] at hh
            obtain ⟨_, ha1, ha2⟩ := hh
            simp only [Option.getD_none, Option.isSome_none] at ha1 ha2
            subst ha1
            subst ha2
            subst h1
            clear h2
            go_wp2_with fail
            go_meet
            case rel => exact ⟨rfl, rfl⟩
        case rest =>
          obtain ⟨rfl, hwc⟩ := hcut
          replace hwc := hwc.symm
          subst hwc
          go_upto_block 2 with fail
          go_cut [4, 10, 11, 12] from 20 to 126 (fun v _ _ _ wx => PlCut w p (some ⟨g, o, none⟩) n c l k v wx)
          case first =>
            by_cases h0 : d = 0
            · subst h0
              have hs := set_mine hFr6 (i1, i2) a HM8.out HX.out.2.2.2.1 (by have := HX.out.2.1; omega)
              have HS := Lib.hid hs
              unfold ptr at HS
              clear hs
              go_wp2_with fail
              refine HS.out.mono ?_
              rintro e u2 ⟨rfl, hm9⟩
              have HM9 := Lib.hid hm9
              obtain ⟨S9, hI9, hF9, hB9⟩ := hm9
              obtain ⟨e0, e1, e2, e3⟩ := blk4 hB9.1
              have href := refset_any ⟨(i1, i2), a⟩ u2 hF9.2.2.1 (by omega)
              have HREF := Lib.hid href
              clear hI9 hF9 hB9 href HS
              go_wp2_with fail
              refine HREF.out.mono ?_
              rintro e u3 ⟨V, c', rfl, hrow, hb3⟩
              have HCUT := Lib.hid (show PlCut w p (some ⟨g, o, none⟩) n c l k (.slice V (setR x ⟨(i1, i2), a⟩).length c') u3 from ⟨V, _, c', _, rfl, by have := set_len x ⟨(i1, i2), a⟩; have := HX.out.2.2.1; omega, HM9.out.list hrow hb3⟩)
              clear hrow hb3 HREF
              go_wp2_with fail
              go_meet
              case rel => exact HCUT.out
            · by_cases h1 : d = 1
              · subst h1
                have hs := cancel_mine hFr6 (i1, i2) HM8.out HX.out.2.2.2.1 (by have := HX.out.2.1; omega)
                rw [HPL.out.2.2] at hs
                have HS := Lib.hid hs
                unfold ptr at HS
                clear hs
                go_wp2_with fail
                refine HS.out.mono ?_
                rintro e u2 ⟨rfl, hm9⟩
                have HM9 := Lib.hid hm9
                obtain ⟨S9, hI9, hF9, hB9⟩ := hm9
                obtain ⟨e0, e1, e2, e3⟩ := blk4 hB9.1
                have href := refout_any (i1, i2) u2 hF9.2.2.1 (by omega)
                have HREF := Lib.hid href
                have hpl := HPL.out.1
                clear hI9 hF9 hB9 href HS
                cases is with
                | true =>
                  have hp0 : 0 ≤ pv := of_decide_eq_true hpl
                  go_wp2_with fail
                  refine HREF.out.mono ?_
                  rintro e u3 ⟨V, c', rfl, hrow, hb3⟩
                  have HCUT := Lib.hid (show PlCut w p (some ⟨g, o, none⟩) n c l k (.slice V (outR x (i1, i2)).length c') u3 from ⟨V, _, c', _, rfl, by have : (outR x (i1, i2)).length ≤ x.length := List.length_filter_le _ _; have := HX.out.2.2.1; omega, HM9.out.list hrow hb3⟩)
                  clear hrow hb3 HREF
                  go_wp2_with fail
                  go_meet
                  case rel => exact HCUT.out
                | false =>
                  have hp0 : ¬ 0 ≤ pv := of_decide_eq_false hpl
                  go_wp2_with fail
                  refine HREF.out.mono ?_
                  rintro e u3 ⟨V, c', rfl, hrow, hb3⟩
                  have HCUT := Lib.hid (show PlCut w p (some ⟨g, o, none⟩) n c l k (.slice V (outR x (i1, i2)).length c') u3 from ⟨V, _, c', _, rfl, by have : (outR x (i1, i2)).length ≤ x.length := List.length_filter_le _ _; have := HX.out.2.2.1; omega, HM9.out.list hrow hb3⟩)
                  clear hrow hb3 HREF
                  go_wp2_with fail
                  go_meet
                  case rel => exact HCUT.out
              · by_cases h2 : d = 2
                · subst h2
                  have hs := due_mine hFr6 a HM8.out (by have := HX.out.2.1; omega)
                  obtain ⟨m, hmm⟩ : ∃ m, dueR x a = m := ⟨_, rfl⟩
                  have hml : m ≤ x.length := by rw [← hmm]; exact due_le'
                  rw [hmm] at hs
                  obtain ⟨B, hB⟩ : ∃ B, U.heap.size = B := ⟨_, rfl⟩
                  rw [hB] at hs
                  have HS := Lib.hid hs
                  have HMM := Lib.hid (And.intro hmm hml)
                  unfold ptr at HS
                  clear hs hmm hml hB
                  go_wp2_with fail
                  refine HS.out.mono ?_
                  rintro e u2 ⟨V, c', rfl, hm9⟩
                  have HM9 := Lib.hid hm9
                  obtain ⟨S9, hI9, ⟨hF9, hB9⟩, hO9⟩ := hm9
                  obtain ⟨e0, e1, e2, e3⟩ := blk4 hB9.1
                  have href := refdue_any a u2 hF9.2.2.1 (by omega)
                  rw [HMM.out.1] at href
                  have HREF := Lib.hid href
                  clear hI9 hF9 hB9 hO9 href HS
                  go_wp2_with fail
                  refine HREF.out.mono ?_
                  rintro e u3 ⟨rfl, rfl⟩
                  clear e0 e1 e2 e3 HREF
                  go_wp2_with fail
                  go_loopw [12] (PjRel (fun v S => (FP w (some ⟨g, o, none⟩) n c l A4 n4 c4 x v S ∧ FBlk b6 30 #[.int .i64 2, .int .i64 i1, .int .i64 i2, .int .i64 a] v S) ∧ FOwn B 28 LI.s V m c' (LI.flat (idsOf (x.take m))) v S) p (x.drop m) m) (fun v _ => m - (intOf v).toNat)
                  case atStart => exact ⟨0, rfl, Nat.zero_le _, HM9.out⟩
                  case round =>
                    obtain ⟨j, rfl, hj, hm10⟩ := hrel
                    have hFrj := hFr6.and (frame_own B 28 LI.s V m c' (LI.flat (idsOf (x.take m))))
                    by_cases hjm : j < m
                    · have HM10 := Lib.hid hm10
                      obtain ⟨S10, hI10, ⟨hF10, hB10⟩, hO10⟩ := hm10
                      have hjx : j < n4 := by have := HMM.out.2; have := HX.out.2.1; omega
                      obtain ⟨g2, o2, t, rfl, _, ht, hc2⟩ := hF10.2.2.1.at_ hjx
                      obtain ⟨g3, o3, y, rfl, _, hy, hc3⟩ := (Rw.own hO10.1).at_ hjm
                      have hyy : y = t.i := by
                        unfold idsOf at hy
                        rw [List.getElem?_map, List.getElem?_take, if_pos hjm, ht] at hy
                        simpa using hy.symm
                      subst hyy
                      obtain ⟨q3, q4, _⟩ := three hc2
                      rw [show o2 + j * LT.s = o2 + j * 3 from rfl] at q3 q4
                      have q5 := hc3 0 _ rfl
                      have q6 := hc3 1 _ rfl
                      rw [show o3 + j * LI.s = o3 + j * 2 from rfl] at q5 q6
                      have heq := neq_id t.i t.i
                      rw [decide_eq_true (rfl : t.i = t.i), Bool.not_true] at heq
                      obtain ⟨t1, ht1⟩ : ∃ v, t.i.1 = v := ⟨_, rfl⟩
                      obtain ⟨t2, ht2⟩ : ∃ v, t.i.2 = v := ⟨_, rfl⟩
                      rw [ht1, ht2] at heq
                      rw [ht1] at q3 q5
                      rw [ht2] at q4 q6
                      simp only [Nat.add_zero] at q5 q6
                      clear hI10 hF10 hB10 hO10 ht hc2 hy hc3 ht1 ht2
                      go_wp2_with fail
                      go_quiet (fail)
                      go_wp2_with fail
                      go_roundw
                      case rel => exact ⟨j + 1, by simp, by omega, HM10.out.bel hFrj (below_drewN (Below.refl _ _) _)⟩
                      case measure =>
                        simp [intOf]
                        omega
                    · have hjm' : j = m := by omega
                      subst hjm'
                      have hm4 : j ≤ n4 := by have := HMM.out.2; have := HX.out.2.1; omega
                      have hcut := run_cut_s (P := Try.prog) 26 3 Try.underlying26 (fun w => by kernel_rfl) A4 n4 c4 j hm4
                      have hcutm : PlCut w p (some ⟨g, o, none⟩) n c l k (.slice (cutS 3 A4 c4 j) (n4 - j) (c4 - j)) wr := by
                        refine ⟨_, _, _, x.drop j, rfl, by rw [List.length_drop]; have := HX.out.2.2.1; omega, hm10.more fun S' hI' hF' => ?_⟩
                        obtain ⟨⟨⟨hN', hR', hX', hXo⟩, _⟩, _⟩ := hF'
                        refine ⟨hN', hR', hX'.cut hm4, fun h0 ad e hs => ?_⟩
                        unfold cutS at e
                        split at e
                        · exact hXo (by omega) ad e hs
                        · obtain ⟨ad0, e0, rfl⟩ := Option.map_eq_some_iff.1 e
                          rw [add_block] at hs
                          exact hXo (by omega) ad0 e0 hs
                      have HCUT := Lib.hid hcutm
                      clear hm10 hcutm
                      go_wp2_with fail
                      go_meet
                      case rel => exact HCUT.out
                · have HCUT := Lib.hid (show PlCut w p (some ⟨g, o, none⟩) n c l k (.slice A4 n4 c4) U from ⟨A4, n4, c4, x, rfl, by have := HX.out.2.2.1; omega, HM8.out.more fun _ _ h => h.1⟩)
                  go_wp2_with fail
                  go_meet
                  case rel => exact HCUT.out
          case rest =>
            obtain ⟨A5, n5, c5, x5, rfl, hx5, hm10⟩ := hcut
            have hnx := next_mine hm10 (by omega)
            have hlen := len_mine hm10
            have HM10 := Lib.hid hm10
            obtain ⟨S10, hI10, hN10, hR10, hX10⟩ := hm10
            have hxn : x5.length = n5 := hX10.1.len
            rw [hxn] at hlen
            have HLEN := Lib.hid hlen
            have HNX := Lib.hid hnx
            unfold ptr at HLEN HNX
            clear hlen hnx
            cases x5 with
            | nil =>
              have hn5 : n5 = 0 := by rw [← hxn]; rfl
              subst hn5
              simp only [List.head?_nil, Option.map_none, Option.getD_none, Option.isSome_none] at HNX
              clear hI10 hN10 hR10 hX10 hxn
              go_wp2_with (first
                | (go_at_call 16; (with_reducible refine HNX.out.mono ?_); rintro e w8 ⟨rfl, rfl⟩)
                | (go_at_call 17; (with_reducible refine HLEN.out.mono ?_); rintro e w9 ⟨rfl, rfl⟩))
              go_roundw
              case rel => exact ⟨k + 1, A5, 0, c5, [], rfl, by simp, by omega, Nat.zero_le _, HM10.out⟩
              case measure =>
                simp [intOf]
                omega
            | cons r y =>
              have hn5 : 0 < n5 := by rw [← hxn]; simp
              obtain ⟨g2, o2, t, rfl, _, ht, hc2⟩ := hX10.1.at_ hn5
              have htr : t = r := by simpa using ht.symm
              subst htr
              have q5 := (three hc2).2.2
              rw [show o2 + 0 * LT.s = o2 by omega] at q5
              simp only [List.head?_cons, Option.map_some, Option.getD_some, Option.isSome_some] at HNX
              obtain ⟨ta, hta⟩ : ∃ v, t.a = v := ⟨_, rfl⟩
              rw [hta] at q5 HNX
              clear hI10 hN10 hR10 hX10 hxn ht hc2 hta
              have hn5' : (0 : Int) < (n5 : Int) := by omega
              go_wp2_with (first
                | (go_at_call 16; (with_reducible refine HNX.out.mono ?_); rintro e w8 ⟨rfl, rfl⟩)
                | (go_at_call 17; (with_reducible refine HLEN.out.mono ?_); rintro e w9 ⟨rfl, rfl⟩))
              go_roundw
              case rel => exact ⟨k + 1, _, n5, c5, _, rfl, by simp, by omega, hx5, HM10.out⟩
              case measure =>
                simp [intOf]
                omega
      · have HM := Lib.hid hm
        clear hm hxl
        go_wp2_with (go_at_call 6; (with_reducible refine (HAW.out _).mono ?_); rintro e w10 ⟨rfl, hb10⟩)
        go_ret
        obtain ⟨S9, _, hF9⟩ := HM.out
        exact ⟨rfl, hF9.1.2.trans (hb10.mono hF9.1.2.size)⟩
end Go.Proofs.Ytldlcddmbgcfdaa.Wh
