/-
  Texts of earlier layers, as one.
-/
import Derived.Test.YtlcggldcofncgaaIdxGreat
import Derived.Test.YtlcggldcofncgaaRIdsR
import Derived.Deep.CutRange
/- The law of barriers and no-ops in an index. -/
namespace Go.Proofs.Ytlcggldcofncgaa.Ix
open Go.RowKit Mem Dsk Cmd Ids Ky

theorem meet_wall (c : Cm) : meet (⟨6, 0, 0, ⟨#[]⟩, ⟨#[]⟩, 0⟩ : Cm) c = !decide (c.kd = 0) := by
  unfold meet
  by_cases h : c.kd = 0
  · rw [if_pos (.inr h), decide_eq_true h]
    rfl
  · rw [if_neg (by simp [h]), if_pos (.inl rfl), decide_eq_false h]
    rfl
/-- What the law's own list is to the index's entries. -/
structure Lists (x : List En) (r : List (Int × Int)) : Prop where
  mem : ∀ i, i ∈ r ↔ ∃ e ∈ x, e.i = i ∧ e.c.kd ≠ 0
  pos : ∀ e ∈ x, 0 ≤ e.i.1
theorem Lists.nil : Lists [] [] := ⟨fun i => by simp, fun e h => by cases h⟩
theorem Lists.put {x : List En} {r : List (Int × Int)} (h : Lists x r) (i : Int × Int) (c : Cm) (s : Int) (hi : 0 ≤ i.1) : Lists (putE x i c s) ((r.filter fun y => !decide (y = i)) ++ if c.kd = 0 then [] else [i]) := by
  refine ⟨fun j => ?_, fun e he => ?_⟩
  · have h0 : j ∈ (if c.kd = 0 then [] else [i]) ↔ j = i ∧ c.kd ≠ 0 := by
      split <;> simp_all
    rw [List.mem_append, List.mem_filter, h0, h.mem]
    constructor
    · rintro (⟨⟨e, he, h1, h2⟩, h3⟩ | ⟨h1, h2⟩)
      · exact ⟨e, List.mem_append_left _ (mem_dropE.2 ⟨he, by rw [h1]; simpa using h3⟩), h1, h2⟩
      · exact ⟨⟨i, c, s⟩, List.mem_append_right _ (by simp), h1.symm, h2⟩
    · rintro ⟨e, he, h1, h2⟩
      rcases List.mem_append.1 he with he | he
      · obtain ⟨h3, h4⟩ := mem_dropE.1 he
        exact .inl ⟨⟨e, h3, h1, h2⟩, by rw [← h1]; simpa using h4⟩
      · rw [List.mem_singleton.1 he] at h1 h2
        exact .inr ⟨h1.symm, h2⟩
  · rcases List.mem_append.1 he with he | he
    · exact h.pos e (mem_dropE.1 he).1
    · rw [List.mem_singleton.1 he]
      exact hi
theorem wall_met {x : List En} (hp : ∀ e ∈ x, 0 ≤ e.i.1) (i : Int × Int) : i ∈ depsE x (⟨6, 0, 0, ⟨#[]⟩, ⟨#[]⟩, 0⟩ : Cm) (-1, 0) ↔ ∃ e ∈ x, e.i = i ∧ e.c.kd ≠ 0 := by
  unfold depsE
  rw [mem_setl, List.mem_map]
  constructor
  · rintro ⟨e, he, rfl⟩
    obtain ⟨h1, _, h3⟩ := mem_metE.1 he
    rw [meet_wall] at h3
    exact ⟨e, h1, rfl, by simpa using h3⟩
  · rintro ⟨e, he, rfl, h3⟩
    refine ⟨e, mem_metE.2 ⟨he, fun h => ?_, by rw [meet_wall]; simpa using h3⟩, rfl⟩
    have h4 := hp e he
    rw [h] at h4
    simp at h4
theorem Lists.all {x : List En} {r : List (Int × Int)} (h : Lists x r) : depsE x (⟨6, 0, 0, ⟨#[]⟩, ⟨#[]⟩, 0⟩ : Cm) (-1, 0) = setl r := setl_eq (up_setl _) fun i => by rw [wall_met h.pos, h.mem]
theorem Lists.less {x : List En} {r : List (Int × Int)} (h : Lists x r) (d : Int × Int) : depsE (dropE x d) (⟨6, 0, 0, ⟨#[]⟩, ⟨#[]⟩, 0⟩ : Cm) (-1, 0) = (setl r).filter fun y => !decide (y = d) := by
  refine up_unique _ _ (up_setl _) ((up_setl r).filter _) fun i => ?_
  rw [wall_met (fun e he => h.pos e (mem_dropE.1 he).1), List.mem_filter, mem_setl, h.mem]
  constructor
  · rintro ⟨e, he, h1, h2⟩
    obtain ⟨h3, h4⟩ := mem_dropE.1 he
    exact ⟨⟨e, h3, h1, h2⟩, by rw [← h1]; simpa using h4⟩
  · rintro ⟨⟨e, he, h1, h2⟩, h3⟩
    exact ⟨e, mem_dropE.2 ⟨he, by rw [h1]; simpa using h3⟩, h1, h2⟩
theorem noop_met (x : List En) (but : Int × Int) : depsE x zeroCm but = [] := by
  unfold depsE
  have : metE x zeroCm but = [] := List.filter_eq_nil_iff.2 fun e _ => by simp [meet_zero]
  rw [this]
  exact setl_nil
/-- What lasts: all that was there, and the law's own list. -/
abbrev FA (W : World) (A6 : Option Addr) (m c6 : Nat) (r : List (Int × Int)) (v : World) (S : Nat → Prop) : Prop := FNew W v S ∧ FRw LI A6 m c6 r v S
theorem frame_fa (W : World) (A6 : Option Addr) (m c6 : Nat) (r : List (Int × Int)) : Dsk.Frame (FA W A6 m c6 r) := (frame_new W).and (frame_rw LI A6 m c6 r)
/-- A block outside of a set's. -/
def FBlk (g : Nat) (t : TypeId) (vs : Array Value) (v : World) (S : Nat → Prop) : Prop := Blk v g t vs ∧ ¬ S g
theorem frame_blk (g : Nat) (t : TypeId) (vs : Array Value) : Dsk.Frame (FBlk g t vs) := by
  refine ⟨fun {w w' S S'} h hk hg => ⟨(hk.block g h.1.lt h.2).trans h.1, fun hs => ?_⟩⟩
  rcases hg g hs with h' | h'
  · exact h.2 h'
  · exact absurd h.1.lt (Nat.not_lt.2 h')
abbrev FB (W : World) (A6 : Option Addr) (m c6 : Nat) (r : List (Int × Int)) (bn bw : Nat) (v : World) (S : Nat → Prop) : Prop := FA W A6 m c6 r v S ∧ (FBlk bn 26 #[.int .i64 (-1), .int .i64 0] v S ∧ FBlk bw 24 #[.int .i64 6, .int .i64 0, .int .i64 0, .string ⟨#[]⟩, .string ⟨#[]⟩, .int .i64 0] v S)
theorem frame_fb (W : World) (A6 : Option Addr) (m c6 : Nat) (r : List (Int × Int)) (bn bw : Nat) : Dsk.Frame (FB W A6 m c6 r bn bw) := (frame_fa W A6 m c6 r).and ((frame_blk bn _ _).and (frame_blk bw _ _))
def AlRel (W : World) (p n : Nat) (v6 v7 : Value) (wr : World) : Prop := ∃ (k : Nat) (A6 : Option Addr) (m c6 : Nat) (x : List En) (r : List (Int × Int)), v6 = .slice A6 m c6 ∧ v7 = .int .i64 (k : Int) ∧ k ≤ n ∧ m ≤ k ∧ Lists x r ∧ Mine (FA W A6 m c6 r) wr p (2 * k) x
theorem rs_li {w : World} {A : Option Addr} {n c : Nat} {l : List (Int × Int)} (h : Rw LI w A n c l) : Rs w A n c l := by
  refine ⟨h.len, h.le, h.cap, h.nil, fun hn => ?_⟩
  obtain ⟨g, o, e, hb, hc⟩ := h.spot hn
  refine ⟨g, o, e, hb, fun j x hx => ⟨hc j x hx 0 _ rfl, hc j x hx 1 _ rfl⟩⟩
theorem li_rs {w : World} {A : Option Addr} {n c : Nat} {l : List (Int × Int)} (h : Rs w A n c l) : Rw LI w A n c l := by
  refine ⟨h.len, h.le, h.cap, h.nil, fun hn => ?_⟩
  obtain ⟨g, o, e, hb, hc⟩ := h.spot hn
  refine ⟨g, o, e, hb, fun j x hx i u hu => ?_⟩
  have hi : i < 2 := (List.getElem?_eq_some_iff.1 hu).1
  rcases (show i = 0 ∨ i = 1 by omega) with rfl | rfl
  · have : u = .int .i64 x.1 := (Option.some.inj hu).symm
    rw [this]
    exact (hc j x hx).1
  · have : u = .int .i64 x.2 := (Option.some.inj hu).symm
    rw [this]
    exact (hc j x hx).2
theorem eq_same {u : World} {A B : Option Addr} {n c m d : Nat} {L : List (Int × Int)} (h1 : Rs u A n c L) (h2 : Rs u B m d L) : Calls Try.prog 14 #[.slice A n c, .slice B m d] u (Tells true u) := by
  have := refequal_any L L A B n c m d u h1 h2
  rw [decide_eq_true rfl] at this
  exact this
/-- A new list takes the old one's place. -/
theorem Mine.list {W u u2 : World} {p M : Nat} {A V : Option Addr} {n c n2 c' : Nat} {r r2 : List (Int × Int)} {x : List En} (h : Mine (FA W A n c r) u p M x) (hb : Below u.heap.size u u2) (hr : Rw LI u2 V n2 c' r2) (hnew : ∀ ad, V = some ad → u.heap.size ≤ ad.block) : Mine (FA W V n2 c' r2) u2 p M x := by
  obtain ⟨S, h1, h2, h3⟩ := h
  have hlow := ii_low h1
  refine ⟨S, ii_below h1 hb, (frame_new W).go h2 (Keeps.ofBelow hb) (Grew.refl _ _), hr, fun _ ad e hs => ?_⟩
  have h5 := hnew ad e
  have h6 := hlow _ hs
  omega
set_option maxRecDepth 20000 in
set_option maxHeartbeats 32000000 in
theorem indexall_true (A : Option Addr) (n c : Nat) (l : List Ac) (d : Int × Int) (w : World) (hr : Rw LA w A n c l) (hfit : ∀ y ∈ l, Fit_ y) (hd : Wf d) :
    Calls Try.prog 5 #[.slice A n c, .agg #[.int .i64 d.1, .int .i64 d.2]] w (Tells true w) := by
  have hln := hr.len
  obtain ⟨d1, d2⟩ := d
  have hb1 := bel_alloc (Below.refl w.heap.size w) (.cells #[.int .i64 d1, .int .i64 d2] 26)
  have hbx := Blk.new w 26 #[.int .i64 d1, .int .i64 d2]
  obtain ⟨W, hW⟩ : ∃ v, w.alloc (.cells #[.int .i64 d1, .int .i64 d2] 26) = v := ⟨_, rfl⟩
  rw [hW] at hb1 hbx
  have hrW := hr.below hb1
  have HAW := Lib.hid (fun u => index_awake u)
  have hbig := bigA_any A n c l W hrW
  have HB := Lib.hid hb1
  have HW := Lib.hid hW
  have HX := Lib.hid hbx
  have HR := Lib.hid (And.intro hrW (And.intro hfit hd))
  obtain ⟨q, hq⟩ : ∃ q, bigA l = q := ⟨_, rfl⟩
  rw [hq] at hbig
  have HBIG := Lib.hid hbig
  have HQ := Lib.hid hq
  clear hr hrW hfit hd hb1 hbx hW hbig hq
  cases q with
  | true =>
    go_enter Try.func5, Try.ntmps5
    go_upto_region 1 with fail
    rw [HW.out]
    go_wp2_with (first | (go_at_call 6; (with_reducible refine HBIG.out.mono ?_); rintro e u1 ⟨rfl, hbu⟩; have HU1 := Lib.hid hbu; clear hbu HBIG) | (go_at_call 8; (with_reducible refine (HAW.out _).mono ?_); rintro e w10 ⟨rfl, hb10⟩; have HB10 := Lib.hid hb10; clear hb10))
    go_ret
    exact ⟨rfl, bel_trans HB.out (bel_trans HU1.out HB10.out)⟩
  | false =>
    have hn60 : n ≤ 60 := by have := (bigA_no HQ.out).1; omega
    go_enter Try.func5, Try.ntmps5
    go_upto_region 1 with fail
    rw [HW.out]
    go_upto_region 3 with (go_at_call 6; (with_reducible refine HBIG.out.mono ?_); rintro e u1 ⟨rfl, hbu⟩; have HU1 := Lib.hid hbu; clear hbu HBIG)
    have HN := Lib.hid (new_any u1)
    go_wp2_with fail
    (with_reducible refine HN.out.mono ?_)
    rintro e u2 ⟨p, S, rfl, hI, hlo, hbn⟩
    have hm0 : Mine (FA W none 0 0 []) u2 p 0 [] := ⟨S, hI, ⟨fun k hk => Nat.le_trans HU1.out.size (hlo k hk), bel_trans HU1.out hbn⟩, Rw.nil_ _, fun h0 => absurd h0 (by omega)⟩
    have HM0 := Lib.hid hm0
    clear hI hlo hbn hm0 HN
    unfold ptr
    go_wp2_with fail
    go_loopw [6, 7] (AlRel W p n) (fun _ v _ => n - (intOf v).toNat)
    case atStart => exact ⟨0, none, 0, 0, [], [], rfl, rfl, Nat.zero_le _, Nat.le_refl _, Lists.nil, HM0.out⟩
    case round =>
      obtain ⟨k, A6, m, c6, x, r, rfl, rfl, hk, hmk, hli, hm⟩ := hrel
      clear HM0
      have hbw : Below W.heap.size W wr := by
        obtain ⟨_, _, h, _⟩ := hm
        exact h.2
      by_cases hlt : k < n
      · obtain ⟨g, o, ⟨y1, ⟨i1, i2⟩, ⟨kd, cl, sq, ky, vl, rv⟩, s⟩, rfl, hg, hx, hcx⟩ := HR.out.1.at_ hlt
        obtain ⟨hwi, hwc⟩ := HR.out.2.1 _ (List.mem_of_getElem? hx)
        have hky := (bigA_no HQ.out).2 _ (List.mem_of_getElem? hx)
        have hcxu : ∀ u, Below W.heap.size W u → u.rangeAt g (o + k * 10) (LA.enc (⟨y1, (i1, i2), ⟨kd, cl, sq, ky, vl, rv⟩, s⟩ : Ac)) := fun u hu => range_bel hu hg hcx
        have hten := fun u hu => ten (hcxu u hu)
        simp only at hten hwi hwc hky
        have HTEN := Lib.hid hten
        have HCR : Hid (∀ u, Below W.heap.size W u → u.rangeAt g (o + k * 10 + 3) [.int .i64 kd, .int .i64 cl, .int .i64 sq, .string ky, .string vl, .int .i64 rv]) := Lib.hid fun u hu => act_cmd (hcxu u hu)
        obtain ⟨c0, c1, c2, c3, c4, c5, c6', c7, c8, c9⟩ := hten wr hbw
        have HBW := Lib.hid hbw
        by_cases hneg : i1 < 0
        · clear hm hwi hwc hky c0 c2 c3 c4 c5 c6' c7 c8 c9 hbw hli hx hcx hten hcxu hg
          go_wp2_with (go_at_call 8; (with_reducible refine (HAW.out _).mono ?_); rintro e w10 ⟨rfl, hb10⟩; have HB10 := Lib.hid hb10; clear hb10)
          go_ret
          exact ⟨rfl, bel_trans HB.out (HBW.out.trans (HB10.out.mono HBW.out.size))⟩
        · have hFr := frame_fa W A6 m c6 r
          have hput := put_mine hFr (i1, i2) (⟨kd, cl, sq, ky, vl, rv⟩ : Cm) 1 (hm.bel hFr (show Below wr.heap.size wr wr.drew from Below.drew (Below.refl _ _))) hwi (by show ky.size ≤ _; omega) hwc (by omega)
          have HPUT : Hid (Calls Try.prog 11 #[.pointer (some ⟨p, 0, none⟩), .agg #[.int .i64 i1, .int .i64 i2], .agg #[.int .i64 kd, .int .i64 cl, .int .i64 sq, .string ky, .string vl, .int .i64 rv], .int .i64 1] wr.drew (fun e w' => e = .returned (.tuple #[]) ∧ Mine (FA W A6 m c6 r) w' p (2 * k + 2) (putE x (i1, i2) (⟨kd, cl, sq, ky, vl, rv⟩ : Cm) 1))) := Lib.hid hput
          have HS0 := Lib.hid (show Below W.heap.size W wr.drew from Below.drew hbw)
          have HLI := Lib.hid (And.intro hli (show 0 ≤ i1 by omega))
          clear hm hwi hwc hky c0 c2 c3 c4 c5 c6' c7 c8 c9 hbw hli hx hcx hput hFr hg hten hcxu
          go_upto_region 10 with fail
          refine wp_region_held_drew (S := (fun w' => Below W.heap.size W w')) (by kernel_rfl) (by first | (with_reducible exact HS1.out) | (with_reducible exact HS0.out)) (fun hHeld => ?_)
          refine held_take (i := 0) (d := 28) (v := (.pointer (some ⟨p, 0, none⟩))) rfl rfl (by kernel_rfl) (by kernel_rfl) (by kernel_rfl) (fun _ _ _ h => h) (by kernel_rfl) (fun w hSw => by (obtain hS := hSw); go_simp) hHeld ?_
          try simp only [List.setIfInBounds_toArray, List.set_cons_zero, List.set_cons_succ]
          refine held_take (i := 1) (d := 29) (v := (.slice (some ⟨g, o, none⟩) n c)) rfl rfl (by kernel_rfl) (by kernel_rfl) (by kernel_rfl) (fun _ _ _ h => h) (by kernel_rfl) (fun w hSw => by (obtain hS := hSw); go_simp) hHeld ?_
          try simp only [List.setIfInBounds_toArray, List.set_cons_zero, List.set_cons_succ]
          refine held_take (i := 2) (d := 30) (v := (.int .i64 (k : Int))) rfl rfl (by kernel_rfl) (by kernel_rfl) (by kernel_rfl) (fun _ _ _ h => h) (by kernel_rfl) (fun w hSw => by (obtain hS := hSw); go_simp) hHeld ?_
          try simp only [List.setIfInBounds_toArray, List.set_cons_zero, List.set_cons_succ]
          refine held_take (i := 3) (d := 31) (v := (.pointer (some ⟨g, o + k * 10, none⟩))) rfl rfl (by kernel_rfl) (by kernel_rfl) (by kernel_rfl) (fun _ _ _ h => h) (by kernel_rfl) (fun w hSw => by (obtain hS := hSw); go_simp) hHeld ?_
          try simp only [List.setIfInBounds_toArray, List.set_cons_zero, List.set_cons_succ]
          refine held_take (i := 4) (d := 32) (v := (.pointer (some ⟨g, o + k * 10 + 1, none⟩))) rfl rfl (by kernel_rfl) (by kernel_rfl) (by kernel_rfl) (fun _ _ _ h => h) (by kernel_rfl) (fun w hSw => by (obtain hS := hSw); go_simp) hHeld ?_
          try simp only [List.setIfInBounds_toArray, List.set_cons_zero, List.set_cons_succ]
          refine held_take (i := 5) (d := 33) (v := (.agg #[.int .i64 i1, .int .i64 i2])) rfl rfl (by kernel_rfl) (by kernel_rfl) (by kernel_rfl) (fun _ _ _ h => h) (by kernel_rfl) (fun w1 hSw => by (have h0 := (HTEN.out _ hSw).2.1; have h1 := (HTEN.out _ hSw).2.2.1; go_simp)) hHeld ?_
          try simp only [List.setIfInBounds_toArray, List.set_cons_zero, List.set_cons_succ]
          refine held_take (i := 6) (d := 34) (v := (.slice (some ⟨g, o, none⟩) n c)) rfl rfl (by kernel_rfl) (by kernel_rfl) (by kernel_rfl) (fun _ _ _ h => h) (by kernel_rfl) (fun w hSw => by (obtain hS := hSw); go_simp) hHeld ?_
          try simp only [List.setIfInBounds_toArray, List.set_cons_zero, List.set_cons_succ]
          refine held_take (i := 7) (d := 35) (v := (.int .i64 (k : Int))) rfl rfl (by kernel_rfl) (by kernel_rfl) (by kernel_rfl) (fun _ _ _ h => h) (by kernel_rfl) (fun w hSw => by (obtain hS := hSw); go_simp) hHeld ?_
          try simp only [List.setIfInBounds_toArray, List.set_cons_zero, List.set_cons_succ]
          refine held_take (i := 8) (d := 36) (v := (.pointer (some ⟨g, o + k * 10, none⟩))) rfl rfl (by kernel_rfl) (by kernel_rfl) (by kernel_rfl) (fun _ _ _ h => h) (by kernel_rfl) (fun w hSw => by (obtain hS := hSw); go_simp) hHeld ?_
          try simp only [List.setIfInBounds_toArray, List.set_cons_zero, List.set_cons_succ]
          refine held_take (i := 9) (d := 37) (v := (.pointer (some ⟨g, o + k * 10 + 3, none⟩))) rfl rfl (by kernel_rfl) (by kernel_rfl) (by kernel_rfl) (fun _ _ _ h => h) (by kernel_rfl) (fun w hSw => by (obtain hS := hSw); go_simp) hHeld ?_
          try simp only [List.setIfInBounds_toArray, List.set_cons_zero, List.set_cons_succ]
          refine held_take (i := 10) (d := 38) (v := (.agg #[.int .i64 kd, .int .i64 cl, .int .i64 sq, .string ky, .string vl, .int .i64 rv])) rfl rfl (by kernel_rfl) (by kernel_rfl) (by kernel_rfl) (fun _ _ _ h => h) (by kernel_rfl) (run_load_row 24 (.tmp 37) rfl g (o + k * 10 + 3) [.int .i64 kd, .int .i64 cl, .int .i64 sq, .string ky, .string vl, .int .i64 rv] _ rfl (fun _ h => HCR.out _ h) Try.underlying24 rfl (by kernel_rfl)) hHeld ?_
          try simp only [List.setIfInBounds_toArray, List.set_cons_zero, List.set_cons_succ]
          refine wpAnyH_ready (rs := [11]) (by kernel_rfl) (by simp) ?_
          refine AllReadyH.cons rfl (fun K hK => ?_) AllReadyH.nil
          go_simp
          go_at_call 11
          (with_reducible refine HPUT.out.mono ?_)
          rintro e u2 ⟨rfl, hm2⟩
          have HM2 := Lib.hid hm2
          have HS1 := Lib.hid (show Below W.heap.size W u2 from by obtain ⟨_, _, h, _⟩ := hm2; exact h.2)
          clear hm2
          refine hK.out _ _ (by first | (with_reducible exact HS1.out) | (with_reducible exact HS0.out)) (fun hHeld => ?_)
          clear hK K
          refine wpAnyH_done (by kernel_rfl) ?_ _
          skip
          clear c1
          obtain ⟨S2, hI2, hN2, hR2, hO2⟩ := HM2.out
          obtain ⟨c0, c1, c2, c3, c4, c5, c6', c7, c8, c9⟩ := HTEN.out u2 hN2.2
          have hwo := refwithout_any r (i1, i2) A6 m c6 u2 (rs_li hR2) (by omega)
          obtain ⟨r2, hr2⟩ : ∃ r2, r.filter (fun y => !decide (y = (i1, i2))) = r2 := ⟨_, rfl⟩
          rw [hr2] at hwo
          obtain ⟨m2, hm2⟩ : ∃ m2, r2.length = m2 := ⟨_, rfl⟩
          have HWO := Lib.hid (hwo.mono (fun e v (h : Makes u2 r2 e v) => show ∃ A c, e = .returned (.slice A m2 c) ∧ v.ownsRow u2.heap.size 26 2 (.slice A m2 c) m2 (cells r2) ∧ Below u2.heap.size u2 v from by
            subst hm2
            exact h))
          have hmr : r.length = m := by
            obtain ⟨_, _, _, h, _⟩ := HM2.out
            exact h.len
          have hr2l : m2 ≤ m := by rw [← hm2, ← hr2, ← hmr]; exact List.length_filter_le _ _
          have HR2 := Lib.hid (And.intro hr2 (And.intro hm2 hr2l))
          clear hI2 hN2 hR2 hO2 HPUT hwo hr2 hm2 hmr hr2l
          go_wp2_with fail
          (with_reducible refine HWO.out.mono ?_)
          rintro e u3 ⟨V, c', rfl, ho3, hb3⟩
          have HB23 := Lib.hid hb3
          have ho3 : u3.ownsRow u2.heap.size 26 LI.s (.slice V m2 c') m2 (LI.flat r2) := ho3
          obtain ⟨hr2, hm2, hr2l⟩ := HR2.out
          have hm3 := HM2.out.list (u2 := u3) hb3 (Rw.own (L := LI) ho3) (fun ad e => (ho3.lt ad.block (by rw [e]; rfl)).1)
          have hli2 := HLI.out.1.put (i1, i2) (⟨kd, cl, sq, ky, vl, rv⟩ : Cm) 1 HLI.out.2
          rw [hr2] at hli2
          have hbw3 : Below W.heap.size W u3 := by
            obtain ⟨_, _, h, _⟩ := hm3
            exact h.2
          clear c0 c1 c2 c3 c4 c5 c6' c7 c8 c9 HWO hr2 hb3 HR2
          obtain ⟨c0, c1, c2, c3, c4, c5, c6', c7, c8, c9⟩ := HTEN.out u3 hbw3
          by_cases hk0 : kd = 0
          · have HFI := Lib.hid (show AlRel W p n (.slice V m2 c') (.int .i64 ((k + 1 : Nat) : Int)) u3 from ⟨k + 1, V, m2, c', _, r2, rfl, rfl, by omega, by omega, by
              have := hli2
              rw [show ((⟨kd, cl, sq, ky, vl, rv⟩ : Cm)).kd = kd from rfl, if_pos hk0, List.append_nil] at this
              exact this, by rw [show 2 * (k + 1) = 2 * k + 2 by omega]; exact hm3⟩)
            clear ho3 hm3 hli2 hbw3 hm2 hr2l HM2
            subst hk0
            go_wp2_with fail
            go_roundw
            case rel => simpa using HFI.out
            case measure =>
              simp [intOf]
              omega
          · have nk0 : (kd == 0) = false := beq_false_of_ne hk0
            have hbl : Below u3.heap.size u3 (u3.alloc (.cells #[.int .i64 i1, .int .i64 i2] 26)) := bel_alloc (Below.refl _ _) _
            have hlit : Rw LI (u3.alloc (.cells #[.int .i64 i1, .int .i64 i2] 26)) (some ⟨u3.heap.size, 0, none⟩) 1 1 [(i1, i2)] := Rw.lit (L := LI) u3 (i1, i2) 26
            obtain ⟨i0, hi, hz0, hz1, hz2⟩ := info_parts infoId'
            have hsz3 := hbl.size
            have ho3' : (u3.alloc (.cells #[.int .i64 i1, .int .i64 i2] 26)).ownsRow u2.heap.size 26 LI.s (.slice V m2 c') m2 (LI.flat r2) := ownsRow_below ho3 hbl
            have hsz2 : u2.heap.size ≤ u3.heap.size := HB23.out.size
            obtain ⟨V1, c1x, u4, hrun, hown, hgrw, hloc⟩ := run_append_rw (L := LI) (ty := 42) (bytes := 16) Try.underlying42 hi hz0 hz1 hz2 rfl ho3' hlit (by unfold maxLen; omega) (by omega) (by omega)
            have hgb : Below u2.heap.size u2 u4 := (HB23.out.trans (hbl.mono HB23.out.size)).grown hgrw (Nat.le_trans HB23.out.size hsz3) fun j e => (ho3'.lt j e).1
            have hm4 := HM2.out.list (u2 := u4) hgb (Rw.own (L := LI) hown) (fun ad e => (hown.lt ad.block (by rw [e]; rfl)).1)
            have HFI := Lib.hid (show AlRel W p n (.slice V1 (m2 + 1) c1x) (.int .i64 ((k + 1 : Nat) : Int)) u4 from ⟨k + 1, V1, m2 + 1, c1x, _, r2 ++ [(i1, i2)], rfl, rfl, by omega, by omega, by
              have := hli2
              rw [show ((⟨kd, cl, sq, ky, vl, rv⟩ : Cm)).kd = kd from rfl, if_neg hk0] at this
              exact this, by rw [show 2 * (k + 1) = 2 * k + 2 by omega]; exact hm4⟩)
            have HRUN := Lib.hid hrun
            clear ho3 hm3 hli2 hbw3 hm2 hr2l HM2 hbl hlit hi hz0 hz1 hz2 hsz3 ho3' hsz2 hrun hown hgrw hloc hgb hm4 hk0
            go_wp2_with (at_builtin; refine wpList_append_row rfl (.tmp 54) (.tmp 60) rfl HRUN.out ?_)
            go_roundw
            case rel => simpa using HFI.out
            case measure =>
              simp [intOf]
              omega
      · have hkn : k = n := by omega
        subst hkn
        have hFr := frame_fa W A6 m c6 r
        have hFr2 := frame_fb W A6 m c6 r wr.heap.size (wr.heap.size + 1)
        obtain ⟨W2, hW2⟩ : ∃ v, (wr.alloc (.cells #[.int .i64 (-1), .int .i64 0] 26)).alloc (.cells #[.int .i64 6, .int .i64 0, .int .i64 0, .string ⟨#[]⟩, .string ⟨#[]⟩, .int .i64 0] 24) = v := ⟨_, rfl⟩
        have hb2 : Below wr.heap.size wr W2 := by rw [← hW2]; exact bel_alloc (bel_alloc (Below.refl _ _) _) _
        have hxn : Blk W2 wr.heap.size 26 #[.int .i64 (-1), .int .i64 0] := by rw [← hW2]; exact (Blk.new wr 26 #[.int .i64 (-1), .int .i64 0]).alloc _
        have hxw : Blk W2 (wr.heap.size + 1) 24 #[.int .i64 6, .int .i64 0, .int .i64 0, .string ⟨#[]⟩, .string ⟨#[]⟩, .int .i64 0] := by
          rw [← hW2]
          have := Blk.new (wr.alloc (.cells #[.int .i64 (-1), .int .i64 0] 26)) 24 #[.int .i64 6, .int .i64 0, .int .i64 0, .string ⟨#[]⟩, .string ⟨#[]⟩, .int .i64 0]
          rw [size_alloc] at this
          exact this
        have hxd : Blk W2 w.heap.size 26 #[.int .i64 d1, .int .i64 d2] := HX.out.bel (bel_trans hbw hb2)
        have hm2 : Mine (FB W A6 m c6 r wr.heap.size (wr.heap.size + 1)) W2 p (2 * k) x := by
          obtain ⟨S, h1, h2⟩ := hm
          have hlow := ii_low h1
          exact ⟨S, ii_below h1 hb2, hFr.go h2 (Keeps.ofBelow hb2) (Grew.refl _ _), ⟨hxn, fun hs => by have := hlow _ hs; omega⟩, ⟨hxw, fun hs => by have := hlow _ hs; omega⟩⟩
        have hrl : r.length = m := by
          obtain ⟨_, _, _, h, _⟩ := hm
          exact h.len
        have hcells : ∀ u, Below W2.heap.size W2 u → u.cell? ⟨wr.heap.size, 0, none⟩ = some (.int .i64 (-1)) ∧ u.cell? ⟨wr.heap.size, 1, none⟩ = some (.int .i64 0) ∧
            u.cell? ⟨wr.heap.size + 1, 0, none⟩ = some (.int .i64 6) ∧ u.cell? ⟨wr.heap.size + 1, 1, none⟩ = some (.int .i64 0) ∧ u.cell? ⟨wr.heap.size + 1, 2, none⟩ = some (.int .i64 0) ∧ u.cell? ⟨wr.heap.size + 1, 3, none⟩ = some (.string ⟨#[]⟩) ∧ u.cell? ⟨wr.heap.size + 1, 4, none⟩ = some (.string ⟨#[]⟩) ∧ u.cell? ⟨wr.heap.size + 1, 5, none⟩ = some (.int .i64 0) ∧
            u.cell? ⟨w.heap.size, 0, none⟩ = some (.int .i64 d1) ∧ u.cell? ⟨w.heap.size, 1, none⟩ = some (.int .i64 d2) := fun u hu =>
          ⟨(hxn.bel hu).cell 0, (hxn.bel hu).cell 1, (hxw.bel hu).cell 0, (hxw.bel hu).cell 1, (hxw.bel hu).cell 2, (hxw.bel hu).cell 3, (hxw.bel hu).cell 4, (hxw.bel hu).cell 5, (hxd.bel hu).cell 0, (hxd.bel hu).cell 1⟩
        obtain ⟨L0, hL0⟩ : ∃ L0, setl r = L0 := ⟨_, rfl⟩
        obtain ⟨L2, hL2⟩ : ∃ L2, L0.filter (fun y => !decide (y = (d1, d2))) = L2 := ⟨_, rfl⟩
        have hL0n : L0.length ≤ 1073741824 := by
          have := length_setl r
          rw [hL0] at this
          omega
        have hless := hli.less (d1, d2)
        have hall := hli.all
        rw [hL0] at hless hall
        rw [hL2] at hless
        have HDW : Hid (∀ u, Below W2.heap.size W2 u → Calls Try.prog 15 #[.pointer (some ⟨p, 0, none⟩), .agg #[.int .i64 6, .int .i64 0, .int .i64 0, .string ⟨#[]⟩, .string ⟨#[]⟩, .int .i64 0], .agg #[.int .i64 (-1), .int .i64 0]] u (Gets u L0)) := Lib.hid fun u hu => by
          have := deps_mine (⟨6, 0, 0, ⟨#[]⟩, ⟨#[]⟩, 0⟩ : Cm) (-1, 0) (hm2.bel hFr2 hu) (by omega) (Nat.zero_le _) rfl
          rw [hall] at this
          exact this
        have HST : Hid (∀ u, Below W2.heap.size W2 u → Calls Try.prog 22 #[.slice A6 m c6] u (Makes u L0)) := Lib.hid fun u hu => by
          obtain ⟨_, _, ⟨_, hR, _⟩, _⟩ := hm2.bel hFr2 hu
          have := refset_any r A6 m c6 u (rs_li hR) (by omega)
          rw [hL0] at this
          exact this
        have HDZ : Hid (∀ u, Below W2.heap.size W2 u → Calls Try.prog 15 #[.pointer (some ⟨p, 0, none⟩), .agg #[.int .i64 0, .int .i64 0, .int .i64 0, .string ⟨#[]⟩, .string ⟨#[]⟩, .int .i64 0], .agg #[.int .i64 (-1), .int .i64 0]] u (Gets u [])) := Lib.hid fun u hu => by
          have := deps_mine zeroCm (-1, 0) (hm2.bel hFr2 hu) (by omega) (Nat.zero_le _) rfl
          rw [noop_met] at this
          exact this
        have HDR : Hid (∀ u, Below W2.heap.size W2 u → Calls Try.prog 12 #[.pointer (some ⟨p, 0, none⟩), .agg #[.int .i64 d1, .int .i64 d2]] u (fun e w' => e = .returned (.tuple #[]) ∧ Mine (FB W A6 m c6 r wr.heap.size (wr.heap.size + 1)) w' p (2 * k) (dropE x (d1, d2)))) := Lib.hid fun u hu => drop_mine hFr2 (d1, d2) (hm2.bel hFr2 hu) HR.out.2.2
        have HC := Lib.hid hcells
        have HW2 := Lib.hid hW2
        have HL0 := Lib.hid (And.intro hL0 (And.intro hL2 (And.intro hL0n (And.intro hless (And.intro hrl hmk)))))
        have HS0 := Lib.hid (Below.refl W2.heap.size W2)
        have HC9 : ∀ {u}, Mine (FB W A6 m c6 r wr.heap.size (wr.heap.size + 1)) u p (2 * k) (dropE x (d1, d2)) → u.cell? ⟨wr.heap.size, 0, none⟩ = some (.int .i64 (-1)) ∧ u.cell? ⟨wr.heap.size, 1, none⟩ = some (.int .i64 0) ∧
            u.cell? ⟨wr.heap.size + 1, 0, none⟩ = some (.int .i64 6) ∧ u.cell? ⟨wr.heap.size + 1, 1, none⟩ = some (.int .i64 0) ∧ u.cell? ⟨wr.heap.size + 1, 2, none⟩ = some (.int .i64 0) ∧ u.cell? ⟨wr.heap.size + 1, 3, none⟩ = some (.string ⟨#[]⟩) ∧ u.cell? ⟨wr.heap.size + 1, 4, none⟩ = some (.string ⟨#[]⟩) ∧ u.cell? ⟨wr.heap.size + 1, 5, none⟩ = some (.int .i64 0) ∧
            u.cell? ⟨w.heap.size, 0, none⟩ = some (.int .i64 d1) ∧ u.cell? ⟨w.heap.size, 1, none⟩ = some (.int .i64 d2) := by
          rintro u ⟨_, _, ⟨⟨_, hN⟩, _⟩, ⟨h1, _⟩, ⟨h2, _⟩⟩
          have h3 := HX.out.bel hN
          exact ⟨h1.cell 0, h1.cell 1, h2.cell 0, h2.cell 1, h2.cell 2, h2.cell 3, h2.cell 4, h2.cell 5, h3.cell 0, h3.cell 1⟩
        obtain ⟨pn0, pn1, pw0, pw1, pw2, pw3, pw4, pw5, pd0, pd1⟩ := HC.out _ (Below.refl _ _)
        clear hm hm2 hli hcells hxn hxw hxd hb2 hW2 hL0 hL2 hL0n hless hall hrl hFr hbw hlt hFr2
        go_upto_region 16 with fail
        rw [HW2.out]
        go_upto_region 19 with (first | (go_at_call 15; (with_reducible refine (HDW.out _ HS0.out).mono ?_); rintro e u5 ⟨A5, k5, rfl, hrs, hbu⟩; have HS5 := Lib.hid (bel_trans HS0.out hbu); have HR5 := Lib.hid hrs; clear hbu HDW hrs; clear pn0 pn1 pw0 pw1 pw2 pw3 pw4 pw5 pd0 pd1; obtain ⟨pn0, pn1, pw0, pw1, pw2, pw3, pw4, pw5, pd0, pd1⟩ := HC.out _ HS5.out) | (go_at_call 22; (with_reducible refine (HST.out _ HS5.out).mono ?_); rintro e u6 ⟨V6, k6, rfl, ho, hbu⟩; have HS6 := Lib.hid (bel_trans HS5.out hbu); have HQ6 := Lib.hid (eq_same (HR5.out.below hbu) (rs_li (Rw.own (L := LI) ho))); clear hbu HST ho; clear pn0 pn1 pw0 pw1 pw2 pw3 pw4 pw5 pd0 pd1; obtain ⟨pn0, pn1, pw0, pw1, pw2, pw3, pw4, pw5, pd0, pd1⟩ := HC.out _ HS6.out) | (go_at_call 14; (with_reducible refine (HQ6.out).mono ?_); rintro e u7 ⟨rfl, hbu⟩; have HS7 := Lib.hid (bel_trans HS6.out hbu); clear hbu HQ6; clear pn0 pn1 pw0 pw1 pw2 pw3 pw4 pw5 pd0 pd1; obtain ⟨pn0, pn1, pw0, pw1, pw2, pw3, pw4, pw5, pd0, pd1⟩ := HC.out _ HS7.out) | (go_at_call 15; (with_reducible refine (HDZ.out _ HS7.out).mono ?_); rintro e u8 ⟨A8, k8, rfl, hrs, hbu⟩; have HS8 := Lib.hid (bel_trans HS7.out hbu); clear hbu HDZ hrs; clear pn0 pn1 pw0 pw1 pw2 pw3 pw4 pw5 pd0 pd1; obtain ⟨pn0, pn1, pw0, pw1, pw2, pw3, pw4, pw5, pd0, pd1⟩ := HC.out _ HS8.out) | (go_at_call 12; (with_reducible refine (HDR.out _ HS8.out).mono ?_); rintro e u9 ⟨rfl, hm9⟩; have HM9 := Lib.hid hm9; clear hm9 HDR; clear pn0 pn1 pw0 pw1 pw2 pw3 pw4 pw5 pd0 pd1; obtain ⟨pn0, pn1, pw0, pw1, pw2, pw3, pw4, pw5, pd0, pd1⟩ := HC9 HM9.out))
        have hFr2 := frame_fb W A6 m c6 r wr.heap.size (wr.heap.size + 1)
        obtain ⟨hL0, hL2, hL0n, hless, hrl, hmk⟩ := HL0.out
        have hm9 := HM9.out
        have HDW : Hid (∀ u, Below u9.heap.size u9 u → Calls Try.prog 15 #[.pointer (some ⟨p, 0, none⟩), .agg #[.int .i64 6, .int .i64 0, .int .i64 0, .string ⟨#[]⟩, .string ⟨#[]⟩, .int .i64 0], .agg #[.int .i64 (-1), .int .i64 0]] u (Gets u L2)) := Lib.hid fun u hu => by
          have := deps_mine (⟨6, 0, 0, ⟨#[]⟩, ⟨#[]⟩, 0⟩ : Cm) (-1, 0) (hm9.bel hFr2 hu) (by omega) (Nat.zero_le _) rfl
          rw [hless] at this
          exact this
        have HST : Hid (∀ u, Below u9.heap.size u9 u → Calls Try.prog 22 #[.slice A6 m c6] u (Makes u L0)) := Lib.hid fun u hu => by
          obtain ⟨_, _, ⟨_, hR, _⟩, _⟩ := hm9.bel hFr2 hu
          have := refset_any r A6 m c6 u (rs_li hR) (by omega)
          rw [hL0] at this
          exact this
        obtain ⟨_, _, ⟨⟨_, hN⟩, _⟩, ⟨h1, _⟩, ⟨h2, _⟩⟩ := HM9.out
        have HN9 := Lib.hid hN
        have HXN := Lib.hid h1
        have HXW := Lib.hid h2
        have HXD := Lib.hid (HX.out.bel hN)
        clear pn0 pn1 pw0 pw1 pw2 pw3 pw4 pw5 pd0 pd1
        clear hL0 hL2 hL0n hless hrl hm9 hFr2 hN h1 h2 HM9 HS0 HS5 HS6 HS7 HS8 HC HC9 HR5
        have HS0 := Lib.hid (show Below u9.heap.size u9 u9.drew from Below.drew (Below.refl _ _))
        refine wp_region_held_drew (S := (fun w' => Below u9.heap.size u9 w')) (by kernel_rfl) (by first | (with_reducible exact HS5.out) | (with_reducible exact HS4.out) | (with_reducible exact HS3.out) | (with_reducible exact HS2.out) | (with_reducible exact HS1.out) | (with_reducible exact HS0.out)) (fun hHeld => ?_)
        refine held_take (i := 0) (d := 83) (v := (.pointer (some ⟨p, 0, none⟩))) rfl rfl (by kernel_rfl) (by kernel_rfl) (by kernel_rfl) (fun _ _ _ h => h) (by kernel_rfl) (fun w hSw => by (obtain hS := hSw); go_simp) hHeld ?_
        try simp only [List.setIfInBounds_toArray, List.set_cons_zero, List.set_cons_succ]
        refine held_take (i := 1) (d := 84) (v := (.agg #[.int .i64 6, .int .i64 0, .int .i64 0, .string ⟨#[]⟩, .string ⟨#[]⟩, .int .i64 0])) rfl rfl (by kernel_rfl) (by kernel_rfl) (by kernel_rfl) (fun _ _ _ h => h) (by kernel_rfl) (run_load_blk 24 (.tmp 9) rfl (wr.heap.size + 1) 24 #[.int .i64 6, .int .i64 0, .int .i64 0, .string ⟨#[]⟩, .string ⟨#[]⟩, .int .i64 0] _ rfl (fun _ h => HXW.out.bel h) Try.underlying24 rfl (by kernel_rfl)) hHeld ?_
        try simp only [List.setIfInBounds_toArray, List.set_cons_zero, List.set_cons_succ]
        refine held_take (i := 2) (d := 85) (v := (.agg #[.int .i64 (-1), .int .i64 0])) rfl rfl (by kernel_rfl) (by kernel_rfl) (by kernel_rfl) (fun _ _ _ h => h) (by kernel_rfl) (run_load_blk 26 (.tmp 8) rfl (wr.heap.size) 26 #[.int .i64 (-1), .int .i64 0] _ rfl (fun _ h => HXN.out.bel h) Try.underlying26 rfl (by kernel_rfl)) hHeld ?_
        try simp only [List.setIfInBounds_toArray, List.set_cons_zero, List.set_cons_succ]
        refine held_take (i := 4) (d := 87) (v := (.slice A6 m c6)) rfl rfl (by kernel_rfl) (by kernel_rfl) (by kernel_rfl) (fun _ _ _ h => h) (by kernel_rfl) (fun w hSw => by (obtain hS := hSw); go_simp) hHeld ?_
        try simp only [List.setIfInBounds_toArray, List.set_cons_zero, List.set_cons_succ]
        refine held_take (i := 6) (d := 89) (v := (.agg #[.int .i64 d1, .int .i64 d2])) rfl rfl (by kernel_rfl) (by kernel_rfl) (by kernel_rfl) (fun _ _ _ h => h) (by kernel_rfl) (run_load_blk 26 (.tmp 3) rfl (w.heap.size) 26 #[.int .i64 d1, .int .i64 d2] _ rfl (fun _ h => HXD.out.bel h) Try.underlying26 rfl (by kernel_rfl)) hHeld ?_
        try simp only [List.setIfInBounds_toArray, List.set_cons_zero, List.set_cons_succ]
        refine wpAnyH_ready (rs := [3]) (by kernel_rfl) (by simp) ?_
        refine AllReadyH.cons rfl (fun K hK => ?_) AllReadyH.nil
        go_simp
        go_at_call 15
        (with_reducible refine (HDW.out _ HS0.out).mono ?_)
        rintro e v1 ⟨A5, k5, rfl, hrs, hbu⟩
        have HS1 := Lib.hid (bel_trans HS0.out hbu)
        have HR1 := Lib.hid hrs
        clear hbu HDW hrs
        refine hK.out _ _ (by first | (with_reducible exact HS5.out) | (with_reducible exact HS4.out) | (with_reducible exact HS3.out) | (with_reducible exact HS2.out) | (with_reducible exact HS1.out) | (with_reducible exact HS0.out)) (fun hHeld => ?_)
        clear hK K
        refine wpAnyH_ready (rs := [5]) (by kernel_rfl) (by simp) ?_
        refine AllReadyH.cons rfl (fun K hK => ?_) AllReadyH.nil
        go_simp
        go_at_call 22
        (with_reducible refine (HST.out _ HS1.out).mono ?_)
        rintro e v2 ⟨V6, k6, rfl, ho, hbu⟩
        have HS2 := Lib.hid (bel_trans HS1.out hbu)
        have HWO := Lib.hid (refwithout_any L0 (d1, d2) V6 L0.length k6 v2 (rs_li (Rw.own (L := LI) ho)) HL0.out.2.2.1)
        rw [HL0.out.2.1] at HWO
        have HR2 := Lib.hid (HR1.out.below hbu)
        clear hbu HST ho HR1
        refine hK.out _ _ (by first | (with_reducible exact HS5.out) | (with_reducible exact HS4.out) | (with_reducible exact HS3.out) | (with_reducible exact HS2.out) | (with_reducible exact HS1.out) | (with_reducible exact HS0.out)) (fun hHeld => ?_)
        clear hK K
        refine wpAnyH_ready (rs := [7]) (by kernel_rfl) (by simp) ?_
        refine AllReadyH.cons rfl (fun K hK => ?_) AllReadyH.nil
        go_simp
        go_at_call 21
        (with_reducible refine (HWO.out).mono ?_)
        rintro e v3 ⟨V7, k7, rfl, ho, hbu⟩
        have HS3 := Lib.hid (bel_trans HS2.out hbu)
        have HQ3 := Lib.hid (eq_same (HR2.out.below hbu) (rs_li (Rw.own (L := LI) ho)))
        clear hbu HWO ho HR2
        refine hK.out _ _ (by first | (with_reducible exact HS5.out) | (with_reducible exact HS4.out) | (with_reducible exact HS3.out) | (with_reducible exact HS2.out) | (with_reducible exact HS1.out) | (with_reducible exact HS0.out)) (fun hHeld => ?_)
        clear hK K
        refine wpAnyH_ready (rs := [8]) (by kernel_rfl) (by simp) ?_
        refine AllReadyH.cons rfl (fun K hK => ?_) AllReadyH.nil
        go_simp
        go_at_call 14
        (with_reducible refine (HQ3.out).mono ?_)
        rintro e v4 ⟨rfl, hbu⟩
        have HS4 := Lib.hid (bel_trans HS3.out hbu)
        clear hbu HQ3
        refine hK.out _ _ (by first | (with_reducible exact HS5.out) | (with_reducible exact HS4.out) | (with_reducible exact HS3.out) | (with_reducible exact HS2.out) | (with_reducible exact HS1.out) | (with_reducible exact HS0.out)) (fun hHeld => ?_)
        clear hK K
        refine held_take (i := 9) (d := 92) (v := (.bool true)) rfl rfl (by kernel_rfl) (by kernel_rfl) (by kernel_rfl) (fun _ _ _ h => h) (by kernel_rfl) (fun w hSw => by (obtain hS := hSw); go_simp) hHeld ?_
        try simp only [List.setIfInBounds_toArray, List.set_cons_zero, List.set_cons_succ]
        refine wpAnyH_ready (rs := [10]) (by kernel_rfl) (by simp) ?_
        refine AllReadyH.cons rfl (fun K hK => ?_) AllReadyH.nil
        go_simp
        go_at_call 8
        (with_reducible refine (HAW.out _).mono ?_)
        rintro e v5 ⟨rfl, hbu⟩
        have HS5 := Lib.hid (bel_trans HS4.out hbu)
        clear hbu 
        refine hK.out _ _ (by first | (with_reducible exact HS5.out) | (with_reducible exact HS4.out) | (with_reducible exact HS3.out) | (with_reducible exact HS2.out) | (with_reducible exact HS1.out) | (with_reducible exact HS0.out)) (fun hHeld => ?_)
        clear hK K
        refine held_take (i := 11) (d := 94) (v := (.bool true)) rfl rfl (by kernel_rfl) (by kernel_rfl) (by kernel_rfl) (fun _ _ _ h => h) (by kernel_rfl) (fun w hSw => by (obtain hS := hSw); go_simp) hHeld ?_
        try simp only [List.setIfInBounds_toArray, List.set_cons_zero, List.set_cons_succ]
        refine held_take (i := 12) (d := 4) (v := (.bool true)) rfl rfl (by kernel_rfl) (by kernel_rfl) (by kernel_rfl) (fun _ _ _ h => h) (by kernel_rfl) (fun w hSw => by (obtain hS := hSw); go_simp) hHeld ?_
        try simp only [List.setIfInBounds_toArray, List.set_cons_zero, List.set_cons_succ]
        refine wpAnyH_done (by kernel_rfl) ?_ _
        go_wp2_with fail
        go_ret
        exact ⟨rfl, bel_trans HB.out (HN9.out.trans (HS5.out.mono HN9.out.size))⟩
end Go.Proofs.Ytlcggldcofncgaa.Ix
