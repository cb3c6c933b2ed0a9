/-
  Texts of earlier layers, as one.
-/
import Derived.Test.YtgnpnjfoenmfbaaBagEnv
import Derived.Deep.CutRange
/- The law of what was handed in and what was answered. -/
namespace Go.Proofs.Ytgnpnjfoenmfbaa.Bg
open Go.RowKit Mem Dsk

/-- A row of bytes outside of a set's blocks. -/
def FOwn (B : Nat) (V : Option Addr) (n c : Nat) (xs : List Value) (w : World) (S : Nat → Prop) : Prop := w.ownsRow B 5 1 (.slice V n c) n xs ∧ ∀ k, (Value.slice V n c).ownBlock = some k → ¬ S k
theorem frame_own (B : Nat) (V : Option Addr) (n c : Nat) (xs : List Value) : Dsk.Frame (FOwn B V n c xs) := by
  refine ⟨fun {w w' S S'} h hk hg => ⟨row_keep h.1 fun k e => hk.block k (h.1.lt k e).2 (h.2 k e), fun k e hs => ?_⟩⟩
  rcases hg k hs with h' | h'
  · exact h.2 k e h'
  · have := (h.1.lt k e).2
    omega
/-- A block outside of a set's. -/
def FBlk (g : Nat) (t : TypeId) (vs : Array Value) (w : World) (S : Nat → Prop) : Prop := Blk w g t vs ∧ ¬ S g
theorem frame_blk (g : Nat) (t : TypeId) (vs : Array Value) : Dsk.Frame (FBlk g t vs) := by
  refine ⟨fun {w w' S S'} h hk hg => ⟨(hk.block g h.1.lt h.2).trans h.1, fun hs => ?_⟩⟩
  rcases hg g hs with h' | h'
  · exact h.2 h'
  · have := h.1.lt
    omega
def us8 (z : List Int) : List Value := z.map (Value.int .u8)
theorem cs_us8 (bs : List Nat) : cs bs = us8 (bs.map fun (b : Nat) => (b : Int)) := by simp [cs, us8]
/-- What lasts in the loop. -/
def KpF (w : World) (b1 b4 b5 : Nat) (vs1 vs4 vs5 : Array Value) (V1 V2 : Option Addr) (n c1 c2 : Nat) (z1 z2 : List Int) (v : World) (S : Nat → Prop) : Prop :=
  FNew w v S ∧ (FBlk b1 29 vs1 v S ∧ (FBlk b4 29 vs4 v S ∧ (FBlk b5 29 vs5 v S ∧ (FOwn w.heap.size V1 n c1 (us8 z1) v S ∧ FOwn w.heap.size V2 n c2 (us8 z2) v S))))
/-- The rows are apart from the boxes, and from each other. -/
structure KpD (b1 b4 b5 : Nat) (V1 V2 : Option Addr) : Prop where
  one : ∀ k, Row V1 k → k ≠ b1 ∧ k ≠ b4 ∧ k ≠ b5 ∧ ¬ Row V2 k
  two : ∀ k, Row V2 k → k ≠ b1 ∧ k ≠ b4 ∧ k ≠ b5
theorem drew_size (w : World) : w.drew.heap.size = w.heap.size := rfl
theorem bel_set {w0 w : World} {g i : Nat} (h : Below w0.heap.size w0 w) (hg : w0.heap.size ≤ g) (v : Value) : Below w0.heap.size w0 (w.setCell ⟨g, i, none⟩ v) := h.setCell (show w0.heap.size ≤ (⟨g, i, none⟩ : Addr).block from hg) v
theorem kp_set1 {w v : World} {p b1 b4 b5 n c1 c2 g k : Nat} {vs1 vs4 vs5 : Array Value} {V2 : Option Addr} {z1 z2 : List Int} {b : Bag} {x : Int} (hd : KpD b1 b4 b5 (some ⟨g, 0, none⟩) V2) (h : Mine (KpF w b1 b4 b5 vs1 vs4 vs5 (some ⟨g, 0, none⟩) V2 n c1 c2 z1 z2) v p b) :
    Mine (KpF w b1 b4 b5 vs1 vs4 vs5 (some ⟨g, 0, none⟩) V2 n c1 c2 (z1.set k x) z2) (v.setCell ⟨g, k, none⟩ (.int .u8 x)) p b := by
  obtain ⟨S, hI, hn, h1, h4, h5, ho1, ho2⟩ := h
  obtain ⟨d1, d4, d5, d2⟩ := hd.one g (Row.mk g 0)
  have hgS := ho1.2 g rfl
  have hgl := ho1.1.lt g rfl
  have hst := ho1.1.stored k (.int .u8 x)
  refine ⟨S, bi_keep hI (Keeps.ofGrown (S := fun j => j = g) hst.2 rfl) (fun j hs e => hgS (e ▸ hs)), ⟨hn.1, bel_set hn.2 hgl.1 _⟩, ⟨h1.1.far (fun e => d1 e.symm) _, h1.2⟩, ⟨h4.1.far (fun e => d4 e.symm) _, h4.2⟩, ⟨h5.1.far (fun e => d5 e.symm) _, h5.2⟩, ⟨?_, ho1.2⟩, ⟨ho2.1.kept hst.2 (.inr fun e => d2 (row_of.1 e)), ho2.2⟩⟩
  unfold us8
  rw [List.map_set]
  exact hst.1
theorem kp_set2 {w v : World} {p b1 b4 b5 n c1 c2 g k : Nat} {vs1 vs4 vs5 : Array Value} {V1 : Option Addr} {z1 z2 : List Int} {b : Bag} {x : Int} (hd : KpD b1 b4 b5 V1 (some ⟨g, 0, none⟩)) (h : Mine (KpF w b1 b4 b5 vs1 vs4 vs5 V1 (some ⟨g, 0, none⟩) n c1 c2 z1 z2) v p b) :
    Mine (KpF w b1 b4 b5 vs1 vs4 vs5 V1 (some ⟨g, 0, none⟩) n c1 c2 z1 (z2.set k x)) (v.setCell ⟨g, k, none⟩ (.int .u8 x)) p b := by
  obtain ⟨S, hI, hn, h1, h4, h5, ho1, ho2⟩ := h
  obtain ⟨d1, d4, d5⟩ := hd.two g (Row.mk g 0)
  have hgS := ho2.2 g rfl
  have hgl := ho2.1.lt g rfl
  have hst := ho2.1.stored k (.int .u8 x)
  refine ⟨S, bi_keep hI (Keeps.ofGrown (S := fun j => j = g) hst.2 rfl) (fun j hs e => hgS (e ▸ hs)), ⟨hn.1, bel_set hn.2 hgl.1 _⟩, ⟨h1.1.far (fun e => d1 e.symm) _, h1.2⟩, ⟨h4.1.far (fun e => d4 e.symm) _, h4.2⟩, ⟨h5.1.far (fun e => d5 e.symm) _, h5.2⟩, ⟨ho1.1.kept hst.2 (.inr fun e => (hd.one g (row_of.1 e)).2.2.2 (Row.mk g 0)), ho1.2⟩, ⟨?_, ho2.2⟩⟩
  unfold us8
  rw [List.map_set]
  exact hst.1
theorem frame_kpf (w : World) (b1 b4 b5 : Nat) (vs1 vs4 vs5 : Array Value) (V1 V2 : Option Addr) (n c1 c2 : Nat) (z1 z2 : List Int) : Dsk.Frame (KpF w b1 b4 b5 vs1 vs4 vs5 V1 V2 n c1 c2 z1 z2) :=
  (frame_new w).and ((frame_blk b1 _ vs1).and ((frame_blk b4 _ vs4).and ((frame_blk b5 _ vs5).and ((frame_own w.heap.size V1 n c1 _).and (frame_own w.heap.size V2 n c2 _)))))
def KpRel (w : World) (p b1 b4 b5 : Nat) (vs1 vs4 vs5 : Array Value) (V1 V2 : Option Addr) (n c1 c2 : Nat) (b : Bag) (i : Value) (wr : World) : Prop :=
  ∃ (k : Nat) (z1 z2 : List Int), i = .int .i64 (k : Int) ∧ k ≤ n ∧ z1.length = n ∧ z2.length = n ∧ Mine (KpF w b1 b4 b5 vs1 vs4 vs5 V1 V2 n c1 c2 z1 z2) wr p b
def KpCut (w1 : World) (f t : Int) (n : Nat) (bs : List Nat) (v : Value) (wx : World) : Prop :=
  ∃ b4 V c1, v = .pointer (some ⟨b4, 0, none⟩) ∧ w1.heap.size ≤ b4 ∧ Blk wx b4 29 #[.int .i64 f, .int .i64 t, .slice V n c1] ∧ wx.ownsRow w1.heap.size 5 1 (.slice V n c1) n (cs bs) ∧ ¬ Row V b4 ∧ Below w1.heap.size w1 wx
set_option maxRecDepth 20000 in
set_option maxHeartbeats 8000000 in
theorem bag_keeps (x : En) (A : Option Addr) (c : Nat) (w : World) (hr : Rd w A x.bs.length c (cs x.bs)) :
    Calls Try.prog 4 #[.agg #[.int .i64 x.f, .int .i64 x.t, .slice A x.bs.length c]] w (Tells true w) := by
  have HAW := Lib.hid (fun (u : World) => bag_awake u)
  obtain ⟨f, t, bs⟩ := x
  simp only at hr ⊢
  obtain ⟨n, hn⟩ : ∃ n, bs.length = n := ⟨_, rfl⟩
  rw [hn] at hr ⊢
  have hb0 := bel_alloc (Below.refl w.heap.size w) (.cells #[.int .i64 f, .int .i64 t, .slice A n c] 29)
  have hk0 := Blk.new w 29 #[.int .i64 f, .int .i64 t, .slice A n c]
  obtain ⟨W, hW⟩ : ∃ W, w.alloc (.cells #[.int .i64 f, .int .i64 t, .slice A n c] 29) = W := ⟨_, rfl⟩
  have hs0 : W.heap.size = w.heap.size + 1 := by rw [← hW]; simp
  rw [hW] at hb0 hk0
  obtain ⟨c0, c1, c2⟩ := blk3 hk0
  have hcc := hr.cap
  have hlc := hr.le
  unfold maxLen at hcc
  have HN := Lib.hid hn
  have HR := Lib.hid hr
  have H0 := Lib.hid (And.intro hb0 (And.intro hk0 hs0))
  have HW := Lib.hid hW
  clear hb0 hk0 hs0 hW hn hr
  go_enter Try.func4, Try.ntmps4
  go_upto_region 1 with fail
  rw [HW.out]
  by_cases h100 : 100 < n
  · have b1 : decide ((100 : Int) < (n : Int)) = true := decide_eq_true (by omega)
    go_wp2_with fail
    refine (HAW.out _).mono ?_
    rintro e w1 ⟨rfl, hb⟩
    have HB := Lib.hid (H0.out.1.trans (hb.mono H0.out.1.size))
    clear hb
    go_wp2_with fail
    go_ret
    exact ⟨rfl, HB.out⟩
  have b1 : decide ((100 : Int) < (n : Int)) = false := decide_eq_false (by omega)
  have HNEW := Lib.hid (new_any 4 W)
  have e0 : newBag 4 = ⟨[], 4, 0⟩ := rfl
  rw [e0] at HNEW
  go_upto_region 3 with fail
  clear c0 c1 c2 b1
  go_wp2_with fail
  refine HNEW.out.mono ?_
  rintro e w1 ⟨p, S, rfl, hI, hl, hb⟩
  have hk1 := H0.out.2.1.bel hb
  have HS0 := Lib.hid (show Blk w1.drew w.heap.size 29 #[.int .i64 f, .int .i64 t, .slice A n c] from hk1.drew)
  have HI := Lib.hid (And.intro hI (And.intro hl hb))
  have HK1 := Lib.hid hk1
  have HB00 := Lib.hid (H0.out.1.trans (hb.mono H0.out.1.size))
  have HZ := Lib.hid (show w.heap.size < w1.heap.size by have h1 := H0.out.2.2; have h2 := hb.size; omega)
  clear hI hl hb hk1 HNEW e0
  unfold ptr
  go_upto_region 4 with fail
  go_cut [4] from 18 to 26 (KpCut w1 f t n bs)
  case first =>
    refine wp_region_held_drew (S := (fun w' => Blk w' w.heap.size 29 #[.int .i64 f, .int .i64 t, .slice A n c])) (by kernel_rfl) (by with_reducible exact HS0.out) (fun hHeld => ?_)
    refine held_take (i := 0) (d := 18) (v := (.pointer (some ⟨w.heap.size, 0, none⟩))) rfl rfl (by kernel_rfl) (by kernel_rfl) (by kernel_rfl) (fun _ _ _ h => h) (by kernel_rfl) (fun w' _ => by go_simp) hHeld ?_
    try simp only [List.setIfInBounds_toArray, List.set_cons_zero, List.set_cons_succ]
    refine held_take (i := 1) (d := 19) (v := (.int .i64 f)) rfl rfl (by kernel_rfl) (by kernel_rfl) (by kernel_rfl) (fun _ _ _ h => h) (by kernel_rfl) (fun w' hSw => by
        obtain ⟨q0, q1, q2⟩ := blk3 hSw
        go_simp) hHeld ?_
    try simp only [List.setIfInBounds_toArray, List.set_cons_zero, List.set_cons_succ]
    refine held_take (i := 2) (d := 20) (v := (.pointer (some ⟨w.heap.size, 1, none⟩))) rfl rfl (by kernel_rfl) (by kernel_rfl) (by kernel_rfl) (fun _ _ _ h => h) (by kernel_rfl) (fun w' _ => by go_simp) hHeld ?_
    try simp only [List.setIfInBounds_toArray, List.set_cons_zero, List.set_cons_succ]
    refine held_take (i := 3) (d := 21) (v := (.int .i64 t)) rfl rfl (by kernel_rfl) (by kernel_rfl) (by kernel_rfl) (fun _ _ _ h => h) (by kernel_rfl) (fun w' hSw => by
        obtain ⟨q0, q1, q2⟩ := blk3 hSw
        go_simp) hHeld ?_
    try simp only [List.setIfInBounds_toArray, List.set_cons_zero, List.set_cons_succ]
    refine held_take (i := 5) (d := 23) (v := (.pointer (some ⟨w.heap.size, 2, none⟩))) rfl rfl (by kernel_rfl) (by kernel_rfl) (by kernel_rfl) (fun _ _ _ h => h) (by kernel_rfl) (fun w' _ => by go_simp) hHeld ?_
    try simp only [List.setIfInBounds_toArray, List.set_cons_zero, List.set_cons_succ]
    refine held_take (i := 6) (d := 24) (v := (.slice A n c)) rfl rfl (by kernel_rfl) (by kernel_rfl) (by kernel_rfl) (fun _ _ _ h => h) (by kernel_rfl) (fun w' hSw => by
        obtain ⟨q0, q1, q2⟩ := blk3 hSw
        go_simp) hHeld ?_
    try simp only [List.setIfInBounds_toArray, List.set_cons_zero, List.set_cons_succ]
    refine wpAnyH_ready (rs := [4, 9]) (by kernel_rfl) (by simp) ?_
    refine AllReadyH.cons rfl (fun K hK => ?_) (AllReadyH.cons rfl (fun K hK => ?_) AllReadyH.nil)
    · go_simp
      have HSA := Lib.hid (show Blk (w1.drew.alloc (.cells #[] 5)) w.heap.size 29 #[.int .i64 f, .int .i64 t, .slice A n c] from HS0.out.alloc _)
      have hrA := World.ownsRow_made (e := 5) (size := 1) w1.drew #[] 0 (show w1.heap.size ≤ w1.drew.heap.size from Nat.le_refl _) (by unfold maxLen; omega) rfl
      have hbA : Below w1.heap.size w1 (w1.drew.alloc (.cells #[] 5)) := (Below.drew (Below.refl w1.heap.size w1)).alloc (Nat.le_refl _) _
      refine hK.out _ _ HSA.out (fun hHeld => ?_)
      clear hK K
      refine wpAnyH_ready (rs := [7, 9]) (by kernel_rfl) (by simp) ?_
      refine AllReadyH.cons rfl (fun K hK => ?_) (AllReadyH.cons rfl (fun K hK => ?_) AllReadyH.nil)
      · obtain ⟨i0, hi, hz0, hz1, hz2⟩ := info_parts info_u8
        obtain ⟨V, c1, u7, hrun, hown, hgr, hloc⟩ := run_append_one (ty := 27) Try.underlying27 hi hz0 hz1 hz2 rfl hrA (HR.out.below (HB00.out.trans (hbA.mono HB00.out.size))) (cs_one _) (by unfold maxLen; omega) (by omega) hbA.size
        rw [Nat.zero_add] at hrun hown hloc
        rw [List.nil_append] at hown
        refine step_append_row rfl (.tmp 22) (.tmp 24) rfl hrun ?_
        show K (Act.put _ (some 25) _) _
        try simp only [Act.put]
        have HS7 := Lib.hid (show Blk u7 w.heap.size 29 #[.int .i64 f, .int .i64 t, .slice A n c] from HSA.out.grown hgr (by intro e; injection e with e; have e' : w.heap.size = w1.heap.size := e; have h1 := HZ.out; omega))
        have hb7 : Below w1.heap.size w1 u7 := hbA.grown hgr hbA.size (fun k e => (hrA.lt k e).1)
        have HSZ := Lib.hid (show w1.heap.size + 1 ≤ u7.heap.size by have h1 := hgr.size; rw [size_alloc, drew_size] at h1; exact h1)
        refine hK.out _ _ HS7.out (fun hHeld => ?_)
        clear hK K
        refine held_take (i := 8) (d := 26) (v := (.agg #[.int .i64 f, .int .i64 t, .slice V n c1])) rfl rfl (by kernel_rfl) (by kernel_rfl) (by kernel_rfl) (fun _ _ _ h => h) (by kernel_rfl) (fun w' _ => by go_simp) hHeld ?_
        try simp only [List.setIfInBounds_toArray]
        refine wpAnyH_ready (rs := [9]) (by kernel_rfl) (by simp) ?_
        refine AllReadyH.cons rfl (fun K hK => ?_) AllReadyH.nil
        go_simp
        have HS9 := Lib.hid (show Blk (u7.alloc (.cells #[.int .i64 0, .int .i64 0, .slice none 0 0] 29)) w.heap.size 29 #[.int .i64 f, .int .i64 t, .slice A n c] from HS7.out.alloc _)
        refine hK.out _ _ HS9.out (fun hHeld => ?_)
        clear hK K
        refine wpAnyH_ready (rs := [10]) (by kernel_rfl) (by simp) ?_
        refine AllReadyH.cons rfl (fun K hK => ?_) AllReadyH.nil
        refine step_store_blk rfl 29 (.tmp 4) (.tmp 26) rfl (u7.heap.size) 29 #[.int .i64 0, .int .i64 0, .slice none 0 0] #[.int .i64 f, .int .i64 t, .slice V n c1] rfl rfl (Blk.new u7 29 #[.int .i64 0, .int .i64 0, .slice none 0 0]) (by kernel_rfl) rfl (by kernel_rfl) ?_
        intro u10 hblk hg10
        simp only [Act.put]
        have HS10 := Lib.hid (show Blk u10 w.heap.size 29 #[.int .i64 f, .int .i64 t, .slice A n c] from HS9.out.grown hg10 (by intro e; injection e with e; have e' : w.heap.size = u7.heap.size := e; have h1 := HZ.out; have h2 := HSZ.out; omega))
        refine hK.out _ _ HS10.out (fun hHeld => ?_)
        clear hK K
        refine wpAnyH_done (by kernel_rfl) ?_ _
        go_wp2_with fail
        go_meet
        case rel =>
          exact ⟨u7.heap.size, V, c1, rfl, by have h2 := HSZ.out; omega, hblk, (hown.alloc (.cells #[.int .i64 0, .int .i64 0, .slice none 0 0] 29)).kept hg10 (.inr fun e => (fun h : Row V u7.heap.size => by have := (hown.lt _ (row_of.2 h)).2; omega) (row_of.1 e)), (fun h : Row V u7.heap.size => by have := (hown.lt _ (row_of.2 h)).2; omega), (hb7.alloc hb7.size (.cells #[.int .i64 0, .int .i64 0, .slice none 0 0] 29)).grown hg10 (hb7.alloc hb7.size (.cells #[.int .i64 0, .int .i64 0, .slice none 0 0] 29)).size (fun k e => by injection e with e; have e' : u7.heap.size = k := e; have h2 := HSZ.out; omega)⟩
      · go_simp
        have HSB := Lib.hid (show Blk ((w1.drew.alloc (.cells #[] 5)).alloc (.cells #[.int .i64 0, .int .i64 0, .slice none 0 0] 29)) w.heap.size 29 #[.int .i64 f, .int .i64 t, .slice A n c] from HSA.out.alloc _)
        have hzB := Blk.new (w1.drew.alloc (.cells #[] 5)) 29 #[.int .i64 0, .int .i64 0, .slice none 0 0]
        rw [size_alloc, drew_size] at hzB
        have hbB : Below w1.heap.size w1 ((w1.drew.alloc (.cells #[] 5)).alloc (.cells #[.int .i64 0, .int .i64 0, .slice none 0 0] 29)) := hbA.alloc hbA.size _
        have hrB := hrA.alloc (.cells #[.int .i64 0, .int .i64 0, .slice none 0 0] 29)
        refine hK.out _ _ HSB.out (fun hHeld => ?_)
        clear hK K
        refine wpAnyH_ready (rs := [7]) (by kernel_rfl) (by simp) ?_
        refine AllReadyH.cons rfl (fun K hK => ?_) AllReadyH.nil
        obtain ⟨i0, hi, hz0, hz1, hz2⟩ := info_parts info_u8
        obtain ⟨V, c1, u7, hrun, hown, hgr, hloc⟩ := run_append_one (ty := 27) Try.underlying27 hi hz0 hz1 hz2 rfl hrB (HR.out.below (HB00.out.trans (hbB.mono HB00.out.size))) (cs_one _) (by unfold maxLen; omega) (by omega) hbB.size
        rw [Nat.zero_add] at hrun hown hloc
        rw [List.nil_append] at hown
        refine step_append_row rfl (.tmp 22) (.tmp 24) rfl hrun ?_
        show K (Act.put _ (some 25) _) _
        try simp only [Act.put]
        have HS7 := Lib.hid (show Blk u7 w.heap.size 29 #[.int .i64 f, .int .i64 t, .slice A n c] from HSB.out.grown hgr (by intro e; injection e with e; have e' : w.heap.size = w1.heap.size := e; have h1 := HZ.out; omega))
        have hb7 : Below w1.heap.size w1 u7 := hbB.grown hgr hbB.size (fun k e => (hrB.lt k e).1)
        have HSZ := Lib.hid (show w1.heap.size + 2 ≤ u7.heap.size by have h1 := hgr.size; rw [size_alloc, size_alloc, drew_size] at h1; exact h1)
        have hnr : ¬ Row V (w1.heap.size + 1) := fun h => by
          have h2 := (row_of (n := n) (c := c1)).2 h
          rcases hloc with e | e
          · rw [e] at h2
            injection h2 with h2
            have h3 : w1.heap.size = w1.heap.size + 1 := h2
            omega
          · rw [e] at h2
            injection h2 with h2
            rw [size_alloc, size_alloc, drew_size] at h2
            omega
        have hz8 := hzB.grown hgr (by intro e; injection e with e; have e' : w1.heap.size + 1 = w1.heap.size := e; omega)
        refine hK.out _ _ HS7.out (fun hHeld => ?_)
        clear hK K
        refine held_take (i := 8) (d := 26) (v := (.agg #[.int .i64 f, .int .i64 t, .slice V n c1])) rfl rfl (by kernel_rfl) (by kernel_rfl) (by kernel_rfl) (fun _ _ _ h => h) (by kernel_rfl) (fun w' _ => by go_simp) hHeld ?_
        try simp only [List.setIfInBounds_toArray]
        refine wpAnyH_ready (rs := [10]) (by kernel_rfl) (by simp) ?_
        refine AllReadyH.cons rfl (fun K hK => ?_) AllReadyH.nil
        refine step_store_blk rfl 29 (.tmp 4) (.tmp 26) rfl (w1.heap.size + 1) 29 #[.int .i64 0, .int .i64 0, .slice none 0 0] #[.int .i64 f, .int .i64 t, .slice V n c1] rfl rfl hz8 (by kernel_rfl) rfl (by kernel_rfl) ?_
        intro u10 hblk hg10
        simp only [Act.put]
        have HS10 := Lib.hid (show Blk u10 w.heap.size 29 #[.int .i64 f, .int .i64 t, .slice A n c] from HS7.out.grown hg10 (by intro e; injection e with e; have e' : w.heap.size = w1.heap.size + 1 := e; have h1 := HZ.out; have h2 := HSZ.out; omega))
        refine hK.out _ _ HS10.out (fun hHeld => ?_)
        clear hK K
        refine wpAnyH_done (by kernel_rfl) ?_ _
        go_wp2_with fail
        go_meet
        case rel =>
          exact ⟨w1.heap.size + 1, V, c1, rfl, by have h2 := HSZ.out; omega, hblk, hown.kept hg10 (.inr fun e => hnr (row_of.1 e)), hnr, hb7.grown hg10 hb7.size (fun k e => by injection e with e; have e' : w1.heap.size + 1 = k := e; have h2 := HSZ.out; omega)⟩
    · go_simp
      have HSC := Lib.hid (show Blk (w1.drew.alloc (.cells #[.int .i64 0, .int .i64 0, .slice none 0 0] 29)) w.heap.size 29 #[.int .i64 f, .int .i64 t, .slice A n c] from HS0.out.alloc _)
      have hzC := Blk.new w1.drew 29 #[.int .i64 0, .int .i64 0, .slice none 0 0]
      have hbC : Below w1.heap.size w1 (w1.drew.alloc (.cells #[.int .i64 0, .int .i64 0, .slice none 0 0] 29)) := (Below.drew (Below.refl w1.heap.size w1)).alloc (Nat.le_refl _) _
      refine hK.out _ _ HSC.out (fun hHeld => ?_)
      clear hK K
      refine wpAnyH_ready (rs := [4]) (by kernel_rfl) (by simp) ?_
      refine AllReadyH.cons rfl (fun K hK => ?_) AllReadyH.nil
      go_simp
      have HSD := Lib.hid (show Blk ((w1.drew.alloc (.cells #[.int .i64 0, .int .i64 0, .slice none 0 0] 29)).alloc (.cells #[] 5)) w.heap.size 29 #[.int .i64 f, .int .i64 t, .slice A n c] from HSC.out.alloc _)
      have hrD := World.ownsRow_made (e := 5) (size := 1) (w1.drew.alloc (.cells #[.int .i64 0, .int .i64 0, .slice none 0 0] 29)) #[] 0 (show w1.heap.size ≤ (w1.drew.alloc (.cells #[.int .i64 0, .int .i64 0, .slice none 0 0] 29)).heap.size from hbC.size) (by unfold maxLen; omega) rfl
      rw [size_alloc, drew_size] at hrD
      have hbD : Below w1.heap.size w1 ((w1.drew.alloc (.cells #[.int .i64 0, .int .i64 0, .slice none 0 0] 29)).alloc (.cells #[] 5)) := hbC.alloc hbC.size _
      have hzD := hzC.alloc (.cells #[] 5)
      refine hK.out _ _ HSD.out (fun hHeld => ?_)
      clear hK K
      refine wpAnyH_ready (rs := [7]) (by kernel_rfl) (by simp) ?_
      refine AllReadyH.cons rfl (fun K hK => ?_) AllReadyH.nil
      obtain ⟨i0, hi, hz0, hz1, hz2⟩ := info_parts info_u8
      obtain ⟨V, c1, u7, hrun, hown, hgr, hloc⟩ := run_append_one (ty := 27) Try.underlying27 hi hz0 hz1 hz2 rfl hrD (HR.out.below (HB00.out.trans (hbD.mono HB00.out.size))) (cs_one _) (by unfold maxLen; omega) (by omega) hbD.size
      rw [Nat.zero_add] at hrun hown hloc
      rw [List.nil_append] at hown
      refine step_append_row rfl (.tmp 22) (.tmp 24) rfl hrun ?_
      show K (Act.put _ (some 25) _) _
      try simp only [Act.put]
      have HS7 := Lib.hid (show Blk u7 w.heap.size 29 #[.int .i64 f, .int .i64 t, .slice A n c] from HSD.out.grown hgr (by intro e; injection e with e; have e' : w.heap.size = w1.heap.size + 1 := e; have h1 := HZ.out; omega))
      have hb7 : Below w1.heap.size w1 u7 := hbD.grown hgr hbD.size (fun k e => (hrD.lt k e).1)
      have HSZ := Lib.hid (show w1.heap.size + 2 ≤ u7.heap.size by have h1 := hgr.size; rw [size_alloc, size_alloc, drew_size] at h1; exact h1)
      have hnr : ¬ Row V w1.heap.size := fun h => by
        have h2 := (row_of (n := n) (c := c1)).2 h
        rcases hloc with e | e
        · rw [e] at h2
          injection h2 with h2
          have h3 : w1.heap.size + 1 = w1.heap.size := h2
          omega
        · rw [e] at h2
          injection h2 with h2
          rw [size_alloc, size_alloc, drew_size] at h2
          omega
      have hz8 := hzD.grown hgr (by intro e; injection e with e; have e' : w1.heap.size = w1.heap.size + 1 := e; omega)
      refine hK.out _ _ HS7.out (fun hHeld => ?_)
      clear hK K
      refine held_take (i := 8) (d := 26) (v := (.agg #[.int .i64 f, .int .i64 t, .slice V n c1])) rfl rfl (by kernel_rfl) (by kernel_rfl) (by kernel_rfl) (fun _ _ _ h => h) (by kernel_rfl) (fun w' _ => by go_simp) hHeld ?_
      try simp only [List.setIfInBounds_toArray]
      refine wpAnyH_ready (rs := [10]) (by kernel_rfl) (by simp) ?_
      refine AllReadyH.cons rfl (fun K hK => ?_) AllReadyH.nil
      refine step_store_blk rfl 29 (.tmp 4) (.tmp 26) rfl (w1.heap.size) 29 #[.int .i64 0, .int .i64 0, .slice none 0 0] #[.int .i64 f, .int .i64 t, .slice V n c1] rfl rfl hz8 (by kernel_rfl) rfl (by kernel_rfl) ?_
      intro u10 hblk hg10
      simp only [Act.put]
      have HS10 := Lib.hid (show Blk u10 w.heap.size 29 #[.int .i64 f, .int .i64 t, .slice A n c] from HS7.out.grown hg10 (by intro e; injection e with e; have e' : w.heap.size = w1.heap.size := e; have h1 := HZ.out; have h2 := HSZ.out; omega))
      refine hK.out _ _ HS10.out (fun hHeld => ?_)
      clear hK K
      refine wpAnyH_done (by kernel_rfl) ?_ _
      go_wp2_with fail
      go_meet
      case rel =>
        exact ⟨w1.heap.size, V, c1, rfl, by have h2 := HSZ.out; omega, hblk, hown.kept hg10 (.inr fun e => hnr (row_of.1 e)), hnr, hb7.grown hg10 hb7.size (fun k e => by injection e with e; have e' : w1.heap.size = k := e; have h2 := HSZ.out; omega)⟩
  case rest =>
    obtain ⟨b4, V1, cV, rfl, hge, hblk, hown, hnr, hbel⟩ := hcut
    have hIc := bi_below HI.out.1 hbel
    have hlw := bi_low HI.out.1
    have hF0 : FNew w wc S ∧ (FBlk w.heap.size 29 #[.int .i64 f, .int .i64 t, .slice A n c] wc S ∧ (FBlk b4 29 #[.int .i64 f, .int .i64 t, .slice V1 n cV] wc S ∧ FOwn w.heap.size V1 n cV (cs bs) wc S)) := by
      refine ⟨⟨fun k hk => ?_, HB00.out.trans (hbel.mono HB00.out.size)⟩, ⟨HK1.out.bel hbel, fun hs => ?_⟩, ⟨hblk, fun hs => ?_⟩, ⟨own_low hown HB00.out.size, fun k e hs => ?_⟩⟩
      · have h1 := HI.out.2.1 k hk
        have h2 := H0.out.2.2
        omega
      · have h1 := HI.out.2.1 _ hs
        have h2 := H0.out.2.2
        omega
      · have h1 := hlw _ hs
        omega
      · have h1 := (hown.lt k e).1
        have h2 := hlw _ hs
        omega
    have hput : Calls Try.prog 9 #[.pointer (some ⟨p, 0, none⟩), .agg #[.int .i64 f, .int .i64 t, .slice V1 bs.length cV]] wc (fun e w' => e = .returned (.bool true) ∧ Stays BI p S ⟨[⟨f, t, bs⟩], 4, 1⟩ wc w') :=
      put_any p S ⟨[], 4, 0⟩ ⟨f, t, bs⟩ V1 cV wc hIc ⟨by decide, by decide, by decide, fun x h => by cases h⟩ (by rw [HN.out]; exact Rd.own hown) (by rw [HN.out]; omega)
    rw [HN.out] at hput
    have hd4 : ∀ k, Row V1 k → k ≠ w.heap.size ∧ k ≠ b4 := fun k hk => ⟨fun e => by have h1 := (hown.lt k (row_of.2 hk)).1; have h2 := HZ.out; omega, fun e => hnr (e ▸ hk)⟩
    obtain ⟨d0, d1, d2⟩ := blk3 hblk
    have HP := Lib.hid hput
    have HF0 := Lib.hid hF0
    have HD4 := Lib.hid (And.intro hd4 (And.intro (show w.heap.size < b4 by have h2 := HZ.out; omega) (show b4 < wc.heap.size from hblk.lt)))
    have hFr0 : Dsk.Frame (fun v S => FNew w v S ∧ (FBlk w.heap.size 29 #[.int .i64 f, .int .i64 t, .slice A n c] v S ∧ (FBlk b4 29 #[.int .i64 f, .int .i64 t, .slice V1 n cV] v S ∧ FOwn w.heap.size V1 n cV (cs bs) v S))) := (frame_new w).and ((frame_blk _ _ _).and ((frame_blk _ _ _).and (frame_own _ _ _ _ _)))
    clear hge hblk hown hnr hbel hIc hlw hF0 hput hd4
    go_wp2_with fail
    refine HP.out.mono ?_
    rintro e w2 ⟨rfl, hs2⟩
    obtain ⟨S2, hI2, hF2⟩ := hs2.mine hFr0 HF0.out
    have hfine : ∀ nx : Int, 0 ≤ nx → nx ≤ 10 → ∀ l : List En, l.length ≤ 3 → (∀ x ∈ l, x = ⟨f, t, bs⟩) → Fine ⟨l, 4, nx⟩ := fun nx h0 h1 l hl hx => ⟨by show l.length ≤ _; omega, h0, by show nx ≤ _; omega, fun x hm => by rw [hx x hm]; show bs.length ≤ 1000; rw [HN.out]; omega⟩
    have htw : Calls Try.prog 13 #[.pointer (some ⟨p, 0, none⟩), .int .i64 0] w2 (fun e w' => e = .returned (.bool true) ∧ Stays BI p S2 ⟨[⟨f, t, bs⟩, ⟨f, t, bs⟩], 4, 2⟩ w2 w') :=
      twice_any p S2 ⟨[⟨f, t, bs⟩], 4, 1⟩ 0 w2 hI2 (hfine 1 (by decide) (by decide) _ (by simp) (by simp))
    have HT := Lib.hid htw
    have HF2 := Lib.hid hF2
    have HFI := Lib.hid hfine
    clear hs2 hI2 hF2 htw hfine HP HF0 d0 d1 d2
    go_wp2_with fail
    refine HT.out.mono ?_
    rintro e w3 ⟨rfl, hs3⟩
    obtain ⟨S3, hI3, hF3⟩ := hs3.mine hFr0 HF2.out
    have hat : Calls Try.prog 17 #[.pointer (some ⟨p, 0, none⟩), .int .i64 0] w3 (fun e w' => Shows (some ⟨f, t, bs⟩) w3 e w' ∧ Below w3.heap.size w3 w') :=
      at_any p S3 ⟨[⟨f, t, bs⟩, ⟨f, t, bs⟩], 4, 2⟩ 0 w3 hI3 (HFI.out 2 (by decide) (by decide) _ (by simp) (by simp))
    unfold Shows at hat
    simp only [Option.getD_some, Option.isSome_some, HN.out] at hat
    have HAT := Lib.hid hat
    have HM3 := Lib.hid (And.intro hI3 hF3)
    clear hs3 hI3 hF3 hat HT HF2
    go_wp2_with fail
    refine HAT.out.mono ?_
    rintro e w4 ⟨⟨V2, c2, rfl, hrow⟩, hb4⟩
    have hba := bel_alloc (Below.refl w4.heap.size w4) (.cells #[.int .i64 f, .int .i64 t, .slice V2 n c2] 29)
    have hk5 := Blk.new w4 29 #[.int .i64 f, .int .i64 t, .slice V2 n c2]
    have hrow5 := hrow.alloc (.cells #[.int .i64 f, .int .i64 t, .slice V2 n c2] 29)
    obtain ⟨U, hU⟩ : ∃ U, w4.alloc (.cells #[.int .i64 f, .int .i64 t, .slice V2 n c2] 29) = U := ⟨_, rfl⟩
    rw [hU] at hba hk5 hrow5
    have hb3U := hb4.trans (hba.mono hb4.size)
    have hfU := hFr0.go HM3.out.2 (Keeps.ofBelow hb3U) (Grew.refl S3 w3)
    have hIU := bi_below HM3.out.1 hb3U
    have hlS := bi_low HM3.out.1
    have hz3 := hb4.size
    have hzw : w.heap.size ≤ w3.heap.size := HM3.out.2.1.2.size
    have hb4l : b4 < w3.heap.size := HM3.out.2.2.2.1.1.lt
    have hmine : Mine (KpF w w.heap.size b4 w4.heap.size #[.int .i64 f, .int .i64 t, .slice A n c] #[.int .i64 f, .int .i64 t, .slice V1 n cV] #[.int .i64 f, .int .i64 t, .slice V2 n c2] V1 V2 n cV c2 (bs.map fun (b : Nat) => (b : Int)) (bs.map fun (b : Nat) => (b : Int))) U p ⟨[⟨f, t, bs⟩, ⟨f, t, bs⟩], 4, 2⟩ := by
      refine ⟨S3, hIU, hfU.1, hfU.2.1, hfU.2.2.1, ⟨hk5, fun hs => ?_⟩, ?_, ?_⟩
      · have := hlS _ hs
        omega
      · rw [← cs_us8]
        exact hfU.2.2.2
      · rw [← cs_us8]
        refine ⟨own_low hrow5 hzw, fun k e hs => ?_⟩
        have h1 := (hrow5.lt k e).1
        have h2 := hlS _ hs
        omega
    have hkd : KpD w.heap.size b4 w4.heap.size V1 V2 := by
      have h1w : ∀ k, Row V1 k → k < w3.heap.size := fun k hk => (HM3.out.2.2.2.2.1.lt k (row_of.2 hk)).2
      have h2w : ∀ k, Row V2 k → w3.heap.size ≤ k ∧ k < w4.heap.size := fun k hk => hrow.lt k (row_of.2 hk)
      refine ⟨fun k hk => ⟨(HD4.out.1 k hk).1, (HD4.out.1 k hk).2, ?_, fun hk2 => ?_⟩, fun k hk => ⟨?_, ?_, ?_⟩⟩
      · have := h1w k hk
        omega
      · have := h1w k hk
        have := h2w k hk2
        omega
      · have h1 := h2w k hk
        have h2 := HD4.out.2.1
        omega
      · have h1 := h2w k hk
        omega
      · have h1 := h2w k hk
        omega
    obtain ⟨b5, hb5⟩ : ∃ b5, w4.heap.size = b5 := ⟨_, rfl⟩
    rw [hb5] at hmine hkd
    have HMI := Lib.hid hmine
    have HKD := Lib.hid hkd
    have HU := Lib.hid (And.intro hU hb5)
    have hcap : n ≤ cV ∧ cV ≤ 9223372036854775807 ∧ n ≤ c2 ∧ c2 ≤ 9223372036854775807 := by
      have h1 := Rd.own HM3.out.2.2.2.2.1
      have h2 := Rd.own hrow
      have h3 := h1.cap
      have h4 := h2.cap
      unfold maxLen at h3 h4
      exact ⟨h1.le, h3, h2.le, h4⟩
    clear hrow hb4 hba hk5 hrow5 hU hb3U hfU hIU hlS hz3 hzw hb4l hmine hkd hb5 HAT HM3
    go_upto_region 8 with fail
    rw [HU.out.1, HU.out.2]
    go_wp2_with fail
    go_loopw [7] (KpRel w p w.heap.size b4 b5 #[.int .i64 f, .int .i64 t, .slice A n c] #[.int .i64 f, .int .i64 t, .slice V1 n cV] #[.int .i64 f, .int .i64 t, .slice V2 n c2] V1 V2 n cV c2 ⟨[⟨f, t, bs⟩, ⟨f, t, bs⟩], 4, 2⟩) (fun i _ => n - (intOf i).toNat)
    case atStart => exact ⟨0, _, _, rfl, Nat.zero_le _, by rw [List.length_map, HN.out], by rw [List.length_map, HN.out], HMI.out⟩
    case round =>
      obtain ⟨k, z1, z2, rfl, hk, hl1, hl2, hm⟩ := hrel
      by_cases hlt : k < n
      · obtain ⟨S4, hI4, hF4⟩ := hm
        obtain ⟨d40, d41, d42⟩ := blk3 hF4.2.2.1.1
        obtain ⟨d50, d51, d52⟩ := blk3 hF4.2.2.2.1.1
        obtain ⟨g1, e1⟩ : ∃ g1, V1 = some ⟨g1, 0, none⟩ := by
          rcases hF4.2.2.2.2.1.1.2 with ⟨_, h0⟩ | ⟨g, cap, cur, e, _⟩
          · omega
          · injection e with e
            exact ⟨g, e⟩
        obtain ⟨g2, e2⟩ : ∃ g2, V2 = some ⟨g2, 0, none⟩ := by
          rcases hF4.2.2.2.2.2.1.2 with ⟨_, h0⟩ | ⟨g, cap, cur, e, _⟩
          · omega
          · injection e with e
            exact ⟨g, e⟩
        subst e1
        subst e2
        obtain ⟨x1, hx1⟩ : ∃ x, z1[k]? = some x := ⟨_, List.getElem?_eq_getElem (by omega)⟩
        obtain ⟨x2, hx2⟩ : ∃ x, z2[k]? = some x := ⟨_, List.getElem?_eq_getElem (by omega)⟩
        have q1 : wr.drew.cell? ⟨g1, k, none⟩ = some (.int .u8 x1) := by
          have h := hF4.2.2.2.2.1.1.cellAt k (by omega)
          unfold us8 at h
          rw [List.getElem?_map, hx1] at h
          exact h
        have f1 : wr.drew.frozen? ⟨g1, k, none⟩ = false := hF4.2.2.2.2.1.1.frozenAt k
        obtain ⟨y1, hy1⟩ : ∃ y, IntKind.u8.wrap (x1 + 1) = y := ⟨_, rfl⟩
        obtain ⟨y2, hy2⟩ : ∃ y, IntKind.u8.wrap (x2 + 3) = y := ⟨_, rfl⟩
        have hset1 := (kp_set1 (k := k) (x := y1) HKD.out (v := wr) ⟨S4, hI4, hF4⟩).bel (frame_kpf _ _ _ _ _ _ _ _ _ _ _ _ _ _) (Below.drew (Below.refl _ _))
        have HSP := Lib.hid (show wr.drew.cell? ⟨b4, 2, none⟩ = some (.slice (some ⟨g1, 0, none⟩) n cV) from d42)
        have HNE := Lib.hid (show ¬ g1 = b4 from (HKD.out.one g1 (Row.mk g1 0)).2.1)
        have HNF := Lib.hid (show ¬ g2 = b5 from (HKD.out.two g2 (Row.mk g2 0)).2.2)
        have HM1 := Lib.hid hset1
        have HX := Lib.hid (And.intro hx2 hy2)
        clear hI4 hF4 hx1 hx2 hset1 hy2 d40 d41 d50 d51 d52
        go_upto_region 11 with fail
        clear d42
        refine wp_region_held_drew (S := (fun w' => w'.cell? ⟨b4, 2, none⟩ = some (.slice (some ⟨g1, 0, none⟩) n cV))) (by kernel_rfl) (by first | (with_reducible exact HSE.out) | (with_reducible exact HSP.out)) (fun hHeld => ?_)
        refine held_take (i := 0) (d := 48) (v := (.pointer (some ⟨b4, 2, none⟩))) rfl rfl (by kernel_rfl) (by kernel_rfl) (by kernel_rfl) (fun _ _ _ h => h) (by kernel_rfl) (fun w hSw => by (obtain hS0 := hSw); go_simp) hHeld ?_
        try simp only [List.setIfInBounds_toArray, List.set_cons_zero, List.set_cons_succ]
        refine held_take (i := 1) (d := 49) (v := (.slice (some ⟨g1, 0, none⟩) n cV)) rfl rfl (by kernel_rfl) (by kernel_rfl) (by kernel_rfl) (fun _ _ _ h => h) (by kernel_rfl) (fun w hSw => by (obtain hS0 := hSw); go_simp) hHeld ?_
        try simp only [List.setIfInBounds_toArray, List.set_cons_zero, List.set_cons_succ]
        refine held_take (i := 2) (d := 50) (v := (.int .i64 (k : Int))) rfl rfl (by kernel_rfl) (by kernel_rfl) (by kernel_rfl) (fun _ _ _ h => h) (by kernel_rfl) (fun w hSw => by (obtain hS0 := hSw); go_simp) hHeld ?_
        try simp only [List.setIfInBounds_toArray, List.set_cons_zero, List.set_cons_succ]
        refine held_take (i := 3) (d := 51) (v := (.pointer (some ⟨b4, 2, none⟩))) rfl rfl (by kernel_rfl) (by kernel_rfl) (by kernel_rfl) (fun _ _ _ h => h) (by kernel_rfl) (fun w hSw => by (obtain hS0 := hSw); go_simp) hHeld ?_
        try simp only [List.setIfInBounds_toArray, List.set_cons_zero, List.set_cons_succ]
        refine held_take (i := 4) (d := 52) (v := (.slice (some ⟨g1, 0, none⟩) n cV)) rfl rfl (by kernel_rfl) (by kernel_rfl) (by kernel_rfl) (fun _ _ _ h => h) (by kernel_rfl) (fun w hSw => by (obtain hS0 := hSw); go_simp) hHeld ?_
        try simp only [List.setIfInBounds_toArray, List.set_cons_zero, List.set_cons_succ]
        refine held_take (i := 5) (d := 53) (v := (.int .i64 (k : Int))) rfl rfl (by kernel_rfl) (by kernel_rfl) (by kernel_rfl) (fun _ _ _ h => h) (by kernel_rfl) (fun w hSw => by (obtain hS0 := hSw); go_simp) hHeld ?_
        try simp only [List.setIfInBounds_toArray, List.set_cons_zero, List.set_cons_succ]
        refine held_take (i := 6) (d := 54) (v := (.pointer (some ⟨g1, k, none⟩))) rfl rfl (by kernel_rfl) (by kernel_rfl) (by kernel_rfl) (fun _ _ _ h => h) (by kernel_rfl) (fun w hSw => by (obtain hS0 := hSw); go_simp) hHeld ?_
        try simp only [List.setIfInBounds_toArray, List.set_cons_zero, List.set_cons_succ]
        refine wpAnyH_ready (rs := [7]) (by kernel_rfl) (by simp) ?_
        refine AllReadyH.cons rfl (fun K hK => ?_) AllReadyH.nil
        go_simp
        skip
        refine hK.out _ _ (by first | (with_reducible exact HSE.out) | (with_reducible exact HSP.out)) (fun hHeld => ?_)
        clear hK K
        refine held_take (i := 8) (d := 56) (v := (.int .u8 y1)) rfl rfl (by kernel_rfl) (by kernel_rfl) (by kernel_rfl) (fun _ _ _ h => h) (by kernel_rfl) (fun w hSw => by (obtain hS0 := hSw); go_simp) hHeld ?_
        try simp only [List.setIfInBounds_toArray, List.set_cons_zero, List.set_cons_succ]
        refine held_take (i := 9) (d := 57) (v := (.pointer (some ⟨g1, k, none⟩))) rfl rfl (by kernel_rfl) (by kernel_rfl) (by kernel_rfl) (fun _ _ _ h => h) (by kernel_rfl) (fun w hSw => by (obtain hS0 := hSw); go_simp) hHeld ?_
        try simp only [List.setIfInBounds_toArray, List.set_cons_zero, List.set_cons_succ]
        refine wpAnyH_ready (rs := [10]) (by kernel_rfl) (by simp) ?_
        refine AllReadyH.cons rfl (fun K hK => ?_) AllReadyH.nil
        go_simp
        have HSE := Lib.hid (show (wr.setCell ⟨g1, k, none⟩ (.int .u8 y1)).drew.cell? ⟨b4, 2, none⟩ = some (.slice (some ⟨g1, 0, none⟩) n cV) from (show (wr.setCell ⟨g1, k, none⟩ (.int .u8 y1)).cell? ⟨b4, 2, none⟩ = some (.slice (some ⟨g1, 0, none⟩) n cV) from (World.cell?_setCell_other _ _ _ _ (by simp; intro e; exact absurd e HNE.out)).trans HSP.out))
        refine hK.out _ _ (by first | (with_reducible exact HSE.out) | (with_reducible exact HSP.out)) (fun hHeld => ?_)
        clear hK K
        refine wpAnyH_done (by kernel_rfl) ?_ _
        clear q1 f1 hy1
        obtain ⟨wr1, hwr1⟩ : ∃ v, (wr.setCell ⟨g1, k, none⟩ (.int .u8 y1)).drew = v := ⟨_, rfl⟩
        have hm1 := HM1.out
        rw [hwr1] at hm1
        rw [hwr1]
        obtain ⟨S5, hI5, hF5⟩ := hm1
        obtain ⟨_, _, d52⟩ := blk3 hF5.2.2.2.1.1
        have q2 : wr1.drew.cell? ⟨g2, k, none⟩ = some (.int .u8 x2) := by
          have h := hF5.2.2.2.2.2.1.cellAt k (by omega)
          unfold us8 at h
          rw [List.getElem?_map, HX.out.1] at h
          exact h
        have f2 : wr1.drew.frozen? ⟨g2, k, none⟩ = false := hF5.2.2.2.2.2.1.frozenAt k
        have hy2 := HX.out.2
        have hset2 := (kp_set2 (k := k) (x := y2) HKD.out (v := wr1) ⟨S5, hI5, hF5⟩).bel (frame_kpf _ _ _ _ _ _ _ _ _ _ _ _ _ _) (Below.drew (Below.refl _ _))
        have HSQ := Lib.hid (show wr1.drew.cell? ⟨b5, 2, none⟩ = some (.slice (some ⟨g2, 0, none⟩) n c2) from d52)
        have HM2 := Lib.hid hset2
        clear hI5 hF5 hset2 d52 hwr1 HSP HM1 HSE
        go_upto_region 12 with fail
        refine wp_region_held_drew (S := (fun w' => w'.cell? ⟨b5, 2, none⟩ = some (.slice (some ⟨g2, 0, none⟩) n c2))) (by kernel_rfl) (by first | (with_reducible exact HSE.out) | (with_reducible exact HSQ.out)) (fun hHeld => ?_)
        refine held_take (i := 0) (d := 58) (v := (.pointer (some ⟨b5, 2, none⟩))) rfl rfl (by kernel_rfl) (by kernel_rfl) (by kernel_rfl) (fun _ _ _ h => h) (by kernel_rfl) (fun w hSw => by (obtain hS0 := hSw); go_simp) hHeld ?_
        try simp only [List.setIfInBounds_toArray, List.set_cons_zero, List.set_cons_succ]
        refine held_take (i := 1) (d := 59) (v := (.slice (some ⟨g2, 0, none⟩) n c2)) rfl rfl (by kernel_rfl) (by kernel_rfl) (by kernel_rfl) (fun _ _ _ h => h) (by kernel_rfl) (fun w hSw => by (obtain hS0 := hSw); go_simp) hHeld ?_
        try simp only [List.setIfInBounds_toArray, List.set_cons_zero, List.set_cons_succ]
        refine held_take (i := 2) (d := 60) (v := (.int .i64 (k : Int))) rfl rfl (by kernel_rfl) (by kernel_rfl) (by kernel_rfl) (fun _ _ _ h => h) (by kernel_rfl) (fun w hSw => by (obtain hS0 := hSw); go_simp) hHeld ?_
        try simp only [List.setIfInBounds_toArray, List.set_cons_zero, List.set_cons_succ]
        refine held_take (i := 3) (d := 61) (v := (.pointer (some ⟨b5, 2, none⟩))) rfl rfl (by kernel_rfl) (by kernel_rfl) (by kernel_rfl) (fun _ _ _ h => h) (by kernel_rfl) (fun w hSw => by (obtain hS0 := hSw); go_simp) hHeld ?_
        try simp only [List.setIfInBounds_toArray, List.set_cons_zero, List.set_cons_succ]
        refine held_take (i := 4) (d := 62) (v := (.slice (some ⟨g2, 0, none⟩) n c2)) rfl rfl (by kernel_rfl) (by kernel_rfl) (by kernel_rfl) (fun _ _ _ h => h) (by kernel_rfl) (fun w hSw => by (obtain hS0 := hSw); go_simp) hHeld ?_
        try simp only [List.setIfInBounds_toArray, List.set_cons_zero, List.set_cons_succ]
        refine held_take (i := 5) (d := 63) (v := (.int .i64 (k : Int))) rfl rfl (by kernel_rfl) (by kernel_rfl) (by kernel_rfl) (fun _ _ _ h => h) (by kernel_rfl) (fun w hSw => by (obtain hS0 := hSw); go_simp) hHeld ?_
        try simp only [List.setIfInBounds_toArray, List.set_cons_zero, List.set_cons_succ]
        refine held_take (i := 6) (d := 64) (v := (.pointer (some ⟨g2, k, none⟩))) rfl rfl (by kernel_rfl) (by kernel_rfl) (by kernel_rfl) (fun _ _ _ h => h) (by kernel_rfl) (fun w hSw => by (obtain hS0 := hSw); go_simp) hHeld ?_
        try simp only [List.setIfInBounds_toArray, List.set_cons_zero, List.set_cons_succ]
        refine wpAnyH_ready (rs := [7]) (by kernel_rfl) (by simp) ?_
        refine AllReadyH.cons rfl (fun K hK => ?_) AllReadyH.nil
        go_simp
        skip
        refine hK.out _ _ (by first | (with_reducible exact HSE.out) | (with_reducible exact HSQ.out)) (fun hHeld => ?_)
        clear hK K
        refine held_take (i := 8) (d := 66) (v := (.int .u8 y2)) rfl rfl (by kernel_rfl) (by kernel_rfl) (by kernel_rfl) (fun _ _ _ h => h) (by kernel_rfl) (fun w hSw => by (obtain hS0 := hSw); go_simp) hHeld ?_
        try simp only [List.setIfInBounds_toArray, List.set_cons_zero, List.set_cons_succ]
        refine held_take (i := 9) (d := 67) (v := (.pointer (some ⟨g2, k, none⟩))) rfl rfl (by kernel_rfl) (by kernel_rfl) (by kernel_rfl) (fun _ _ _ h => h) (by kernel_rfl) (fun w hSw => by (obtain hS0 := hSw); go_simp) hHeld ?_
        try simp only [List.setIfInBounds_toArray, List.set_cons_zero, List.set_cons_succ]
        refine wpAnyH_ready (rs := [10]) (by kernel_rfl) (by simp) ?_
        refine AllReadyH.cons rfl (fun K hK => ?_) AllReadyH.nil
        go_simp
        have HSE := Lib.hid (show (wr1.setCell ⟨g2, k, none⟩ (.int .u8 y2)).drew.cell? ⟨b5, 2, none⟩ = some (.slice (some ⟨g2, 0, none⟩) n c2) from (show (wr1.setCell ⟨g2, k, none⟩ (.int .u8 y2)).cell? ⟨b5, 2, none⟩ = some (.slice (some ⟨g2, 0, none⟩) n c2) from (World.cell?_setCell_other _ _ _ _ (by simp; intro e; exact absurd e HNF.out)).trans HSQ.out))
        refine hK.out _ _ (by first | (with_reducible exact HSE.out) | (with_reducible exact HSQ.out)) (fun hHeld => ?_)
        clear hK K
        refine wpAnyH_done (by kernel_rfl) ?_ _
        go_wp2_with fail
        go_roundw
        case rel => exact ⟨k + 1, _, _, by simp, by omega, by rw [List.length_set]; exact hl1, by rw [List.length_set]; exact hl2, HM2.out⟩
        case measure =>
          simp [intOf]
          omega
      · obtain ⟨S4, hI4, hF4⟩ := hm
        have hFr1 : Dsk.Frame (fun v S => FNew w v S ∧ FBlk w.heap.size 29 #[.int .i64 f, .int .i64 t, .slice A n c] v S) := (frame_new w).and (frame_blk _ _ _)
        have hat : Calls Try.prog 17 #[.pointer (some ⟨p, 0, none⟩), .int .i64 0] wr (fun e w' => Shows (some ⟨f, t, bs⟩) wr e w' ∧ Below wr.heap.size wr w') :=
          at_any p S4 ⟨[⟨f, t, bs⟩, ⟨f, t, bs⟩], 4, 2⟩ 0 wr hI4 (HFI.out 2 (by decide) (by decide) _ (by simp) (by simp))
        unfold Shows at hat
        simp only [Option.getD_some, Option.isSome_some, HN.out] at hat
        obtain ⟨_, _, d42⟩ := blk3 hF4.2.2.1.1
        have HAT := Lib.hid hat
        have HM4 := Lib.hid (And.intro hI4 (And.intro hF4.1 hF4.2.1))
        clear hI4 hF4 hat
        go_wp2_with fail
        refine HAT.out.mono ?_
        rintro e w5 ⟨⟨V8, c8, rfl, hrow⟩, hb5⟩
        have hba := bel_alloc (Below.refl w5.heap.size w5) (.cells #[.int .i64 f, .int .i64 t, .slice V8 n c8] 29)
        have hk8 := Blk.new w5 29 #[.int .i64 f, .int .i64 t, .slice V8 n c8]
        have hrow8 := hrow.alloc (.cells #[.int .i64 f, .int .i64 t, .slice V8 n c8] 29)
        obtain ⟨X, hX⟩ : ∃ X, w5.alloc (.cells #[.int .i64 f, .int .i64 t, .slice V8 n c8] 29) = X := ⟨_, rfl⟩
        rw [hX] at hba hk8 hrow8
        have hbX := hb5.trans (hba.mono hb5.size)
        have hlS := bi_low HM4.out.1
        have hz5 := hb5.size
        have hzw := HM4.out.2.1.2.size
        have hF8 : (FNew w X S4 ∧ FBlk w.heap.size 29 #[.int .i64 f, .int .i64 t, .slice A n c] X S4) ∧ (FBlk w5.heap.size 29 #[.int .i64 f, .int .i64 t, .slice V8 n c8] X S4 ∧ FOwn w.heap.size V8 n c8 (cs bs) X S4) := by
          refine ⟨hFr1.go HM4.out.2 (Keeps.ofBelow hbX) (Grew.refl S4 wr), ⟨hk8, fun hs => ?_⟩, own_low hrow8 hzw, fun k e hs => ?_⟩
          · have := hlS _ hs
            omega
          · have h1 := (hrow8.lt k e).1
            have h2 := hlS _ hs
            omega
        have hFr8 : Dsk.Frame (fun v S => (FNew w v S ∧ FBlk w.heap.size 29 #[.int .i64 f, .int .i64 t, .slice A n c] v S) ∧ (FBlk w5.heap.size 29 #[.int .i64 f, .int .i64 t, .slice V8 n c8] v S ∧ FOwn w.heap.size V8 n c8 (cs bs) v S)) := hFr1.and ((frame_blk _ _ _).and (frame_own _ _ _ _ _))
        have htk : Calls Try.prog 10 #[.pointer (some ⟨p, 0, none⟩), .int .i64 1] X (fun e w' => Shows (some ⟨f, t, bs⟩) X e w' ∧ BI w' S4 p ⟨[⟨f, t, bs⟩], 4, 2⟩ ∧ Keeps S4 X w') :=
          take_any p S4 ⟨[⟨f, t, bs⟩, ⟨f, t, bs⟩], 4, 2⟩ 1 X (bi_below HM4.out.1 hbX) (HFI.out 2 (by decide) (by decide) _ (by simp) (by simp))
        unfold Shows at htk
        simp only [Option.getD_some, Option.isSome_some, HN.out] at htk
        have HTK := Lib.hid htk
        have HF8 := Lib.hid hF8
        have HX := Lib.hid hX
        obtain ⟨b8, hb8⟩ : ∃ b8, w5.heap.size = b8 := ⟨_, rfl⟩
        rw [hb8] at hF8 HF8 hFr8
        have HB8 := Lib.hid hb8
        clear hrow hb5 hba hk8 hrow8 hX hbX hlS hz5 hzw hF8 htk HAT HM4 hb8 d42
        go_upto_region 14 with fail
        rw [HX.out, HB8.out]
        go_wp2_with fail
        refine HTK.out.mono ?_
        rintro e w6 ⟨⟨V9, c9, rfl, hrow⟩, hI6, hk6⟩
        have hF6 := hFr8.go HF8.out hk6 (Grew.refl S4 X)
        have hba := bel_alloc (Below.refl w6.heap.size w6) (.cells #[.int .i64 f, .int .i64 t, .slice V9 n c9] 29)
        have hk9 := Blk.new w6 29 #[.int .i64 f, .int .i64 t, .slice V9 n c9]
        have hrow9 := hrow.alloc (.cells #[.int .i64 f, .int .i64 t, .slice V9 n c9] 29)
        obtain ⟨Y, hY⟩ : ∃ Y, w6.alloc (.cells #[.int .i64 f, .int .i64 t, .slice V9 n c9] 29) = Y := ⟨_, rfl⟩
        rw [hY] at hba hk9 hrow9
        have hF9 := hFr8.go hF6 (Keeps.ofBelow hba) (Grew.refl S4 w6)
        obtain ⟨⟨hn9, hk1, _⟩, ⟨hk8, _⟩, hrow8, _⟩ := hF9
        have hrd : Rd Y A n c (cs bs) := HR.out.below hn9.2
        have hs1 : Calls Try.prog 11 #[.agg #[.int .i64 f, .int .i64 t, .slice V8 bs.length c8], .agg #[.int .i64 f, .int .i64 t, .slice A bs.length c]] Y (Tells true Y) :=
          refsame_any ⟨f, t, bs⟩ V8 A c8 c Y (by rw [HN.out]; exact Rd.own hrow8) (by rw [HN.out]; exact hrd)
        have hs2 : ∀ v, Below Y.heap.size Y v → Calls Try.prog 11 #[.agg #[.int .i64 f, .int .i64 t, .slice V9 bs.length c9], .agg #[.int .i64 f, .int .i64 t, .slice A bs.length c]] v (Tells true v) := fun v hv =>
          refsame_any ⟨f, t, bs⟩ V9 A c9 c v (by rw [HN.out]; exact (Rd.own hrow9).below hv) (by rw [HN.out]; exact hrd.below hv)
        rw [HN.out] at hs1 hs2
        obtain ⟨u0, u1, u2⟩ := blk3 hk1
        obtain ⟨v0, v1, v2⟩ := blk3 hk8
        have HY := Lib.hid hY
        obtain ⟨b9, hb9⟩ : ∃ b9, w6.heap.size = b9 := ⟨_, rfl⟩
        rw [hb9] at hk9
        have HB9 := Lib.hid hb9
        have HS1 := Lib.hid hs1
        have HS2 := Lib.hid hs2
        have HBL := Lib.hid (And.intro hn9.2 (And.intro hk1 hk9))
        clear hrow hI6 hk6 hF6 hba hk9 hrow9 hY hn9 hk1 hk8 hrow8 hrd hs1 hs2 hb9 HTK HF8
        go_upto_region 15 with fail
        rw [HY.out, HB9.out]
        go_wp2_with fail
        refine HS1.out.mono ?_
        rintro e w7 ⟨rfl, hb7⟩
        have hk17 := HBL.out.2.1.bel hb7
        have hk97 := HBL.out.2.2.bel hb7
        obtain ⟨u0, u1, u2⟩ := blk3 hk17
        obtain ⟨v0, v1, v2⟩ := blk3 hk97
        have HC := Lib.hid (HS2.out w7 hb7)
        have HB7 := Lib.hid (HBL.out.1.trans (hb7.mono HBL.out.1.size))
        clear hk17 hk97 hb7 HS1 HS2
        go_wp2_with fail
        refine HC.out.mono ?_
        rintro e w8 ⟨rfl, hb8⟩
        have HB8' := Lib.hid (HB7.out.trans (hb8.mono HB7.out.size))
        clear hb8 HC
        go_wp2_with fail
        refine (HAW.out _).mono ?_
        rintro e w9 ⟨rfl, hb9⟩
        have HB9' := Lib.hid (HB8'.out.trans (hb9.mono HB8'.out.size))
        clear hb9
        go_wp2_with fail
        go_ret
        exact ⟨rfl, HB9'.out⟩
end Go.Proofs.Ytgnpnjfoenmfbaa.Bg
