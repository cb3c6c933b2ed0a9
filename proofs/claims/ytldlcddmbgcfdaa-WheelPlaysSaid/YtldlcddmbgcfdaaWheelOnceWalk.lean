/-
  Texts of earlier layers, as one.
-/
import Derived.Test.YtldlcddmbgcfdaaWhlAwake
import Derived.Lib.MinMax
/- The law of what was due: it is due no more. -/
namespace Go.Proofs.Ytldlcddmbgcfdaa.Wh
open Go.RowKit Mem Dsk

theorem set_len (x : List Tm) (t : Tm) : (setR x t).length ≤ x.length + 1 := by
  rw [(set_perm x t).length_eq, List.length_cons]
  have : (outR x t.i).length ≤ x.length := List.length_filter_le _ _
  omega
theorem mem_set {x : List Tm} {t y : Tm} : y ∈ setR x t ↔ y = t ∨ (y ∈ x ∧ y.i ≠ t.i) := by rw [(set_perm x t).mem_iff, List.mem_cons, mem_outR]
theorem due_all {x : List Tm} {now : Int} (h : ∀ t ∈ x, t.a ≤ now) : dueR x now = x.length := dueR_at (Nat.le_refl _) (fun t ht => h t (List.mem_of_mem_take ht)) (.inl (List.drop_eq_nil_of_le (Nat.le_refl _)))
/-- Three times set: how many are due then. -/
def onceX (i k : Int × Int) (a b : Int) : List Tm := setR (setR (setR [] ⟨i, a⟩) ⟨k, a⟩) ⟨i, b⟩
theorem once_len (i k : Int × Int) (a b : Int) : (onceX i k a b).length = if i = k then 1 else 2 := by
  unfold onceX
  rw [(set_perm _ _).length_eq, List.length_cons]
  have h1 : setR [] (⟨i, a⟩ : Tm) = [⟨i, a⟩] := rfl
  rw [h1]
  have h2 := out_perm (set_perm [(⟨i, a⟩ : Tm)] ⟨k, a⟩) i
  rw [h2.length_eq]
  by_cases e : i = k
  · subst e
    rw [if_pos rfl]
    simp [outR]
  · rw [if_neg e]
    have e' : ¬ k = i := fun h => e h.symm
    simp [outR, e, e']
theorem once_le (i k : Int × Int) (a b M : Int) (ha : a ≤ M) (hb : b ≤ M) : ∀ t ∈ onceX i k a b, t.a ≤ M := by
  intro t ht
  unfold onceX at ht
  rcases mem_set.1 ht with rfl | ⟨ht, _⟩
  · exact hb
  · rcases mem_set.1 ht with rfl | ⟨ht, _⟩
    · exact ha
    · rcases mem_set.1 ht with rfl | ⟨ht, _⟩
      · exact ha
      · cases ht
set_option maxRecDepth 20000 in
set_option maxHeartbeats 16000000 in
theorem wheelonce_true (i k : Int × Int) (a b : Int) (w : World) (hwi : Wf i) (hwk : Wf k) :
    Calls Try.prog 4 #[.agg #[.int .i64 i.1, .int .i64 i.2], .agg #[.int .i64 k.1, .int .i64 k.2], .int .i64 a, .int .i64 b] w (Tells true w) := by
  obtain ⟨M, hM⟩ : ∃ M : Int, max a b = M := ⟨_, rfl⟩
  have hmx : ∀ (W : World) (ts : Array TypeId) (ty : TypeId), (Builtin.max_ ts ty #[.int .i64 a, .int .i64 b]).run Try.prog W = .ok (.int .i64 M) W := fun W ts ty => by rw [Lib.run_max_ints, hM]
  have hle := once_le i k a b M (by omega) (by omega)
  have hol := once_len i k a b
  have hdu := due_all hle
  have hb0 := bel_alloc (bel_alloc (Below.refl w.heap.size w) (.cells #[.int .i64 i.1, .int .i64 i.2] 28)) (.cells #[.int .i64 k.1, .int .i64 k.2] 28)
  have hbi := (Blk.new w 28 #[.int .i64 i.1, .int .i64 i.2]).alloc (.cells #[.int .i64 k.1, .int .i64 k.2] 28)
  have hbk := Blk.new (w.alloc (.cells #[.int .i64 i.1, .int .i64 i.2] 28)) 28 #[.int .i64 k.1, .int .i64 k.2]
  have hsz : (w.alloc (.cells #[.int .i64 i.1, .int .i64 i.2] 28)).heap.size = w.heap.size + 1 := by simp
  rw [hsz] at hbk
  obtain ⟨W, hW⟩ : ∃ v, (w.alloc (.cells #[.int .i64 i.1, .int .i64 i.2] 28)).alloc (.cells #[.int .i64 k.1, .int .i64 k.2] 28) = v := ⟨_, rfl⟩
  have hsW : W.heap.size = w.heap.size + 2 := by rw [← hW]; simp
  rw [hW] at hb0 hbi hbk
  obtain ⟨b5, hb5⟩ : ∃ v, w.heap.size + 1 = v := ⟨_, rfl⟩
  rw [hb5] at hbk
  have hFr : Dsk.Frame (fun v S => FNew w v S ∧ (FBlk w.heap.size 28 #[.int .i64 i.1, .int .i64 i.2] v S ∧ FBlk b5 28 #[.int .i64 k.1, .int .i64 k.2] v S)) := (frame_new w).and ((frame_blk _ _ _).and (frame_blk _ _ _))
  have HN := Lib.hid (new_any W)
  have HF := Lib.hid (And.intro hb0 (And.intro hbi (And.intro hbk (And.intro hsW hb5))))
  have HWF := Lib.hid (And.intro hwi hwk)
  have HW := Lib.hid hW
  have HD := Lib.hid (And.intro hdu hol)
  clear hM hle hdu hol hb0 hbi hbk hsz hW hsW hb5 hwi hwk
  obtain ⟨i1, i2⟩ := i
  obtain ⟨k1, k2⟩ := k
  go_enter Try.func4, Try.ntmps4
  go_upto_region 1 with fail
  rw [HW.out, HF.out.2.2.2.2]
  go_wp2_with fail
  refine HN.out.mono ?_
  rintro e w1 ⟨p, S, rfl, hI, hl, hb⟩
  have hm0 : Mine (fun v S => FNew w v S ∧ (FBlk w.heap.size 28 #[.int .i64 i1, .int .i64 i2] v S ∧ FBlk b5 28 #[.int .i64 k1, .int .i64 k2] v S)) w1 p [] := by
    have hf := HF.out
    refine ⟨S, hI, ⟨fun j hj => by have := hl j hj; omega, hf.1.trans (hb.mono hf.1.size)⟩, ⟨hf.2.1.bel hb, fun hs => by have := hl _ hs; omega⟩, hf.2.2.1.bel hb, fun hs => by have := hl _ hs; omega⟩
  obtain ⟨S0, hI0, hF0⟩ := hm0
  obtain ⟨e0, e1⟩ := blk2 hF0.2.1.1
  have ha := set_mine hFr (i1, i2) a ⟨S0, hI0, hF0⟩ HWF.out.1 (by simp)
  have HA := Lib.hid ha
  unfold ptr at HA
  clear hI hl hb hI0 hF0 ha HN
  unfold ptr
  go_wp2_with fail
  refine HA.out.mono ?_
  rintro e w2 ⟨rfl, hm⟩
  obtain ⟨S2, hI2, hF2⟩ := hm
  obtain ⟨e0, e1⟩ := blk2 hF2.2.2.1
  have ha := set_mine hFr (k1, k2) a ⟨S2, hI2, hF2⟩ HWF.out.2 (by have := set_len [] (⟨(i1, i2), a⟩ : Tm); simp at this; omega)
  have HA := Lib.hid ha
  unfold ptr at HA
  clear hI2 hF2 ha
  go_wp2_with fail
  refine HA.out.mono ?_
  rintro e w3 ⟨rfl, hm⟩
  obtain ⟨S3, hI3, hF3⟩ := hm
  obtain ⟨e0, e1⟩ := blk2 hF3.2.1.1
  have ha := set_mine hFr (i1, i2) b ⟨S3, hI3, hF3⟩ HWF.out.1 (by have := set_len [] (⟨(i1, i2), a⟩ : Tm); have := set_len (setR [] (⟨(i1, i2), a⟩ : Tm)) (⟨(k1, k2), a⟩ : Tm); simp at *; omega)
  have HA := Lib.hid ha
  unfold ptr at HA
  clear hI3 hF3 ha
  go_wp2_with fail
  refine HA.out.mono ?_
  rintro e w4 ⟨rfl, hm⟩
  have hm : Mine (fun v S => FNew w v S ∧ (FBlk w.heap.size 28 #[.int .i64 i1, .int .i64 i2] v S ∧ FBlk b5 28 #[.int .i64 k1, .int .i64 k2] v S)) w4 p (onceX (i1, i2) (k1, k2) a b) := hm
  have hxl : (onceX (i1, i2) (k1, k2) a b).length ≤ 2 := by rw [HD.out.2]; split <;> omega
  have ha := due_mine hFr M hm (by omega)
  rw [HD.out.1, List.drop_eq_nil_of_le (Nat.le_refl _)] at ha
  obtain ⟨n, hn⟩ : ∃ n, (onceX (i1, i2) (k1, k2) a b).length = n := ⟨_, rfl⟩
  rw [hn] at ha
  have HA := Lib.hid ha
  have HNN := Lib.hid (show n = if (i1, i2) = (k1, k2) then 1 else 2 by rw [← hn]; exact HD.out.2)
  unfold ptr at HA
  clear hm hxl ha hn e0 e1 HD
  go_wp2_with fail
  refine HA.out.mono ?_
  rintro e w5 ⟨V, c, rfl, hm⟩
  have hm := hm.more (G := fun v S => FNew w v S ∧ (FBlk w.heap.size 28 #[.int .i64 i1, .int .i64 i2] v S ∧ FBlk b5 28 #[.int .i64 k1, .int .i64 k2] v S)) fun _ _ h => h.1
  have ha := due_mine hFr M hm (by simp)
  rw [show dueR [] M = 0 from rfl, List.drop_nil] at ha
  have HA := Lib.hid ha
  unfold ptr at HA
  clear hm ha
  go_wp2_with fail
  refine HA.out.mono ?_
  rintro e w6 ⟨V2, c2, rfl, hm⟩
  have hm := hm.more (G := fun v S => FNew w v S ∧ (FBlk w.heap.size 28 #[.int .i64 i1, .int .i64 i2] v S ∧ FBlk b5 28 #[.int .i64 k1, .int .i64 k2] v S)) fun _ _ h => h.1
  obtain ⟨S6, hI6, hF6⟩ := hm
  obtain ⟨e0, e1⟩ := blk2 hF6.2.1.1
  have ha := at_mine hFr (i1, i2) ⟨S6, hI6, hF6⟩ HWF.out.1 (by simp)
  rw [show atR [] (i1, i2) = none from rfl] at ha
  simp only [Option.getD_none, Option.isSome_none] at ha
  have HA := Lib.hid ha
  unfold ptr at HA
  clear hI6 hF6 ha
  go_wp2_with fail
  refine HA.out.mono ?_
  rintro e w7 ⟨rfl, hm, _⟩
  have hlen := len_mine hm
  simp only [List.length_nil] at hlen
  have hcn := cancel_mine hFr (i1, i2) hm HWF.out.1 (by simp)
  rw [show atR [] (i1, i2) = none from rfl, show outR [] (i1, i2) = [] from rfl] at hcn
  simp only [Option.isSome_none] at hcn
  obtain ⟨S7, hI7, hF7⟩ := hm
  obtain ⟨e0, e1⟩ := blk2 hF7.2.1.1
  obtain ⟨e2, e3⟩ := blk2 hF7.2.2.1
  obtain ⟨t, ht⟩ : ∃ t, decide ((i1, i2) = (k1, k2)) = t := ⟨_, rfl⟩
  have heq := eql_id (i1, i2) (k1, k2)
  rw [ht] at heq
  simp only at heq
  have HLEN := Lib.hid hlen
  have HCN := Lib.hid hcn
  have HAW := Lib.hid (fun W => wheel_awake W)
  have hnn := HNN.out
  unfold ptr at HLEN HCN
  cases t with
  | true =>
    rw [if_pos (of_decide_eq_true ht)] at hnn
    subst hnn
    clear hlen hcn hI7 hF7 ht HA
    go_wp2_with (first
      | (go_at_call 17; (with_reducible refine HLEN.out.mono ?_); rintro e w8 ⟨rfl, rfl⟩)
      | (go_at_call 12; (with_reducible refine HCN.out.mono ?_); rintro e w9 ⟨rfl, hm9⟩)
      | (go_at_call 6; (with_reducible refine (HAW.out _).mono ?_); rintro e w10 ⟨rfl, hb10⟩))
    go_ret
    obtain ⟨S9, _, hF9⟩ := hm9
    exact ⟨rfl, hF9.1.2.trans (hb10.mono hF9.1.2.size)⟩
  | false =>
    rw [if_neg (of_decide_eq_false ht)] at hnn
    subst hnn
    clear hlen hcn hI7 hF7 ht HA
    go_wp2_with (first
      | (go_at_call 17; (with_reducible refine HLEN.out.mono ?_); rintro e w8 ⟨rfl, rfl⟩)
      | (go_at_call 12; (with_reducible refine HCN.out.mono ?_); rintro e w9 ⟨rfl, hm9⟩)
      | (go_at_call 6; (with_reducible refine (HAW.out _).mono ?_); rintro e w10 ⟨rfl, hb10⟩))
    go_ret
    obtain ⟨S9, _, hF9⟩ := hm9
    exact ⟨rfl, hF9.1.2.trans (hb10.mono hF9.1.2.size)⟩
end Go.Proofs.Ytldlcddmbgcfdaa.Wh
