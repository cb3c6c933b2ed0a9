/-
  CodecBack answers true: what is put is read as it was; what is read is put as it was; cut off, or with a byte more, it isn't read.
-/
import Derived.Test.YthlhlhihllgfiaaCodGet
import Derived.Test.YthlhlhihllgfiaaCodecSameWalk
namespace Go.Proofs.Ythlhlhihllgfiaa
open Go.RowKit Mem Cod

theorem form_pos (x : It) (h : chk x 0 = 0) : 1 ≤ (form x).length := by
  have := wt_le_form x 0 h
  have := wt_pos x
  omega

theorem forms_mem {l : List It} {b : Nat} (h : b ∈ forms l) : ∃ y ∈ l, b ∈ form y := by
  induction l with
  | nil => simp [forms] at h
  | cons x l ih =>
    rw [forms, List.mem_append] at h
    rcases h with h | h
    · exact ⟨x, by simp, h⟩
    · obtain ⟨y, hy, hb⟩ := ih h
      exact ⟨y, by simp [hy], hb⟩
theorem form_bytes (x : It) : Fit x → ∀ b ∈ form x, b < 256 := by
  induction x using It.ind with
  | h x ih =>
  intro hf b hb
  obtain ⟨k, n, s, l⟩ := x
  rw [fit_eq] at hf
  simp only [It.num, It.str, It.kids] at hf ih
  rw [form] at hb
  split at hb
  · rcases List.mem_cons.1 hb with rfl | hb
    · omega
    · exact Num.put_lt n (by omega) b hb
  · split at hb
    · rcases List.mem_cons.1 hb with rfl | hb
      · omega
      · rcases List.mem_append.1 hb with hb | hb
        · exact Num.put_lt _ (by omega) b hb
        · exact bts_lt s b hb
    · rcases List.mem_cons.1 hb with rfl | hb
      · omega
      · rcases List.mem_append.1 hb with hb | hb
        · exact Num.put_lt _ (by omega) b hb
        · obtain ⟨y, hy, hb⟩ := forms_mem hb
          exact ih y hy (hf.2.2.2 y hy) b hb

set_option maxRecDepth 100000 in
set_option maxHeartbeats 4000000 in
theorem codecback_true (x : It) (A B : Option Addr) (c m d : Nat) (k : Int) (bs : List Nat) (S : Nat → Prop) (w : World) (hl : Lies w S x A c) (hS : ∀ b, S b → b < w.heap.size) (hr : Rd w B m d (cs bs)) (hbs : ∀ x ∈ bs, x < 256) :
    Calls Try.prog 5 #[.agg #[.int .i64 x.kind, .int .u64 (x.num : Int), .string x.str, .slice A x.kids.length c], .slice B m d, .int .i64 k] w (Tells true w) := by
  obtain ⟨i0, hi, hz0, hz1, hz2⟩ := info_parts info5
  have HL := Lib.hid hl
  have HS := Lib.hid hS
  have HR := Lib.hid hr
  have HBS := Lib.hid hbs
  clear hl hS hr hbs
  go_enter Try.func5, Try.ntmps5
  go_wp2_with fail
  refine (sizeof_any 40 x A c S _ (by omega) (HL.out.alloc _)).mono ?_
  rintro e w1 ⟨r, rfl, r0, r1, hr, hb1⟩
  have HSZ := Lib.hid hr
  have hblk := (Blk.new w 25 #[.int .i64 x.kind, .int .u64 (x.num : Int), .string x.str, .slice A x.kids.length c]).bel hb1
  obtain ⟨c0, c1, c2, c3⟩ := blk4 hblk
  have HBLK := Lib.hid hblk
  have hbw1 : Below w.heap.size w w1 := (bel_alloc (Below.refl _ _) _).trans (hb1.mono (by rw [size_alloc]; omega))
  have HB1 := Lib.hid hbw1
  clear hr hblk hb1 hbw1
  by_cases h6 : 600 < r
  · go_wp2_with fail
    refine (awake_true _).mono ?_
    rintro e w2 ⟨rfl, hb2⟩
    go_wp2_with fail
    go_ret
    exact ⟨rfl, bel_trans HB1.out hb2⟩
  · have hwt : wt x ≤ 600 := by have := HSZ.out (by omega); omega
    have h6' : decide (600 < r) = false := by simpa using h6
    have hfl := small_form HL.out hwt
    by_cases h7 : 600 < (m : Int)
    · go_wp2_with fail
      refine (awake_true _).mono ?_
      rintro e w2 ⟨rfl, hb2⟩
      go_wp2_with fail
      go_ret
      exact ⟨rfl, bel_trans HB1.out hb2⟩
    · have h7' : decide (600 < (m : Int)) = false := by simpa using h7
      go_wp2_with fail
      refine (put_item x A c S w1 (HL.out.below HB1.out HS.out) (fun b hb => by have := HS.out b hb; have := HB1.out.size; omega) (by omega)).mono ?_
      rintro e w2 ⟨P, n, cp, rfl, hr2, hb2⟩
      have hblk2 := HBLK.out.bel hb2
      have hbw2 := bel_trans HB1.out hb2
      clear c0 c1 c2 c3 HBLK HB1 hb2
      have HBLK := Lib.hid hblk2
      have HB2 := Lib.hid hbw2
      clear hblk2 hbw2
      by_cases hc0 : chk x 0 = 0
      · rw [hc0]
        rw [if_pos hc0] at hr2
        have hfp := form_pos x hc0
        have hnf : (form x).length = n := by have := hr2.len; rwa [length_cs] at this
        have HC0 := Lib.hid hc0
        have HR2 := Lib.hid hr2
        have HNF := Lib.hid hnf
        have hn1 : 1 ≤ n := by omega
        have hn2 : n ≤ 6000 := by omega
        clear hc0 hr2 hnf
        go_wp2_with fail
        refine (get_yes (get_form HC0.out HL.out.fit (by omega)) P n cp w2 HR2.out (form_bytes x HL.out.fit) (by omega)).mono ?_
        rintro e w3 ⟨Y, cy, rfl, hly, hb3⟩
        have HLY := Lib.hid hly
        have HB3 := Lib.hid hb3
        clear hly hb3
        go_wp2_with fail
        obtain ⟨hq0, hq1⟩ := pick_lt k n (by omega)
        refine (pick_any k n _ (by omega) (by omega)).mono ?_
        rintro e w4 ⟨rfl, rfl⟩
        have hcp := HR2.out.le
        have hq2 : pick k n ≤ (cp : Int) := by omega
        go_wp2_with fail
        have hrp := (HR2.out.below HB3.out).alloc (.cells #[.int .i64 x.kind, .int .u64 (x.num : Int), .string x.str, .slice Y x.kids.length cy] 25)
        have hr4 := hrp.take (k := (pick k n).toNat) (by omega)
        rw [cs_take] at hr4
        obtain ⟨qp, hqp⟩ := get_cut (j := (pick k n).toNat) HC0.out HL.out.fit (by omega) (by have := HNF.out; omega)
        refine (get_no hqp P (pick k n).toNat cp _ hr4 (fun z hz => form_bytes x HL.out.fit z (List.mem_of_mem_take hz)) (by omega)).mono ?_
        rintro e w5 ⟨Z, cz, rfl, hb5⟩
        clear hqp hr4
        have HRP := Lib.hid hrp
        have HB5 := Lib.hid hb5
        clear hrp hb5
        have hown5 : ((w5.alloc (.cells #[.int .i64 0, .int .u64 0, .string ByteArray.empty, .slice Z 0 cz] 25)).alloc (.cells #[] 5)).ownsRow w5.heap.size 5 1 (.slice (some ⟨w5.heap.size + 1, 0, none⟩) 0 0) 0 [] := by
          have := World.ownsRow_lit (base := w5.heap.size) (e := 5) (size := 1) (w5.alloc (.cells #[.int .i64 0, .int .u64 0, .string ByteArray.empty, .slice Z 0 cz] 25)) #[] 0 (by rw [size_alloc]; omega) (by simp [maxLen]) rfl
          rwa [size_alloc] at this
        have HO5 := Lib.hid hown5
        clear hown5
        go_wp2_with (first
          | (at_builtin; refine wpList_append_rd rfl (.tmp 57) (.tmp 58) 28 rfl w5.heap.size 5 i0 _ 1 Try.underlying28 hi hz0 hz1 hz2 rfl _ 0 0 [] rfl HO5.out P n cp (cs (form x)) rfl (((HRP.out.below HB5.out).alloc _).alloc _) (cs_one _) (by unfold maxLen; omega) (by omega) (by simp only [size_alloc]; omega) ?_; intro V6 c6 w6 hown6 hb6; simp only [Nat.zero_add, List.nil_append] at hown6; have hb56 : Below w5.heap.size w5 w6 := (bel_alloc (bel_alloc (Below.refl _ _) _) _).trans hb6; clear hb6)
          | (at_builtin; refine wpList_append_rd rfl (.tmp 59) (.tmp 60) 28 rfl w5.heap.size 5 i0 _ 1 Try.underlying28 hi hz0 hz1 hz2 rfl V6 n c6 (cs (form x)) rfl (hown6.alloc _) _ 1 1 [.int .u8 0] rfl (Rd.one _ _ _) (by intro u hu; simp at hu; subst hu; rfl) (by unfold maxLen; omega) (by omega) (by rw [size_alloc]; have := hb56.size; omega) ?_; intro V7 c7 w7 hown7 hb7; have hb57 : Below w5.heap.size w5 w7 := (bel_alloc hb56 _).trans hb7; clear hb7 hb56 hown6)
          | fail)
        have hr7 := Rd.own hown7
        rw [show [Value.int .u8 0] = cs [0] from rfl, ← cs_append] at hr7
        have HR7 := Lib.hid hr7
        have HB7 := Lib.hid hb57
        clear hown7 hr7 hb57
        refine (get_no (get_more (c := 0) HC0.out HL.out.fit (by omega)) V7 (n + 1) c7 _ HR7.out (fun z hz => (List.mem_append.1 hz).elim (form_bytes x HL.out.fit z) (fun h => by simp at h; omega)) (by omega)).mono ?_
        rintro e w8 ⟨U, cu, rfl, hb8⟩
        rw [HNF.out]
        have hbx8 := ((((HBLK.out.bel HB3.out).alloc (.cells #[.int .i64 x.kind, .int .u64 (x.num : Int), .string x.str, .slice Y x.kids.length cy] 25)).bel HB5.out).bel HB7.out).bel hb8
        have hby8 := (((Blk.new w3 25 #[.int .i64 x.kind, .int .u64 (x.num : Int), .string x.str, .slice Y x.kids.length cy]).bel HB5.out).bel HB7.out).bel hb8
        have hw38 : Below w3.heap.size w3 w8 := bel_trans (bel_trans (bel_trans (bel_alloc (Below.refl _ _) _) HB5.out) HB7.out) hb8
        have hw8 : Below w.heap.size w w8 := bel_trans (bel_trans HB2.out HB3.out) hw38
        have hly8 := HLY.out.keep (w' := w8) (S' := fun b => b < w8.heap.size) x (fun b _ h => by have := hw38.size; omega) hw38.size fun p _ hp => hw38.cell hp
        obtain ⟨c0, c1, c2, c3⟩ := blk4 (hbx8.alloc (.cells #[.int .i64 0, .int .u64 0, .string ByteArray.empty, .slice U 0 cu] 25))
        obtain ⟨d0, d1, d2, d3⟩ := blk4 (hby8.alloc (.cells #[.int .i64 0, .int .u64 0, .string ByteArray.empty, .slice U 0 cu] 25))
        have HLY8 := Lib.hid hly8
        have HW8 := Lib.hid hw8
        clear hbx8 hby8 hw38 hw8 hly8 hb8 HB5 HB7 HRP HR7 HLY HB3 HO5
        go_wp2_with fail
        refine (same_item x x A Y c cy (fun b => b < w8.heap.size) _ (((HL.out.below HW8.out HS.out).more fun b _ h => h).alloc _) (HLY8.out.alloc _) (fun b h => by rw [size_alloc]; omega) (by omega)).mono ?_
        rw [same_self]
        rintro e w9 ⟨rfl, hb9⟩
        have HWN := Lib.hid (bel_trans (bel_alloc HW8.out (.cells #[.int .i64 0, .int .u64 0, .string ByteArray.empty, .slice U 0 cu] 25)) hb9)
        clear hb9 c0 c1 c2 c3 d0 d1 d2 d3 HLY8 HW8
        go_wp2_with fail
        cases hget : Cod.get bs with
        | bad er q =>
          refine (get_no hget B m d _ (HR.out.below HWN.out) HBS.out (by omega)).mono ?_
          rintro e w10 ⟨Z0, cz0, rfl, hb10⟩
          have hne : ((er : Int) != 0) = true := by rw [bne_iff_ne]; have := get_bad_ne hget; omega
          clear hget
          go_wp2_with fail
          refine (awake_true _).mono ?_
          rintro e w11 ⟨rfl, hb11⟩
          go_wp2_with fail
          go_ret
          exact ⟨rfl, bel_trans (bel_alloc (bel_trans HWN.out hb10) _) hb11⟩
        | ok y q =>
          obtain ⟨hy0, hyf, hyb⟩ := get_good HBS.out hget
          refine (get_yes hget B m d _ (HR.out.below HWN.out) HBS.out (by omega)).mono ?_
          rintro e w10 ⟨Z0, cz0, rfl, hly, hb10⟩
          have HLZ := Lib.hid (hly.more (S' := fun b => b < w10.heap.size) fun b _ h => h)
          have HB10 := Lib.hid hb10
          have hlb := HR.out.len
          rw [length_cs] at hlb
          have HY0 := Lib.hid hy0
          have HYB := Lib.hid hyb
          have HLB := Lib.hid hlb
          clear hget hy0 hyf hyb hly hb10 hlb
          go_wp2_with fail
          refine (put_item y Z0 cz0 _ _ (HLZ.out.alloc _) (fun b hb => by rw [size_alloc]; omega) (by rw [HYB.out, HLB.out]; omega)).mono ?_
          rintro e w11 ⟨P1, n1, cp1, rfl, hr11, hb11⟩
          rw [if_pos HY0.out, HYB.out] at hr11
          rw [HY0.out]
          have HR11 := Lib.hid hr11
          have hbw11 : Below w.heap.size w w11 := bel_trans (bel_alloc (bel_trans HWN.out HB10.out) _) hb11
          have HW11 := Lib.hid hbw11
          clear hr11 hb11 hbw11
          go_wp2_with fail
          refine (same_tells P1 B n1 m cp1 d _ _ true _ HR11.out (HR.out.below HW11.out) (by simp)).mono ?_
          rintro e w12 ⟨rfl, hb12⟩
          go_wp2_with fail
          refine (awake_true _).mono ?_
          rintro e w13 ⟨rfl, hb13⟩
          go_wp2_with fail
          go_ret
          exact ⟨rfl, bel_trans (bel_trans HW11.out hb12) hb13⟩
      · have hne0 : (((chk x 0 : Nat) : Int) == 0) = false := by rw [beq_eq_false_iff_ne]; omega
        generalize ((chk x 0 : Nat) : Int) = v0 at hne0
        have HWN := HB2
        clear hc0 hr2
        go_wp2_with fail
        cases hget : Cod.get bs with
        | bad er q =>
          refine (get_no hget B m d _ (HR.out.below HWN.out) HBS.out (by omega)).mono ?_
          rintro e w10 ⟨Z0, cz0, rfl, hb10⟩
          have hne : ((er : Int) != 0) = true := by rw [bne_iff_ne]; have := get_bad_ne hget; omega
          clear hget
          go_wp2_with fail
          refine (awake_true _).mono ?_
          rintro e w11 ⟨rfl, hb11⟩
          go_wp2_with fail
          go_ret
          exact ⟨rfl, bel_trans (bel_alloc (bel_trans HWN.out hb10) _) hb11⟩
        | ok y q =>
          obtain ⟨hy0, hyf, hyb⟩ := get_good HBS.out hget
          refine (get_yes hget B m d _ (HR.out.below HWN.out) HBS.out (by omega)).mono ?_
          rintro e w10 ⟨Z0, cz0, rfl, hly, hb10⟩
          have HLZ := Lib.hid (hly.more (S' := fun b => b < w10.heap.size) fun b _ h => h)
          have HB10 := Lib.hid hb10
          have hlb := HR.out.len
          rw [length_cs] at hlb
          have HY0 := Lib.hid hy0
          have HYB := Lib.hid hyb
          have HLB := Lib.hid hlb
          clear hget hy0 hyf hyb hly hb10 hlb
          go_wp2_with fail
          refine (put_item y Z0 cz0 _ _ (HLZ.out.alloc _) (fun b hb => by rw [size_alloc]; omega) (by rw [HYB.out, HLB.out]; omega)).mono ?_
          rintro e w11 ⟨P1, n1, cp1, rfl, hr11, hb11⟩
          rw [if_pos HY0.out, HYB.out] at hr11
          rw [HY0.out]
          have HR11 := Lib.hid hr11
          have hbw11 : Below w.heap.size w w11 := bel_trans (bel_alloc (bel_trans HWN.out HB10.out) _) hb11
          have HW11 := Lib.hid hbw11
          clear hr11 hb11 hbw11
          go_wp2_with fail
          refine (same_tells P1 B n1 m cp1 d _ _ true _ HR11.out (HR.out.below HW11.out) (by simp)).mono ?_
          rintro e w12 ⟨rfl, hb12⟩
          go_wp2_with fail
          refine (awake_true _).mono ?_
          rintro e w13 ⟨rfl, hb13⟩
          go_wp2_with fail
          go_ret
          exact ⟨rfl, bel_trans (bel_trans HW11.out hb12) hb13⟩
end Go.Proofs.Ythlhlhihllgfiaa
