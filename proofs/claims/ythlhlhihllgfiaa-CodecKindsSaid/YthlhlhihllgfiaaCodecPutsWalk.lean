/-
  CodecPuts answers true: of any item the form that codec.Put answers is the document's.
-/
import Derived.Test.YthlhlhihllgfiaaCodAwake
import Derived.Test.YthlhlhihllgfiaaCodSize
namespace Go.Proofs.Ythlhlhihllgfiaa
open Go.RowKit Mem Cod

theorem small_form {w : World} {S : Nat → Prop} {x : It} {A : Option Addr} {c : Nat} (hl : Lies w S x A c) (h : wt x ≤ 600) : (form x).length ≤ 6000 := by
  have := length_form_le x hl.fit
  omega

set_option maxHeartbeats 2000000 in
theorem codecputs_true (x : It) (A : Option Addr) (c : Nat) (S : Nat → Prop) (w : World) (hl : Lies w S x A c) (hS : ∀ b, S b → b < w.heap.size) :
    Calls Try.prog 3 #[.agg #[.int .i64 x.kind, .int .u64 (x.num : Int), .string x.str, .slice A x.kids.length c]] w (Tells true w) := by
  have HL := Lib.hid hl
  have HS := Lib.hid hS
  clear hl hS
  go_enter Try.func3, Try.ntmps3
  go_wp2_with fail
  refine (sizeof_any 40 x A c S _ (by omega) (HL.out.alloc _)).mono ?_
  rintro e w1 ⟨r, rfl, r0, r1, hr, hb1⟩
  have HR := Lib.hid hr
  have hblk := (Blk.new w 25 #[.int .i64 x.kind, .int .u64 (x.num : Int), .string x.str, .slice A x.kids.length c]).bel hb1
  obtain ⟨c0, c1, c2, c3⟩ := blk4 hblk
  have HBLK := Lib.hid hblk
  have hbw1 : Below w.heap.size w w1 := (bel_alloc (Below.refl _ _) _).trans (hb1.mono (by rw [size_alloc]; omega))
  have hl1 := HL.out.below hbw1 HS.out
  have HL1 := Lib.hid hl1
  have HB1 := Lib.hid hbw1
  clear hr hblk hb1 hbw1 hl1
  by_cases h6 : 600 < r
  · go_wp2_with fail
    refine (awake_true _).mono ?_
    rintro e w2 ⟨rfl, hb2⟩
    go_wp2_with fail
    go_ret
    exact ⟨rfl, HB1.out.trans (hb2.mono HB1.out.size)⟩
  · have hwt : wt x ≤ 600 := by have := HR.out (by omega); omega
    have hfl := small_form HL.out hwt
    go_wp2_with fail
    refine (put_item x A c S w1 HL1.out (fun b hb => by have := HS.out b hb; have := HB1.out.size; omega) (by omega)).mono ?_
    rintro e w2 ⟨A2, n2, d2, rfl, hr2, hb2⟩
    obtain ⟨e0, e1, e2, e3⟩ := blk4 (HBLK.out.bel hb2)
    have hbw2 : Below w.heap.size w w2 := HB1.out.trans (hb2.mono HB1.out.size)
    have HR2 := Lib.hid hr2
    have HB2 := Lib.hid hbw2
    clear hr2 hb2 hbw2
    go_wp2_with fail
    refine (refputi_any x A c S w2 (by omega) (HL.out.below HB2.out HS.out)).mono ?_
    rintro e w3 ⟨A3, n3, d3, rfl, hr3, hb3⟩
    have hr2' := HR2.out.below hb3
    have HB3 := Lib.hid hb3
    have HR3 := Lib.hid hr3
    have HR2' := Lib.hid hr2'
    clear hr3 hr2' hb3
    generalize chk x 0 = v
    go_wp2_with fail
    refine (same_tells A2 A3 n2 n3 d2 d3 _ _ true _ HR2'.out HR3.out (by simp)).mono ?_
    rintro e w4 ⟨rfl, hb4⟩
    go_wp2_with fail
    refine (awake_true _).mono ?_
    rintro e w5 ⟨rfl, hb5⟩
    go_wp2_with fail
    go_ret
    refine ⟨rfl, bel_trans (bel_trans (bel_trans HB2.out HB3.out) hb4) hb5⟩
end Go.Proofs.Ythlhlhihllgfiaa
