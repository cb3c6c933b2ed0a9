/-
  CodecGets answers true: any bytes are the item that the document says, or none, at the place.
-/
import Derived.Test.YthlhlhihllgfiaaCodRefGet
import Derived.Test.YthlhlhihllgfiaaCodecSameWalk
namespace Go.Proofs.Ythlhlhihllgfiaa
open Go.RowKit Mem Cod

set_option maxHeartbeats 2000000 in
theorem codecgets_true (A : Option Addr) (n c : Nat) (bs : List Nat) (w : World) (hr : Rd w A n c (cs bs)) (hb : ∀ x ∈ bs, x < 256) :
    Calls Try.prog 4 #[.slice A n c] w (Tells true w) := by
  have HR := Lib.hid hr
  have HB := Lib.hid hb
  clear hr hb
  by_cases h6 : 600 < (n : Int)
  · go_enter Try.func4, Try.ntmps4
    go_wp2_with fail
    refine (awake_true _).mono ?_
    rintro e w2 ⟨rfl, hb2⟩
    go_wp2_with fail
    go_ret
    exact ⟨rfl, hb2⟩
  · go_enter Try.func4, Try.ntmps4
    go_wp2_with fail
    refine (get_item bs A n c w HR.out HB.out (by omega)).mono ?_
    rintro e w1 ⟨X, cx, rfl, hlx, hb1⟩
    generalize hx : getX bs = x at hlx
    generalize hee : getE bs = er
    generalize hpp : getP bs = pl
    have HX := Lib.hid hx
    have HE := Lib.hid hee
    have HP := Lib.hid hpp
    have HLX := Lib.hid hlx
    have HB1 := Lib.hid hb1
    clear hx hee hpp hlx hb1
    go_wp2_with fail
    refine (refget_any bs A n c _ ((HR.out.below HB1.out).alloc _) HB.out (by omega)).mono ?_
    rintro e w2 ⟨Y, cy, rfl, hly, hb2⟩
    rw [HX.out, HE.out, HP.out]
    rw [HX.out] at hly
    have hbx := ((Blk.new w1 25 #[.int .i64 x.kind, .int .u64 (x.num : Int), .string x.str, .slice X x.kids.length cx]).bel hb2).alloc (.cells #[.int .i64 x.kind, .int .u64 (x.num : Int), .string x.str, .slice Y x.kids.length cy] 25)
    obtain ⟨c0, c1, c2, c3⟩ := blk4 hbx
    have hw12 : Below w1.heap.size w1 w2 := bel_trans (bel_alloc (Below.refl _ _) _) hb2
    have HLX2 := Lib.hid ((HLX.out.keep (w' := w2) (S' := fun b => b < w2.heap.size) x (fun b _ h => by have := hw12.size; omega) hw12.size fun p _ hp => hw12.cell hp).alloc (.cells #[.int .i64 x.kind, .int .u64 (x.num : Int), .string x.str, .slice Y x.kids.length cy] 25))
    have HLY := Lib.hid ((hly.more (S' := fun b => b < w2.heap.size) fun b _ h => h).alloc (.cells #[.int .i64 x.kind, .int .u64 (x.num : Int), .string x.str, .slice Y x.kids.length cy] 25))
    have HBW := Lib.hid (bel_alloc (bel_trans HB1.out hw12) (.cells #[.int .i64 x.kind, .int .u64 (x.num : Int), .string x.str, .slice Y x.kids.length cy] 25))
    clear hbx hw12 hly hb2
    go_wp2_with fail
    refine (refsame_item x x X Y cx cy (fun b => b < w2.heap.size) _ HLX2.out HLY.out (fun b h => by rw [size_alloc]; omega)).mono ?_
    rw [same_self]
    rintro e w3 ⟨rfl, hb3⟩
    go_wp2_with fail
    refine (awake_true _).mono ?_
    rintro e w4 ⟨rfl, hb4⟩
    go_wp2_with fail
    go_ret
    exact ⟨rfl, bel_trans (bel_trans HBW.out hb3) hb4⟩
end Go.Proofs.Ythlhlhihllgfiaa
