/-
  Texts of earlier layers, as one.
-/
import Derived.Test.YtgnpnjfoenmfbaaProg
import Derived.Test.YtgnpnjfoenmfbaaBagOwn
import Derived.Test.YtgnpnjfoenmfbaaRNum
import Derived.Test.YtgnpnjfoenmfbaaRBase
import Derived.Deep.RegionHeld
import Derived.Deep.Cut
import Derived.Lib.MinMax
import Derived.Lib.SliceRun
import Derived.Laws.Pointers
import Derived.Maps.OwnSet
/- The library's Clone of bytes; bag.copied; the questions that a bag's closures ask; the document's Room and Same. -/
namespace Go.Proofs.Ytgnpnjfoenmfbaa.Bg
open Go.RowKit Mem Dsk

theorem wr64 {x : Int} (h : -9223372036854775808 ≤ x) (h' : x ≤ 9223372036854775807) : IntKind.i64.wrap x = x := by
  simp [IntKind.wrap, IntKind.bits, IntKind.signed]
  omega
theorem four {w : World} {g o : Nat} {x : Pe} (h : w.rangeAt g o (encP x)) : w.cell? ⟨g, o, none⟩ = some (.int .i64 x.k) ∧ w.cell? ⟨g, o + 1, none⟩ = some (.int .i64 x.e.f) ∧ w.cell? ⟨g, o + 2, none⟩ = some (.int .i64 x.e.t) ∧ w.cell? ⟨g, o + 3, none⟩ = some (.slice x.A x.e.bs.length x.c) :=
  ⟨h 0 _ rfl, h 1 _ rfl, h 2 _ rfl, h 3 _ rfl⟩
theorem info_u8 : (Try.prog.info? 5).map (fun i => (i.zero, i.size, i.bytes)) = some (some (.int .u8 0), 1, 1) := by kernel_rfl
theorem set_grown (w : World) (g i : Nat) (v : Value) : w.grownBy (w.setCell ⟨g, i, none⟩ v) (some g) :=
  ⟨rfl, rfl, rfl, by simp, fun k _ hne => Below.heap_setCell w ⟨g, i, none⟩ _ k fun e => hne (by rw [e])⟩
theorem blk3 {w : World} {g : Nat} {t : TypeId} {a b c : Value} (h : Blk w g t #[a, b, c]) : w.cell? ⟨g, 0, none⟩ = some a ∧ w.cell? ⟨g, 1, none⟩ = some b ∧ w.cell? ⟨g, 2, none⟩ = some c := ⟨h.cell 0, h.cell 1, h.cell 2⟩
theorem blk4 {w : World} {g : Nat} {t : TypeId} {a b c d : Value} (h : Blk w g t #[a, b, c, d]) : w.cell? ⟨g, 0, none⟩ = some a ∧ w.cell? ⟨g, 1, none⟩ = some b ∧ w.cell? ⟨g, 2, none⟩ = some c ∧ w.cell? ⟨g, 3, none⟩ = some d := ⟨h.cell 0, h.cell 1, h.cell 2, h.cell 3⟩
set_option maxRecDepth 20000 in
set_option maxHeartbeats 4000000 in
theorem bclone_any (A : Option Addr) (n c : Nat) (bs : List Nat) (w : World) (hr : Rd w A n c (cs bs)) (hn : n ≤ 1099511627776) :
    Calls Try.prog 26 #[.slice A n c] w (fun e w' => ∃ A' c', e = .returned (.slice A' n c') ∧ w'.ownsRow w.heap.size 5 1 (.slice A' n c') n (cs bs) ∧ Below w.heap.size w w') := by
  obtain ⟨i0, hi, hz0, hz1, hz2⟩ := info_parts info_u8
  have hnil := fun (u : World) (A : Option Addr) (n c : Nat) => Lib.run_eql_slice_nil (P := Try.prog) u 27 5 A n c 0 0 Try.underlying27
  cases A with
  | none =>
    have hc : c = 0 := hr.nil rfl
    have hn0 : n = 0 := by have := hr.le; omega
    subst hc
    subst hn0
    have hbs : cs bs = [] := List.eq_nil_of_length_eq_zero hr.len
    rw [hbs]
    clear hr hn
    go_enter Try.func26, Try.ntmps26
    go_wp2_with fail
    go_ret
    exact ⟨none, 0, rfl, World.ownsRow_nil _ _ _ _, Below.refl _ _⟩
  | some ad =>
    have HR := Lib.hid (show Rd (w.alloc (.cells #[] 5)) (some ad) n c (cs bs) from hr.alloc _)
    have HO := Lib.hid (show (w.alloc (.cells #[] 5)).ownsRow w.heap.size 5 1 (.slice (some ⟨w.heap.size, 0, none⟩) 0 0) 0 [] from ⟨rfl, .inr ⟨w.heap.size, 0, #[], rfl, Nat.le_refl _, heap_alloc_new w _, Nat.le_refl _, by unfold maxLen; omega, rfl, rfl⟩⟩)
    have HW := Lib.hid (bel_alloc (Below.refl w.heap.size w) (.cells #[] 5))
    clear hr
    go_enter Try.func26, Try.ntmps26
    go_wp2_with (first
      | (at_builtin; refine wpList_append_rd rfl (.tmp 5) (.tmp 6) 27 rfl w.heap.size 5 i0 _ 1 Try.underlying27 hi hz0 hz1 hz2 rfl (some ⟨w.heap.size, 0, none⟩) 0 0 [] (by rfl) HO.out (some ad) n c (cs bs) (by rfl) HR.out (cs_one _) (by unfold maxLen; omega) (by omega) HW.out.size ?_; intro V' c' w' hown hb)
      | fail)
    have HO2 := Lib.hid hown
    have HB2 := Lib.hid hb
    clear hown hb
    go_wp2_with fail
    go_ret
    have h := HO2.out
    rw [List.nil_append, Nat.zero_add] at h
    exact ⟨V', c', by simp, h, HW.out.trans HB2.out⟩
/-- An envelope with bytes of its own. -/
def Copies (x : En) (w : World) (e : Ending) (w' : World) : Prop :=
  ∃ A c, e = .returned (.agg #[.int .i64 x.f, .int .i64 x.t, .slice A x.bs.length c]) ∧ w'.ownsRow w.heap.size 5 1 (.slice A x.bs.length c) x.bs.length (cs x.bs) ∧ Below w.heap.size w w'
theorem own_low {w : World} {B B' : Nat} {e : TypeId} {s : Nat} {v : Value} {n : Nat} {xs : List Value} (h : w.ownsRow B e s v n xs) (hB : B' ≤ B) : w.ownsRow B' e s v n xs := by
  refine ⟨h.1, ?_⟩
  rcases h.2 with e | ⟨g, cap, cur, e, hb, r⟩
  · exact .inl e
  · exact .inr ⟨g, cap, cur, e, by omega, r⟩
set_option maxRecDepth 20000 in
set_option maxHeartbeats 4000000 in
theorem copied_any (x : En) (A : Option Addr) (c : Nat) (w : World) (hr : Rd w A x.bs.length c (cs x.bs)) (hn : x.bs.length ≤ 1000000) :
    Calls Try.prog 18 #[.agg #[.int .i64 x.f, .int .i64 x.t, .slice A x.bs.length c]] w (Copies x w) := by
  obtain ⟨f, t, bs⟩ := x
  simp only at hr hn
  obtain ⟨n, hbn⟩ : ∃ n, bs.length = n := ⟨_, rfl⟩
  rw [hbn] at hr hn
  unfold Copies
  simp only [hbn]
  have hk1 := (Blk.new w 29 #[.int .i64 f, .int .i64 t, .slice A n c]).alloc (.cells #[.int .i64 0, .int .i64 0, .slice none 0 0] 29)
  have hk2 := Blk.new (w.alloc (.cells #[.int .i64 f, .int .i64 t, .slice A n c] 29)) 29 #[.int .i64 0, .int .i64 0, .slice none 0 0]
  have hb0 := bel_alloc (bel_alloc (Below.refl w.heap.size w) (.cells #[.int .i64 f, .int .i64 t, .slice A n c] 29)) (.cells #[.int .i64 0, .int .i64 0, .slice none 0 0] 29)
  rw [size_alloc] at hk2
  obtain ⟨W, hW⟩ : ∃ v, (w.alloc (.cells #[.int .i64 f, .int .i64 t, .slice A n c] 29)).alloc (.cells #[.int .i64 0, .int .i64 0, .slice none 0 0] 29) = v := ⟨_, rfl⟩
  have hs0 : W.heap.size = w.heap.size + 2 := by rw [← hW]; simp
  rw [hW] at hk1 hk2 hb0
  obtain ⟨c0, c1, c2⟩ := blk3 hk1
  have HC := Lib.hid (bclone_any A n c bs W (hr.below hb0) (by omega))
  have HK := Lib.hid (And.intro hk1 hk2)
  have HB := Lib.hid (And.intro hb0 hs0)
  have HW := Lib.hid hW
  clear hr hk1 hk2 hb0 hs0 hW hbn
  go_enter Try.func18, Try.ntmps18
  go_upto_region 1 with fail
  rw [HW.out]
  go_wp2_with fail
  refine HC.out.mono ?_
  rintro e u ⟨A2, c3, rfl, ho, hb⟩
  have hz := hb.size
  have hk1 := HK.out.1.bel hb
  have hk2 := HK.out.2.bel hb
  have hk3 : Blk (u.setCell ⟨w.heap.size, 2, none⟩ (.slice A2 n c3)) w.heap.size 29 #[.int .i64 f, .int .i64 t, .slice A2 n c3] := by simpa using hk1.put 2 (.slice A2 n c3)
  have hg3 := set_grown u w.heap.size 2 (.slice A2 n c3)
  have f2 := hk1.soft 2
  obtain ⟨d0, d1, d2⟩ := blk3 hk1
  have HK3 := Lib.hid hk3
  have HK2 := Lib.hid hk2
  have HO := Lib.hid ho
  have HBU := Lib.hid (And.intro (HB.out.1.trans (hb.mono (by have := HB.out.2; omega))) (And.intro hz HB.out.2))
  have HG3 := Lib.hid hg3
  clear hk1 hk2 hk3 hg3 ho hb HC
  go_upto_region 2 with fail
  obtain ⟨u3, hu3⟩ : ∃ v, u.setCell ⟨w.heap.size, 2, none⟩ (.slice A2 n c3) = v := ⟨_, rfl⟩
  rw [hu3] at HK3 HG3 ⊢
  have HK4 := Lib.hid (HK2.out.grown HG3.out (by simp))
  have HU := Lib.hid hu3
  obtain ⟨d0, d1, d2⟩ := blk3 HK3.out
  clear hu3 f2 hz c0 c1 c2
  go_upto_region 3 with (with_reducible refine wpList_store_blk rfl 29 (.tmp 2) (.tmp 7) rfl (w.heap.size + 1) 29 #[.int .i64 0, .int .i64 0, .slice none 0 0] #[.int .i64 f, .int .i64 t, .slice A2 n c3] rfl rfl HK4.out (by kernel_rfl) rfl (by kernel_rfl) ?_; intro w4 hblk hg4)
  obtain ⟨e0, e1, e2⟩ := blk3 hblk
  have HG4 := Lib.hid hg4
  clear hblk hg4 d0 d1 d2
  go_wp2_with fail
  refine bodyPost_ret (v := .agg #[.int .i64 f, .int .i64 t, .slice A2 n c3]) (by simp [results, Try.results18, go_sem, e0, e1, e2]) rfl ?_
  have hW2 := HBU.out.2.2
  have h1 := HBU.out.2.1
  refine ⟨A2, c3, rfl, ?_, ?_⟩
  · refine own_low ((HO.out.kept HG3.out ?_).kept HG4.out ?_) (show w.heap.size ≤ W.heap.size by omega)
    · exact .inr fun e => by have := (HO.out.lt _ e).1; omega
    · exact .inr fun e => by have := (HO.out.lt _ e).1; omega
  · exact (HBU.out.1.grown HG3.out (by omega) fun k e => by injection e with e; omega).grown HG4.out (by have := HG3.out.size; omega) fun k e => by injection e with e; omega
end Go.Proofs.Ytgnpnjfoenmfbaa.Bg
