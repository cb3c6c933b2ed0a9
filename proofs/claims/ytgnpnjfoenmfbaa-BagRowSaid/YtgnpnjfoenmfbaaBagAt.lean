/-
  Texts of earlier layers, as one.
-/
import Derived.Test.YtgnpnjfoenmfbaaBagAsk
/- The program's At: an envelope of the bag, with bytes of its own. -/
namespace Go.Proofs.Ytgnpnjfoenmfbaa.Bg
open Go.RowKit Mem Dsk

/-- What At and Take answer. -/
def Shows (o : Option En) (w : World) (e : Ending) (w' : World) : Prop :=
  ∃ A c, e = .returned (.tuple #[.agg #[.int .i64 (o.getD noEn).f, .int .i64 (o.getD noEn).t, .slice A (o.getD noEn).bs.length c], .bool o.isSome]) ∧ w'.ownsRow w.heap.size 5 1 (.slice A (o.getD noEn).bs.length c) (o.getD noEn).bs.length (cs (o.getD noEn).bs)
theorem at_in {i : Int} {xs : List En} {r nx : Int} {x : En} (h : atB i ⟨xs, r, nx⟩ = some x) : ∃ k : Nat, i = (k : Int) ∧ xs[k]? = some x := by
  unfold atB at h
  split at h
  · exact ⟨i.toNat, by omega, h⟩
  · cases h
set_option maxRecDepth 20000 in
set_option maxHeartbeats 4000000 in
theorem at_any (p : Nat) (S : Nat → Prop) (b : Bag) (i : Int) (w : World) (h : BI w S p b) (hf : Fine b) :
    Calls Try.prog 17 #[ptr p, .int .i64 i] w (fun e w' => Shows (atB i b) w e w' ∧ Below w.heap.size w w') := by
  have hb0 := bel_alloc (Below.refl w.heap.size w) (.cells #[.int .i64 0, .int .i64 0, .slice none 0 0] 29)
  have hk0 := Blk.new w 29 #[.int .i64 0, .int .i64 0, .slice none 0 0]
  obtain ⟨W, hW⟩ : ∃ v, w.alloc (.cells #[.int .i64 0, .int .i64 0, .slice none 0 0] 29) = v := ⟨_, rfl⟩
  have hs0 : W.heap.size = w.heap.size + 1 := by rw [← hW]; simp
  rw [hW] at hb0 hk0
  have hbi := bi_below h hb0
  have HH := Lib.hid (has_any p S b i W hbi)
  unfold ptr at HH ⊢
  cases hat : atB i b with
  | none =>
    rw [hat] at HH
    simp only [Option.isSome_none] at HH ⊢
    have HB := Lib.hid (And.intro hb0 (And.intro hk0 hs0))
    have HW := Lib.hid hW
    clear hb0 hk0 hs0 hW hbi h hat hf
    go_enter Try.func17, Try.ntmps17
    go_upto_region 1 with fail
    rw [HW.out]
    go_wp2_with fail
    refine HH.out.mono ?_
    rintro e u ⟨rfl, hu⟩
    subst hu
    clear HH
    go_wp2_with (with_reducible refine wpList_store_blk rfl 29 (.tmp 4) (.tmp 10) rfl w.heap.size 29 #[.int .i64 0, .int .i64 0, .slice none 0 0] #[.int .i64 0, .int .i64 0, .slice none 0 0] rfl rfl HB.out.2.1 (by kernel_rfl) rfl (by kernel_rfl) ?_; intro w4 hblk hg4)
    obtain ⟨e0, e1, e2⟩ := blk3 hblk
    have HG4 := Lib.hid hg4
    clear hblk hg4
    refine bodyPost_ret (v := .tuple #[.agg #[.int .i64 0, .int .i64 0, .slice none 0 0], .bool false]) (by simp [results, Try.results17, go_sem, e0, e1, e2]) rfl ?_
    refine ⟨⟨none, 0, rfl, World.ownsRow_nil _ _ _ _⟩, HB.out.1.grown HG4.out HB.out.1.size fun k e => by injection e with e; omega⟩
  | some x =>
    rw [hat] at HH
    simp only [Option.isSome_some] at HH ⊢
    obtain ⟨xs, r, nx⟩ := b
    obtain ⟨k, rfl, hxk⟩ := at_in hat
    obtain ⟨A, c, es, ho, he⟩ := hbi
    simp only at he ho
    rw [← he, List.getElem?_map, Option.map_eq_some_iff] at hxk
    obtain ⟨y, hyk, hyx⟩ := hxk
    obtain ⟨g, rfl, hg, hrng, hrd⟩ := ho.at_ hyk
    obtain ⟨_, c1, c2, c3⟩ := four hrng
    have hkl : k < es.length := (List.getElem?_eq_some_iff.1 hyk).1
    obtain ⟨d0, _, _⟩ := ho.cells
    have hlc := ho.rw_.le
    have hcc := ho.rw_.cap
    unfold maxLen at hcc
    obtain ⟨n, hn⟩ : ∃ n, es.length = n := ⟨_, rfl⟩
    rw [hn] at hkl d0 hlc
    have hsm : x.bs.length ≤ 1000000 := by have := hf.2.2.2 x (mem_atB hat); omega
    obtain ⟨yk, ye, yA, yc⟩ := y
    simp only at hyx c1 c2 c3 hrd
    subst hyx
    have hcop := copied_any ye yA yc W hrd hsm
    obtain ⟨f, t, bs⟩ := ye
    obtain ⟨m, hm⟩ : ∃ m, bs.length = m := ⟨_, rfl⟩
    unfold Copies at hcop
    unfold Shows
    simp only [Option.getD_some, hm] at hcop c1 c2 c3 ⊢
    have HC := Lib.hid hcop
    have HB := Lib.hid (And.intro hb0 (And.intro hk0 hs0))
    have HW := Lib.hid hW
    have hk2 : k < n := hkl
    clear hb0 hk0 hs0 hW h hat hf ho he hyk hg hrng hrd hn hcop hsm hm hkl
    go_enter Try.func17, Try.ntmps17
    go_upto_region 1 with fail
    rw [HW.out]
    go_wp2_with fail
    refine HH.out.mono ?_
    rintro e u ⟨rfl, hu⟩
    subst hu
    clear HH
    go_wp2_with fail
    refine HC.out.mono ?_
    rintro e u2 ⟨B, d, rfl, hby, hb2⟩
    have hk3 := HB.out.2.1.bel hb2
    have HK3 := Lib.hid hk3
    have HBY := Lib.hid (And.intro hby hb2)
    clear hby hb2 hk3 HC c1 c2 c3 d0
    go_wp2_with (with_reducible refine wpList_store_blk rfl 29 (.tmp 4) (.tmp 19) rfl w.heap.size 29 #[.int .i64 0, .int .i64 0, .slice none 0 0] #[.int .i64 f, .int .i64 t, .slice B m d] rfl rfl HK3.out (by kernel_rfl) rfl (by kernel_rfl) ?_; intro w4 hblk hg4)
    obtain ⟨e0, e1, e2⟩ := blk3 hblk
    refine bodyPost_ret (v := .tuple #[.agg #[.int .i64 f, .int .i64 t, .slice B m d], .bool true]) (by simp [results, Try.results17, go_sem, e0, e1, e2]) rfl ?_
    have hb02 := HB.out.1.trans (HBY.out.2.mono HB.out.1.size)
    refine ⟨⟨B, d, rfl, ?_⟩, hb02.grown hg4 hb02.size fun k e => by injection e with e; omega⟩
    refine own_low (HBY.out.1.kept hg4 (.inr fun e => ?_)) HB.out.1.size
    have h1 := (HBY.out.1.lt _ e).1
    have h2 := HB.out.2.2
    omega
end Go.Proofs.Ytgnpnjfoenmfbaa.Bg
