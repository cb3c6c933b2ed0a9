/-
  Texts of earlier layers, as one.
-/
import Derived.Test.YtgnpnjfoenmfbaaBagAt
import Derived.Test.YtgnpnjfoenmfbaaBagPut
/- The program's Twice: an envelope of the bag comes once more. -/
namespace Go.Proofs.Ytgnpnjfoenmfbaa.Bg
open Go.RowKit Mem Dsk

set_option maxRecDepth 20000 in
set_option maxHeartbeats 4000000 in
theorem twice_any (p : Nat) (S : Nat → Prop) (b : Bag) (i : Int) (w : World) (h : BI w S p b) (hf : Fine b) :
    Calls Try.prog 13 #[ptr p, .int .i64 i] w (fun e w' => e = .returned (.bool ((atB i b).isSome && fits b)) ∧ Stays BI p S (twiceB i b) w w') := by
  have HH := Lib.hid (has_any p S b i w h)
  unfold twiceB
  cases hat : atB i b with
  | none =>
    rw [hat] at HH
    simp only [Option.isSome_none, Bool.false_and] at HH ⊢
    have HB := Lib.hid h
    unfold ptr at HH ⊢
    clear h hf hat
    go_enter Try.func13, Try.ntmps13
    go_wp2_with fail
    refine HH.out.mono ?_
    rintro e u ⟨rfl, hu⟩
    subst hu
    clear HH
    go_wp2_with fail
    go_ret
    exact ⟨rfl, S, HB.out, Grew.refl _ _, Keeps.refl _ _⟩
  | some x =>
    rw [hat] at HH
    simp only [Option.isSome_some, Bool.true_and] at HH ⊢
    have hb := h
    obtain ⟨A, c, es, ho, he⟩ := h
    obtain ⟨k, rfl, hxk⟩ := at_in (xs := b.xs) (r := b.r) (nx := b.nx) hat
    rw [← he, List.getElem?_map, Option.map_eq_some_iff] at hxk
    obtain ⟨y, hyk, hyx⟩ := hxk
    obtain ⟨g, rfl, hg, hrng, hrd⟩ := ho.at_ hyk
    obtain ⟨_, c1, c2, c3⟩ := four hrng
    have hkl : k < es.length := (List.getElem?_eq_some_iff.1 hyk).1
    obtain ⟨d0, _, _⟩ := ho.cells
    have hlc := ho.rw_.le
    have hcc := ho.rw_.cap
    unfold maxLen at hcc
    obtain ⟨n, hn⟩ : ∃ n, es.length = n := ⟨_, rfl⟩
    rw [hn] at hkl d0 hlc
    have hsm : x.bs.length ≤ 1000 := hf.2.2.2 x (mem_atB hat)
    obtain ⟨yk, ye, yA, yc⟩ := y
    simp only at hyx c1 c2 c3 hrd
    subst hyx
    have hput := put_any p S b ye yA yc w hb hf hrd hsm
    obtain ⟨R, hR⟩ : ∃ R, fits b = R := ⟨_, rfl⟩
    rw [hR] at hput ⊢
    obtain ⟨f, t, bs⟩ := ye
    simp only at hput c1 c2 c3
    obtain ⟨m, hm⟩ : ∃ m, bs.length = m := ⟨_, rfl⟩
    rw [hm] at hput c3
    have HP := Lib.hid hput
    unfold ptr at HH HP ⊢
    clear hat hf ho he hyk hg hrng hrd hn hput hsm hm hb hR
    go_enter Try.func13, Try.ntmps13
    go_wp2_with fail
    refine HH.out.mono ?_
    rintro e u ⟨rfl, hu⟩
    subst hu
    clear HH
    go_wp2_with fail
    refine HP.out.mono ?_
    rintro e u2 ⟨rfl, hst⟩
    have HS := Lib.hid hst
    clear hst HP c1 c2 c3 d0
    go_wp2_with fail
    go_ret
    exact ⟨rfl, HS.out⟩
end Go.Proofs.Ytgnpnjfoenmfbaa.Bg
