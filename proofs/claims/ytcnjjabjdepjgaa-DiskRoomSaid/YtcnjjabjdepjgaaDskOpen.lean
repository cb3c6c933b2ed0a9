/-
  Texts of earlier layers, as one.
-/
import Derived.Test.YtcnjjabjdepjgaaDskPlaysWalk
import Derived.Test.YtcnjjabjdepjgaaProg
import Derived.WalkKit
import Derived.ProofKit
import Derived.OpenShut
import Derived.Deep.DeepHandedRow
import Derived.Deep.Slices
import Derived.ChangeSame
/- Acts that came in, as the rows' reading opens them. -/
namespace Go.Proofs.Ytcnjjabjdepjgaa.Dsk
open Go.ChangeShapes Go.WideShapes Go.ChangeAt Go.RowKit Mem

section
variable {H : Type} {enc : TypeId × Value → H} {W : World} {held : Bool}
set_option maxRecDepth 100000 in
theorem bytes_of {fuel : Nat} {l : List Value} {x : DataW H × List MemPlace} (h : DataW.trod enc Try.prog W 0 (fun _ => true) held fuel 29 l = some x) : ∃ A c bs, l = [.slice A bs.length c] ∧ Rd W A bs.length c (cs bs) := by
  rcases open_ints Try.underlying29 Try.underlying5 (by kernel_rfl) h with ⟨hcs, _⟩ | ⟨x, n, c, zs, hcs, _, hl, hm, hz, _, hcell, hwz⟩
  · exact ⟨none, 0, [], hcs, Rd.nil_ W⟩
  · obtain ⟨bs, hr, _⟩ := Mem.Rd.of_bytes (w := W) (a := some x) (len := n) (cap := c) (zs := zs) (.inr ⟨_, rfl, hl, hm, by simpa using hz, hcell, hwz⟩)
    have hn : bs.length = n := by have h := hr.len; rwa [length_cs] at h
    subst hn
    exact ⟨some x, c, bs, hcs, hr⟩
set_option maxRecDepth 100000 in
theorem numbers_of {fuel : Nat} {l : List Value} {x : DataW H × List MemPlace} (h : DataW.trod enc Try.prog W 0 (fun _ => true) held fuel 32 l = some x) : ∃ A c ks, l = [.slice A ks.length c] ∧ Rd W A ks.length c (vs ks) := by
  rcases open_ints Try.underlying32 Try.underlying3 (by kernel_rfl) h with ⟨hcs, _⟩ | ⟨x, n, c, zs, hcs, _, hl, hm, hz, _, hcell, hwz⟩
  · exact ⟨none, 0, [], hcs, Rd.nil_ W⟩
  · have hz : zs.length = c := by simpa using hz
    have hn : (zs.take n).length = n := by rw [List.length_take]; omega
    refine ⟨some x, c, zs.take n, by rw [hn]; exact hcs, ?_⟩
    rw [hn]
    refine ⟨by unfold vs; rw [List.length_map, hn], hl, hm, (fun e => by cases e), fun h0 => ⟨x, rfl, ?_, fun j u hu => ?_⟩⟩
    · have h1 := hcell 0 (by omega)
      have h2 := World.block_lt_of_cell? W _ h1
      rwa [add_block] at h2
    · unfold vs at hu
      rw [List.getElem?_map, Option.map_eq_some_iff] at hu
      obtain ⟨z, hz', rfl⟩ := hu
      rw [List.getElem?_take] at hz'
      split at hz'
      · rename_i hj
        rw [hcell j (by omega), List.getD_eq_getElem?_getD, hz']
        rfl
      · cases hz'
set_option maxRecDepth 100000 in
/-- An act that came in. -/
theorem act_of {fuel : Nat} {l : List Value} {x : DataW H × List MemPlace} (h : DataW.trod enc Try.prog W 0 (fun _ => true) held fuel 34 l = some x) :
    ∃ (a : Ac) (PA : Option Addr) (pc : Nat) (KA : Option Addr) (kc : Nat), l = [.int .i64 a.z, .string a.x, .string a.y, .slice PA a.p.length pc, .int .i64 a.nn, .slice KA a.ks.length kc] ∧ Rd W PA a.p.length pc (cs a.p) ∧ Rd W KA a.ks.length kc (vs a.ks) ∧ Right a := by
  obtain ⟨ys, n, _, _, hlen, hyl, hf⟩ := DataW.trod_struct Try.underlying34 h
  have hC : Try.prog.cellsOf 34 = 6 := by kernel_rfl
  have hc1 : Try.prog.cellsOf 3 = 1 := by kernel_rfl
  have hc2 : Try.prog.cellsOf 9 = 1 := by kernel_rfl
  have hc3 : Try.prog.cellsOf 29 = 1 := by kernel_rfl
  have hc4 : Try.prog.cellsOf 32 = 1 := by kernel_rfl
  match ys, hyl with
  | [y0, y1, y2, y3, y4, y5], _ =>
  match l, hlen.trans hC with
  | [c0, c1, c2, c3, c4, c5], _ =>
  have g0 := hf 0 _ rfl
  have g1 := hf 1 _ rfl
  have g2 := hf 2 _ rfl
  have g3 := hf 3 _ rfl
  have g4 := hf 4 _ rfl
  have g5 := hf 5 _ rfl
  simp [hc1, hc2, hc3, hc4] at g0 g1 g2 g3 g4 g5
  obtain ⟨k0, hk0, _, w0⟩ := DataW.trod_int Try.underlying3 g0
  obtain ⟨k4, hk4, _, w4⟩ := DataW.trod_int Try.underlying3 g4
  obtain ⟨s1, hs1, _, l1⟩ := DataW.trod_string Try.underlying9 g1
  obtain ⟨s2, hs2, _, l2⟩ := DataW.trod_string Try.underlying9 g2
  obtain ⟨PA, pc, p, hp, hrp⟩ := bytes_of g3
  obtain ⟨KA, kc, ks, hk, hrk⟩ := numbers_of g5
  simp only [List.cons.injEq, and_true] at hk0 hk4 hs1 hs2 hp hk
  subst hk0; subst hk4; subst hs1; subst hs2; subst hp; subst hk
  unfold maxLen at l1 l2
  exact ⟨⟨k0, s1, s2, p, k4, ks⟩, PA, pc, KA, kc, rfl, hrp, hrk, by show s1.size ≤ _; omega, by show s2.size ≤ _; omega, (bounds_i64 w4).2⟩
set_option maxRecDepth 100000 in
/-- Acts that came in. -/
theorem acts_of {fuel : Nat} {a : Option Addr} {len cap : Nat} {x : DataW H × List MemPlace} (h : DataW.trod enc Try.prog W 0 (fun _ => true) held fuel 22 [.slice a len cap] = some x) : ∃ l, Acts W a len cap l ∧ ∀ y ∈ l, Right y := by
  have hC : Try.prog.cellsOf 34 = 6 := by kernel_rfl
  rcases Go.Deep.open_slice Try.underlying22 h with ⟨hcs, _⟩ | ⟨ad, len', cap', m, n, D, Pl, hcs, _, hl, hm, hmm, _, hx⟩
  · simp at hcs
    obtain ⟨rfl, rfl, rfl⟩ := hcs
    exact ⟨[], ⟨rfl, Nat.le_refl _, by unfold maxLen; omega, fun i a ha => by cases ha⟩, fun y hy => by cases hy⟩
  · simp at hcs
    obtain ⟨rfl, rfl, rfl⟩ := hcs
    have hlm : len ≤ m := by rw [hmm]; split <;> omega
    have hspot : 0 < len → ad.spot = none := fun h0 => by
      obtain ⟨cs', h1, h2⟩ := hx 0 (by omega)
      rw [hC] at h1
      obtain ⟨_, _, hcell⟩ := World.cells?_some h1
      obtain ⟨y, PA, pc, KA, kc, rfl, _⟩ := act_of h2
      have e0 := hcell 0 (by omega)
      have e1 : W.cell? ad = some (.int .i64 y.z) := by simpa [Addr.add] using e0
      unfold World.cell? at e1
      cases hsp : ad.spot with
      | none => rfl
      | some _ =>
        rw [hsp] at e1
        split at e1
        · simp at e1
        · cases e1
    have each : ∀ i, i < len → ∃ y : Ac, Right y ∧ ∃ b o PA pc KA kc, ad = ⟨b, o, none⟩ ∧ b < W.heap.size ∧
        W.cell? ⟨b, o + i * 6, none⟩ = some (.int .i64 y.z) ∧ W.cell? ⟨b, o + i * 6 + 1, none⟩ = some (.string y.x) ∧ W.cell? ⟨b, o + i * 6 + 2, none⟩ = some (.string y.y) ∧
        W.cell? ⟨b, o + i * 6 + 3, none⟩ = some (.slice PA y.p.length pc) ∧ W.cell? ⟨b, o + i * 6 + 4, none⟩ = some (.int .i64 y.nn) ∧ W.cell? ⟨b, o + i * 6 + 5, none⟩ = some (.slice KA y.ks.length kc) ∧
        Rd W PA y.p.length pc (cs y.p) ∧ Rd W KA y.ks.length kc (vs y.ks) := by
      intro i hi
      obtain ⟨cs', h1, h2⟩ := hx i (by omega)
      rw [hC] at h1
      obtain ⟨_, hlen, hcell⟩ := World.cells?_some h1
      obtain ⟨y, PA, pc, KA, kc, rfl, r1, r2, hr⟩ := act_of h2
      have e0 := hcell 0 (by omega)
      have e1 := hcell 1 (by omega)
      have e2 := hcell 2 (by omega)
      have e3 := hcell 3 (by omega)
      have e4 := hcell 4 (by omega)
      have e5 := hcell 5 (by omega)
      rw [Go.Deep.add_add] at e0 e1 e2 e3 e4 e5
      have hs : ad.spot = none := hspot (by omega)
      obtain ⟨g, o, sp⟩ := ad
      have hs' : sp = none := hs
      subst hs'
      refine ⟨y, hr, g, o, PA, pc, KA, kc, rfl, ?_, ?_, ?_, ?_, ?_, ?_, ?_, r1, r2⟩
      · have := World.block_lt_of_cell? W _ e0
        rwa [add_block] at this
      all_goals rw [Addr.add_lit] at *
      · simpa using e0
      · simpa [Nat.add_assoc] using e1
      · simpa [Nat.add_assoc] using e2
      · simpa [Nat.add_assoc] using e3
      · simpa [Nat.add_assoc] using e4
      · simpa [Nat.add_assoc] using e5
    have each2 : ∀ i, ∃ y : Ac, i < len → Right y ∧ ∃ b o PA pc KA kc, ad = ⟨b, o, none⟩ ∧ b < W.heap.size ∧
        W.cell? ⟨b, o + i * 6, none⟩ = some (.int .i64 y.z) ∧ W.cell? ⟨b, o + i * 6 + 1, none⟩ = some (.string y.x) ∧ W.cell? ⟨b, o + i * 6 + 2, none⟩ = some (.string y.y) ∧
        W.cell? ⟨b, o + i * 6 + 3, none⟩ = some (.slice PA y.p.length pc) ∧ W.cell? ⟨b, o + i * 6 + 4, none⟩ = some (.int .i64 y.nn) ∧ W.cell? ⟨b, o + i * 6 + 5, none⟩ = some (.slice KA y.ks.length kc) ∧
        Rd W PA y.p.length pc (cs y.p) ∧ Rd W KA y.ks.length kc (vs y.ks) := fun i => by
      by_cases hi : i < len
      · obtain ⟨y, hy⟩ := each i hi
        exact ⟨y, fun _ => hy⟩
      · exact ⟨⟨0, ByteArray.empty, ByteArray.empty, [], 0, []⟩, fun h => absurd h hi⟩
    obtain ⟨f, hf⟩ := Classical.axiomOfChoice each2
    have hget : ∀ (i : Nat) (y : Ac), ((List.range len).map f)[i]? = some y → i < len ∧ y = f i := fun i y hy => by
      rw [List.getElem?_map, Option.map_eq_some_iff] at hy
      obtain ⟨j, hj, rfl⟩ := hy
      have hlt := (List.getElem?_eq_some_iff.1 hj).1
      rw [List.length_range] at hlt
      have : j = i := by simpa [List.getElem?_range hlt] using hj.symm
      subst this
      exact ⟨hlt, rfl⟩
    refine ⟨(List.range len).map f, ⟨by simp, hl, hm, fun i y hy => ?_⟩, fun y hy => ?_⟩
    · obtain ⟨hi, rfl⟩ := hget i y hy
      obtain ⟨_, b, o, PA, pc, KA, kc, e, r⟩ := hf i hi
      exact ⟨b, o, PA, pc, KA, kc, by rw [e], r⟩
    · obtain ⟨i, hi⟩ := List.getElem?_of_mem hy
      obtain ⟨hlt, rfl⟩ := hget i y hi
      exact (hf i hlt).1
end
end Go.Proofs.Ytcnjjabjdepjgaa.Dsk
