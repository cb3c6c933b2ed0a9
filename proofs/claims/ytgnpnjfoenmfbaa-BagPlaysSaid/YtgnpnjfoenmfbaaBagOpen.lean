/-
  Texts of earlier layers, as one.
-/
import Derived.Test.YtgnpnjfoenmfbaaBagPlaysB
import Derived.Test.YtgnpnjfoenmfbaaProg
import Derived.WalkKit
import Derived.ProofKit
import Derived.OpenShut
import Derived.Deep.DeepHandedRow
import Derived.Deep.Slices
import Derived.ChangeSame
/- Envelopes and acts that came in, as the rows' reading opens them. -/
namespace Go.Proofs.Ytgnpnjfoenmfbaa.Bg
open Go.ChangeShapes Go.WideShapes Go.ChangeAt Go.RowKit Mem

section
variable {H : Type} {enc : TypeId × Value → H} {W : World} {held : Bool}
set_option maxRecDepth 100000 in
theorem bytes_of {fuel : Nat} {l : List Value} {x : DataW H × List MemPlace} (h : DataW.trod enc Try.prog W 0 (fun _ => true) held fuel 27 l = some x) : ∃ A c bs, l = [.slice A bs.length c] ∧ Rd W A bs.length c (cs bs) := by
  rcases open_ints Try.underlying27 Try.underlying5 (by kernel_rfl) h with ⟨hcs, _⟩ | ⟨x, n, c, zs, hcs, _, hl, hm, hz, _, hcell, hwz⟩
  · exact ⟨none, 0, [], hcs, Rd.nil_ W⟩
  · obtain ⟨bs, hr, _⟩ := Mem.Rd.of_bytes (w := W) (a := some x) (len := n) (cap := c) (zs := zs) (.inr ⟨_, rfl, hl, hm, by simpa using hz, hcell, hwz⟩)
    have hn : bs.length = n := by have h := hr.len; rwa [length_cs] at h
    subst hn
    exact ⟨some x, c, bs, hcs, hr⟩
set_option maxRecDepth 100000 in
/-- An envelope that came in. -/
theorem env_of {fuel : Nat} {l : List Value} {x : DataW H × List MemPlace} (h : DataW.trod enc Try.prog W 0 (fun _ => true) held fuel 29 l = some x) :
    ∃ y : Pn, l = encN y ∧ Rd W y.A y.e.bs.length y.c (cs y.e.bs) := by
  obtain ⟨ys, n, _, _, hlen, hyl, hf⟩ := DataW.trod_struct Try.underlying29 h
  have hC : Try.prog.cellsOf 29 = 3 := by kernel_rfl
  have hc1 : Try.prog.cellsOf 3 = 1 := by kernel_rfl
  have hc3 : Try.prog.cellsOf 27 = 1 := by kernel_rfl
  match ys, hyl with
  | [y0, y1, y2], _ =>
  match l, hlen.trans hC with
  | [c0, c1, c2], _ =>
  have g0 := hf 0 _ rfl
  have g1 := hf 1 _ rfl
  have g2 := hf 2 _ rfl
  simp [hc1, hc3] at g0 g1 g2
  obtain ⟨k0, hk0, _, w0⟩ := DataW.trod_int Try.underlying3 g0
  obtain ⟨k1, hk1, _, w1⟩ := DataW.trod_int Try.underlying3 g1
  obtain ⟨PA, pc, p, hp, hrp⟩ := bytes_of g2
  simp only [List.cons.injEq, and_true] at hk0 hk1 hp
  subst hk0; subst hk1; subst hp
  exact ⟨⟨⟨k0, k1, p⟩, PA, pc⟩, rfl, hrp⟩
set_option maxRecDepth 100000 in
/-- An act that came in. -/
theorem act_of {fuel : Nat} {l : List Value} {x : DataW H × List MemPlace} (h : DataW.trod enc Try.prog W 0 (fun _ => true) held fuel 31 l = some x) :
    ∃ y : Ac, l = encA y ∧ Rd W y.A y.e.bs.length y.c (cs y.e.bs) := by
  obtain ⟨ys, n, _, _, hlen, hyl, hf⟩ := DataW.trod_struct Try.underlying31 h
  have hC : Try.prog.cellsOf 31 = 5 := by kernel_rfl
  have hc1 : Try.prog.cellsOf 3 = 1 := by kernel_rfl
  have hc3 : Try.prog.cellsOf 29 = 3 := by kernel_rfl
  match ys, hyl with
  | [y0, y1, y2], _ =>
  match l, hlen.trans hC with
  | [c0, c1, c2, c3, c4], _ =>
  have g0 := hf 0 _ rfl
  have g1 := hf 1 _ rfl
  have g2 := hf 2 _ rfl
  simp [hc1, hc3] at g0 g1 g2
  obtain ⟨k0, hk0, _, w0⟩ := DataW.trod_int Try.underlying3 g0
  obtain ⟨k1, hk1, _, w1⟩ := DataW.trod_int Try.underlying3 g1
  obtain ⟨y, hy, hr⟩ := env_of g2
  unfold encN at hy
  simp only [List.cons.injEq, and_true] at hk0 hk1 hy
  obtain ⟨hy0, hy1, hy2⟩ := hy
  subst hk0; subst hk1; subst hy0; subst hy1; subst hy2
  exact ⟨⟨k0, k1, y.e, y.A, y.c⟩, rfl, hr⟩
set_option maxRecDepth 100000 in
/-- A slice of elements that came in. -/
theorem rows_of {α : Type} {L : Lay α} {t te : TypeId} (ht : Try.prog.underlying t = some (.slice te)) (hC : Try.prog.cellsOf te = L.s) (inh : α) (good : α → Prop) (h0 : ∀ y, ∃ n : Int, (L.enc y)[0]? = some (.int .i64 n))
    (hel : ∀ {fuel : Nat} {l : List Value} {x : DataW H × List MemPlace}, DataW.trod enc Try.prog W 0 (fun _ => true) held fuel te l = some x → ∃ y : α, l = L.enc y ∧ good y)
    {fuel : Nat} {a : Option Addr} {len cap : Nat} {x : DataW H × List MemPlace} (h : DataW.trod enc Try.prog W 0 (fun _ => true) held fuel t [.slice a len cap] = some x) : ∃ l, Rw L W a len cap l ∧ ∀ y ∈ l, good y := by
  rcases Go.Deep.open_slice ht h with ⟨hcs, _⟩ | ⟨ad, len', cap', m, n, D, Pl, hcs, _, hl, hm, hmm, _, hx⟩
  · simp at hcs
    obtain ⟨rfl, rfl, rfl⟩ := hcs
    exact ⟨[], Rw.nil_ W, fun y hy => by cases hy⟩
  · simp at hcs
    obtain ⟨rfl, rfl, rfl⟩ := hcs
    have hlm : len ≤ m := by rw [hmm]; split <;> omega
    have hspot : 0 < len → ad.spot = none := fun hp => by
      obtain ⟨cs', h1, h2⟩ := hx 0 (by omega)
      rw [hC] at h1
      obtain ⟨_, _, hcell⟩ := World.cells?_some h1
      obtain ⟨y, rfl, _⟩ := hel h2
      obtain ⟨v, hv⟩ := h0 y
      have e0 := hcell 0 L.pos
      have e1 : W.cell? ad = some (.int .i64 v) := by rw [hv] at e0; simpa [Addr.add] using e0
      unfold World.cell? at e1
      cases hsp : ad.spot with
      | none => rfl
      | some _ =>
        rw [hsp] at e1
        split at e1
        · simp at e1
        · cases e1
    have each : ∀ i, i < len → ∃ y : α, good y ∧ ∃ b o, ad = ⟨b, o, none⟩ ∧ b < W.heap.size ∧ W.rangeAt b (o + i * L.s) (L.enc y) := by
      intro i hi
      obtain ⟨cs', h1, h2⟩ := hx i (by omega)
      rw [hC] at h1
      obtain ⟨_, hlen, hcell⟩ := World.cells?_some h1
      obtain ⟨y, rfl, hg⟩ := hel h2
      have hs : ad.spot = none := hspot (by omega)
      obtain ⟨g, o, sp⟩ := ad
      have hs' : sp = none := hs
      subst hs'
      refine ⟨y, hg, g, o, rfl, ?_, fun j u hu => ?_⟩
      · obtain ⟨v, hv⟩ := h0 y
        have e0 := hcell 0 L.pos
        rw [hv] at e0
        have := World.block_lt_of_cell? W _ e0
        rwa [add_block, add_block] at this
      · have hj : j < L.s := by rw [← L.len y]; exact (List.getElem?_eq_some_iff.1 hu).1
        have e := hcell j hj
        rw [hu] at e
        rw [Addr.add_lit, Addr.add_lit] at e
        exact e
    have each2 : ∀ i, ∃ y : α, i < len → good y ∧ ∃ b o, ad = ⟨b, o, none⟩ ∧ b < W.heap.size ∧ W.rangeAt b (o + i * L.s) (L.enc y) := fun i => by
      by_cases hi : i < len
      · obtain ⟨y, hy⟩ := each i hi
        exact ⟨y, fun _ => hy⟩
      · exact ⟨inh, fun h => absurd h hi⟩
    obtain ⟨f, hf⟩ := Classical.axiomOfChoice each2
    have hget : ∀ (i : Nat) (y : α), ((List.range len).map f)[i]? = some y → i < len ∧ y = f i := fun i y hy => by
      rw [List.getElem?_map, Option.map_eq_some_iff] at hy
      obtain ⟨j, hj, rfl⟩ := hy
      have hlt := (List.getElem?_eq_some_iff.1 hj).1
      rw [List.length_range] at hlt
      have : j = i := by simpa [List.getElem?_range hlt] using hj.symm
      subst this
      exact ⟨hlt, rfl⟩
    refine ⟨(List.range len).map f, ⟨by simp, hl, hm, (fun e => by cases e), fun hp => ?_⟩, fun y hy => ?_⟩
    · obtain ⟨_, b, o, e, hb, _⟩ := hf 0 hp
      refine ⟨b, o, by rw [e], hb, fun j y hy => ?_⟩
      obtain ⟨hj, rfl⟩ := hget j y hy
      obtain ⟨_, b', o', e', _, hr⟩ := hf j hj
      rw [e] at e'
      injection e' with e1 e2
      subst e1
      subst e2
      exact hr
    · obtain ⟨i, hi⟩ := List.getElem?_of_mem hy
      obtain ⟨hlt, rfl⟩ := hget i y hi
      exact (hf i hlt).1
theorem envs_of {fuel : Nat} {a : Option Addr} {len cap : Nat} {x : DataW H × List MemPlace} (h : DataW.trod enc Try.prog W 0 (fun _ => true) held fuel 26 [.slice a len cap] = some x) : ∃ l, Envs W a len cap l := by
  obtain ⟨l, h1, h2⟩ := rows_of (L := LN) Try.underlying26 (by kernel_rfl) ⟨noEn, none, 0⟩ (fun y => Rd W y.A y.e.bs.length y.c (cs y.e.bs)) (fun y => ⟨y.e.f, rfl⟩) env_of h
  exact ⟨l, h1, h2⟩
theorem acts_of {fuel : Nat} {a : Option Addr} {len cap : Nat} {x : DataW H × List MemPlace} (h : DataW.trod enc Try.prog W 0 (fun _ => true) held fuel 22 [.slice a len cap] = some x) : ∃ l, Acts W a len cap l := by
  obtain ⟨l, h1, h2⟩ := rows_of (L := LA) Try.underlying22 (by kernel_rfl) ⟨0, 0, noEn, none, 0⟩ (fun y => Rd W y.A y.e.bs.length y.c (cs y.e.bs)) (fun y => ⟨y.z, rfl⟩) act_of h
  exact ⟨l, h1, h2⟩
end
end Go.Proofs.Ytgnpnjfoenmfbaa.Bg
