/-
  Texts of earlier layers, as one.
-/
import Derived.Test.YthkbmmebfkaphaaDoorDskClone
import Derived.Test.YthkbmmebfkaphaaDoorDskNames
import Derived.Test.YthkbmmebfkaphaaDoorDskLow
import Derived.Test.YthkbmmebfkaphaaDoorRBase
/- The program's cut of a file; what a file is that was turned. -/
namespace Go.Proofs.YthkbmmebfkaphaaDoor.Dsk
open Go.RowKit Mem

/-- A file's box and bytes were turned, and nothing else of what there was. -/
def Turned (x : Pf) (g : Fl) (w w' : World) : Prop :=
  ∃ x' : Pf, x'.f = g ∧ x'.b = x.b ∧ PfIn w' x' ∧ (∀ k, x'.val.ownBlock = some k → x.val.ownBlock = some k ∨ w.heap.size ≤ k) ∧ Keeps x.has w w'
theorem take_append_nil (l : List Nat) (k : Nat) : (⟨ByteArray.empty, l.take k, []⟩ : Fl).all = l.take k := List.append_nil _
theorem all_cut (nm : ByteArray) (l : List Nat) (k : Nat) : (⟨nm, l.take k, []⟩ : Fl).all = l.take k := List.append_nil _
/-- The number of sure bytes is written; the bytes stay. -/
theorem PfIn.mark {w : World} {x : Pf} (h : PfIn w x) {g : Fl} (hg : g.all = x.f.all) : PfIn (w.setCell ⟨x.b, 1, none⟩ (.int .i64 (g.sure.length : Int))) { x with f := g } ∧ w.grownBy (w.setCell ⟨x.b, 1, none⟩ (.int .i64 (g.sure.length : Int))) (some x.b) := by
  have hgr : w.grownBy (w.setCell ⟨x.b, 1, none⟩ (.int .i64 (g.sure.length : Int))) (some x.b) := by
    refine ⟨rfl, rfl, rfl, by simp, fun k hk hne => ?_⟩
    exact Below.heap_setCell w ⟨x.b, 1, none⟩ _ k fun e => hne (by rw [e])
  have hv : ({ x with f := g } : Pf).val = x.val := by unfold Pf.val; rw [hg]
  refine ⟨⟨?_, ?_, ?_⟩, hgr⟩
  · rw [hv]
    exact h.box.put 1 (.int .i64 (g.sure.length : Int))
  · rw [hv]
    show World.ownsRow _ 0 _ 1 x.val g.all.length (cs g.all)
    rw [hg]
    exact row_keep h.row fun k hk => hgr.block k (h.lt (.inr hk)) fun e => h.self (by rw [hk, e])
  · rw [hv]
    exact h.self
set_option maxRecDepth 20000 in
set_option maxHeartbeats 4000000 in
theorem fcut_any (x : Pf) (k : Nat) (w : World) (h : PfIn w x) (hk : k ≤ x.f.all.length) (hl : x.f.all.length ≤ 1099511627776) :
    Calls Tryd.prog 27 #[.pointer (some ⟨x.b, 0, none⟩), .int .i64 (k : Int)] w (fun e w' => e = .returned (.tuple #[]) ∧ Turned x ⟨x.f.nm, x.f.all.take k, []⟩ w w') := by
  obtain ⟨c0, c1⟩ := h.cells
  have hrd := Rd.own h.row
  have hn1 := hrd.le
  have hn2 := hrd.cap
  obtain ⟨n, hn⟩ : ∃ n, x.f.all.length = n := ⟨_, rfl⟩
  obtain ⟨nm, hnm⟩ : ∃ nm, x.f.nm = nm := ⟨_, rfl⟩
  obtain ⟨bs, hbs⟩ : ∃ bs, x.f.all = bs := ⟨_, rfl⟩
  have hf0 := h.box.soft 0
  have hf1 := h.box.soft 1
  have HX := Lib.hid h
  have HBS := Lib.hid hbs
  have HN := Lib.hid hn
  rw [hn] at c0 hk hl hrd hn1
  rw [hbs] at hrd
  rw [hbs, hnm]
  have htk : (bs.take k).length = k := by rw [List.length_take, ← hbs, hn]; omega
  have HTK := Lib.hid htk
  clear h hn hbs hnm htk
  unfold maxLen at hn2
  by_cases hlt : k < n
  · have b0 : decide ((k : Int) < (n : Int)) = true := decide_eq_true (by omega)
    have hslc : ∀ u : World, (Instr.slice 32 (.slice x.A n x.c) none (some (.int .i64 (k : Int))) none).run Tryd.prog u = .ok (.slice x.A k x.c) u := fun u => by
      have hsz : ∀ w, (sizeOf (Tryd.prog.elem 32)).run Tryd.prog w = .ok 1 w := fun w => by kernel_rfl
      have hm : (x.A.map fun a => a.add (0 * 1)) = x.A := by cases x.A <;> simp [Addr.add]
      rw [run_slice_h u 32 x.A n x.c Tryd.underlying32 .i64 (k : Int) (by omega) (by omega), hsz]
      simp only [Result.andThen, sliced, hm, ite_self, Int.toNat_natCast, Nat.sub_zero]
    have hcl := bclone_any x.A k x.c (bs.take k) w (by have := hrd.take (k := k) (by omega); rwa [cs_take] at this) (by omega)
    have HCL := Lib.hid hcl
    clear hcl hrd
    go_enter Tryd.func27, Tryd.ntmps27
    go_wp2_with fail
    refine HCL.out.mono ?_
    rintro e u ⟨A', c', rfl, ho, hb⟩
    have hx := HX.out
    have hbx : Blk u x.b 61 #[x.val, .int .i64 (x.f.sure.length : Int)] := hx.box.bel hb
    have hblt := hx.box.lt
    have g0 := hbx.cell 0
    have g1 := hbx.cell 1
    have g2 := hbx.soft 0
    have g3 := hbx.soft 1
    have HO := Lib.hid ho
    have HB := Lib.hid hb
    have HBX := Lib.hid hbx
    clear ho hb hx hbx c0 c1 hf0 hf1 HCL hslc hblt
    simp only [List.getElem?_toArray, List.getElem?_cons_zero, List.getElem?_cons_succ] at g0 g1
    go_wp2_with fail
    go_end0
    have hx := HX.out
    have hu := HB.out
    have hus := hu.size
    have ho := HO.out
    have hl0 := hx.box.lt
    have e1 : (⟨nm, bs.take k, []⟩ : Fl).all = bs.take k := List.append_nil _
    have hne : ∀ j, (Value.slice A' k c').ownBlock = some j → w.heap.size ≤ j := fun j hj => (ho.lt j hj).1
    have hkp : ∀ j, j ≠ x.b → ((u.setCell ⟨x.b, 0, none⟩ (.slice A' k c')).setCell ⟨x.b, 1, none⟩ (.int .i64 (k : Int))).heap[j]? = u.heap[j]? := fun j hj =>
      (Below.heap_setCell _ ⟨x.b, 1, none⟩ _ j hj).trans (Below.heap_setCell u ⟨x.b, 0, none⟩ _ j hj)
    have hv : (⟨⟨nm, bs.take k, []⟩, x.b, A', c'⟩ : Pf).val = .slice A' k c' := by
      unfold Pf.val
      rw [e1, HTK.out]
    refine ⟨rfl, ⟨⟨nm, bs.take k, []⟩, x.b, A', c'⟩, rfl, rfl, ⟨?_, ?_, ?_⟩, ?_, ⟨hu.os, hu.tape, hu.output, by simpa using hus, fun j hj hn => ?_⟩⟩
    · rw [hv]
      show Blk _ x.b _ #[_, .int .i64 ((bs.take k).length : Int)]
      rw [HTK.out]
      exact (HBX.out.put 0 (.slice A' k c')).put 1 (.int .i64 (k : Int))
    · rw [hv]
      show World.ownsRow _ 0 _ 1 _ (⟨nm, bs.take k, []⟩ : Fl).all.length (cs (⟨nm, bs.take k, []⟩ : Fl).all)
      rw [e1, HTK.out]
      exact row_keep (row_base ho (Nat.zero_le _)) fun j hj => hkp j fun e => by have := hne j hj; omega
    · rw [hv]
      exact fun e => by have := hne _ e; show False; have h2 : x.b < w.heap.size := hl0; simp only at this; omega
    · rw [hv]
      exact fun j hj => .inr (hne j hj)
    · exact (hkp j fun e => hn (.inl e)).trans (hu.block j hj)
  · have hkn : k = n := by omega
    subst hkn
    have b0 : decide ((k : Int) < (k : Int)) = false := decide_eq_false (by omega)
    clear hlt hrd
    go_enter Tryd.func27, Tryd.ntmps27
    go_wp2_with fail
    go_end0
    have hx := HX.out
    have hl : bs.length = k := by rw [← HBS.out, HN.out]
    have e2 : bs.take k = bs := List.take_of_length_le (by omega)
    rw [e2]
    have e1 : (⟨nm, bs, []⟩ : Fl).all = x.f.all := by rw [HBS.out]; exact List.append_nil _
    obtain ⟨h1, h2⟩ := hx.mark e1
    have e3 : ((⟨nm, bs, []⟩ : Fl).sure.length : Int) = (k : Int) := by show ((bs.length : Nat) : Int) = _; rw [hl]
    rw [e3] at h1 h2
    refine ⟨rfl, { x with f := ⟨nm, bs, []⟩ }, rfl, rfl, h1, fun j hj => .inl ?_, ⟨h2.os, h2.tape, h2.output, h2.size, fun j hj hn => h2.block j hj fun e => hn (.inl (by injection e))⟩⟩
    have hv : ({ x with f := ⟨nm, bs, []⟩ } : Pf).val = x.val := by unfold Pf.val; rw [e1]
    rw [hv] at hj
    exact hj
end Go.Proofs.YthkbmmebfkaphaaDoor.Dsk
