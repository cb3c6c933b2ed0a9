/-
  Texts of earlier layers, as one.
-/
import Derived.Test.YtkejjdoaljoooaaGreatDoorDskKey
import Derived.Test.YtkejjdoaljoooaaGreatDoorShelf2
/- The program's names: all names, rising, in new memory. -/
namespace Go.Proofs.YtkejjdoaljoooaaGreatDoor.Dsk
open Lib (hid)
open Go.RowKit Mem Go.Maps Go.Sort Go.Shelf
theorem sorts_in (m : Nat) : AnyZ.SortsIn Tryz.prog Tryz.sortedA_ren Fence.wide m :=
 ⟨fun blk off cap ss W hH hblk hsz => callsIn_wide.2 (Tryz.slices_Sort_string blk off cap ss W hH hblk hsz), fun p cap W => callsIn_wide.2 (Tryz.slices_Sort_string_none p cap W)⟩
theorem row_base {w : World} {base base' : Nat} {e : TypeId} {s : Nat} {v : Value} {n : Nat} {xs : List Value} (h : w.ownsRow base e s v n xs) (hb : base' ≤ base) : w.ownsRow base' e s v n xs :=
 ⟨h.1, h.2.imp id fun ⟨g, cap, cur, e1, hg, r⟩ => ⟨g, cap, cur, e1, Nat.le_trans hb hg, r⟩⟩
set_option maxRecDepth 20000 in
set_option maxHeartbeats 4000000 in
theorem names_any (p m : Nat) (S : Nat → Prop) (d : Dk) (hs : List Pf) (w : World) (h : Own w S p m d hs) (hl : d.fs.length ≤ 16) :
 Calls Tryz.prog 26 #[ptr p] w (fun e w' => ∃ A n c, e = .returned (.slice A n c) ∧ w'.ownsRow w.heap.size 9 1 (.slice A n c) n (d.fs.map fun f => .string f.nm) ∧ Below w.heap.size w w') := by
 refine (callsIn_wide (n := 6)).1 ?_;have hown := h.map;have hbl := hown.lt;have c0 := h.cells.1;have hmax : Maps.size (DataW.map (ent hs)) ≤ maxLen := by rw [size_ent, h.length]; unfold maxLen; omega
 have hbytes : Maps.size (DataW.map (ent hs)) * 16 ≤ 140737488355328 := by rw [size_ent, h.length]; omega
 have hseq : SeqGives Fence.wide 2 Tryz.prog 88 #[.pointer (some ⟨w.heap.size, 0, none⟩)] encStr (fun ss => ss.Perm (strKeys (.map (ent hs)))) (Maps.size (DataW.map (ent hs))) (w.alloc (.cells #[.map (some m)] 55)) :=
  AnyZ.keys_gives (ρ := Tryz.keysA_ren) { Tryz.keysA with } Fence.wide _ trivial rfl (by omega) w.heap.size m hs.length (.map (ent hs)) _ (by simp) (by simp) (by
   obtain ⟨es, clock, hb, Ft, hs', hD⟩ := hown;exact ⟨es, clock, (Below.heap_alloc _ _ m hbl).trans hb, Ft, hs', hD⟩)
 have cK : ∀ mb W, CallsIn Fence.wide 5 Tryz.prog 48 #[.map mb] W fun e w' => e = .returned (.func (.func 88) #[] #[.pointer (some ⟨W.heap.size, 0, none⟩)]) ∧ w' = W.alloc (.cells #[.map mb] 55) := fun mb W => AnyZ.keys_in Tryz.keysA Fence.wide 5 trivial rfl mb W;have cS := AnyZ.sorted_in Tryz.sortedA Fence.wide 5 trivial trivial trivial trivial rfl (by omega) (sorts_in _) (enters_of Tryz.func87 (by kernel_rfl) rfl) 88 #[.pointer (some ⟨w.heap.size, 0, none⟩)] trivial (enters_of Tryz.func88 (by kernel_rfl) rfl) _ _ hmax hbytes _ hseq
 change CallsIn _ _ Tryz.prog 47 _ _ _ at cS
 have hfK : Fence.wide.fn 48 := trivial;have hfS : Fence.wide.fn 47 := trivial;have HH := hid h;clear h hown hbl hmax hbytes hseq;refine callsIn_of_wp Tryz.func26 rfl trivial ?_ rfl;simp only [Tryz.ntmps26, ptr, List.size_toArray, List.length_cons, List.length_nil, Nat.reduceAdd, Nat.reduceSub, Array.replicate_succ, Array.replicate_zero, List.push_toArray, List.append_toArray, List.nil_append, List.cons_append]
 gi_wp2_with (first
  | (gi_at_call 48; refine (cK _ _).mono ?_; rintro e w' ⟨rfl, rfl⟩)
  | (gi_at_call 47; refine cS.mono ?_; rintro e w' ⟨v, ss, rfl, hS, hrow, hnil, hb⟩))
 go_ret;have hh := HH.out
 have e1 : (ss.mergeSort (fun x y => decide (x ≤ y))).map encStr = d.fs.map fun f => .string f.nm := by
  have e2 : ss.mergeSort (fun x y => decide (x ≤ y)) = hs.map fun x => x.f.nm.data.toList := (mergeSort_of_perm hS).trans (names_sorted (by rw [hh.fs]; exact hh.up));rw [e2, ← hh.fs, List.map_map, List.map_map];rfl
 rw [e1] at hrow;obtain ⟨A, c, ev, _⟩ := Rd.of_own hrow;subst ev;exact ⟨A, ss.length, c, rfl, row_base hrow (by simp), ((Below.refl _ w).alloc (Nat.le_refl _) _).trans (hb.mono (by simp))⟩
end Go.Proofs.YtkejjdoaljoooaaGreatDoor.Dsk
