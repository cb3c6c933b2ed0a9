/-
  Texts of earlier layers, as one.
-/
import Derived.Test.YthkbmmebfkaphaaDoorDskMeth
import Derived.Test.YthkbmmebfkaphaaDoorDskNames
import Derived.Test.YthkbmmebfkaphaaDoorRBase
import Derived.Deep.Cut
import Derived.Lib.MinMax
import Derived.Laws.Pointers
/- The program's New, Read, Used, Names, Fuse, Down. -/
namespace Go.Proofs.YthkbmmebfkaphaaDoor.Dsk
open Go.RowKit Mem Go.Maps

set_option maxRecDepth 20000 in
set_option maxHeartbeats 4000000 in
theorem dnew_any (room : Int) (w : World) : Calls Tryd.prog 8 #[.int .i64 room] w (fun e w' => ∃ p S, e = .returned (ptr p) ∧ DI w' S p (newDk room) ∧ (∀ k, S k → w.heap.size ≤ k) ∧ Below w.heap.size w w') := by
  obtain ⟨M, hM⟩ : ∃ M : Int, max room 0 = M := ⟨_, rfl⟩
  have hn : newDk room = ⟨[], M, -1, false⟩ := by unfold newDk; rw [hM]
  rw [hn]
  have hmx : ∀ (W : World) (ts : Array TypeId) (ty : TypeId), (Builtin.max_ ts ty #[.int .i64 room, .int .i64 0]).run Tryd.prog W = .ok (.int .i64 M) W := fun W ts ty => by rw [Lib.run_max_ints, hM]
  have hmm := @run_makeMap Tryd.prog
  have h1 := World.ownsMap_made (H := Unit) w Tryd.prog 9 ptrElem
  have hb1 := bel_alloc (Below.refl w.heap.size w) (.map #[] 0)
  obtain ⟨w1, hw1⟩ : ∃ v, w.alloc (.map #[] 0) = v := ⟨_, rfl⟩
  have hz1 : w1.heap.size = w.heap.size + 1 := by rw [← hw1]; simp
  rw [hw1] at h1 hb1
  have h2 := Blk.new w1 48 #[.map (some w.heap.size), .int .i64 M, .int .i64 (-1), .bool false]
  have hb2 := bel_alloc (Below.refl w1.heap.size w1) (.cells #[.map (some w.heap.size), .int .i64 M, .int .i64 (-1), .bool false] 48)
  obtain ⟨w2, hw2⟩ : ∃ v, w1.alloc (.cells #[.map (some w.heap.size), .int .i64 M, .int .i64 (-1), .bool false] 48) = v := ⟨_, rfl⟩
  have hz2 : w2.heap.size = w1.heap.size + 1 := by rw [← hw2]; simp
  rw [hw2] at h2 hb2
  have hmap : w2.ownsMap Tryd.prog 9 ptrElem w.heap.size 0 (.map (ent [])) := map_keep h1 (hb2.block _ (by omega))
  have hown : Own w2 (fun k => w.heap.size ≤ k ∧ k < w2.heap.size) w1.heap.size w.heap.size ⟨[], M, -1, false⟩ [] :=
    { box := h2, map := hmap, fs := rfl, up := List.Pairwise.nil, file := fun h hh => (by cases hh), off := fun h hh => (by cases hh), out := fun h hh => (by cases hh), pm := (by omega), sp := ⟨by omega, by omega⟩, sm := ⟨by omega, by omega⟩, lt := fun k hk => hk.2 }
  have hbe : Below w.heap.size w w2 := hb1.trans (hb2.mono (by omega))
  have HO := Lib.hid hown
  have HB := Lib.hid hbe
  have HW1 := Lib.hid hw1
  have HW2 := Lib.hid hw2
  have HZ1 := Lib.hid hz1
  clear hn hM h1 hb1 hw1 hz1 h2 hb2 hw2 hz2 hmap hown hbe
  go_enter Tryd.func8, Tryd.ntmps8
  go_wp2_with fail
  go_ret
  rw [HW1.out, HW2.out]
  refine ⟨w1.heap.size, fun k => w.heap.size ≤ k ∧ k < w2.heap.size, ?_, ⟨w.heap.size, [], HO.out⟩, fun k hk => hk.1, HB.out⟩
  rw [HZ1.out]
  rfl
set_option maxRecDepth 20000 in
set_option maxHeartbeats 4000000 in
theorem dread_any (p : Nat) (S : Nat → Prop) (d : Dk) (s : ByteArray) (w : World) (h : DI w S p d) (hf : Fine d) (hsz : s.size ≤ 9223372036854775807) :
    Calls Tryd.prog 20 #[ptr p, .string s] w (fun e w' => ∃ A n c, e = .returned (.tuple #[.slice A n c, .int .i64 ((Dsk.read s d).2 : Int)]) ∧
    w'.ownsRow w.heap.size 5 1 (.slice A n c) n (cs (Dsk.read s d).1) ∧ ∃ S', DI w' S' p d ∧ Grew S S' w ∧ Keeps S w w' ∧ Outs S' n A) := by
  obtain ⟨m, hs, ho⟩ := h
  obtain ⟨c0, c1, c2, c3⟩ := ho.cells
  have hfind := ho.find (s := s) (by unfold maxLen; omega)
  have hlp := look_place hs s
  rw [ho.fs] at hlp
  obtain ⟨o, hlook⟩ : ∃ o, look hs s = o := ⟨_, rfl⟩
  rw [hlook] at hlp hfind
  obtain ⟨dn, hdn⟩ : ∃ v, d.dn = v := ⟨_, rfl⟩
  rw [hdn] at c3
  have HO := Lib.hid ho
  have HF := Lib.hid hf
  have HLP := Lib.hid hlp
  have HDN := Lib.hid hdn
  have HNO := Lib.hid (show ∀ (r : Int), ∃ A n c, (Value.tuple #[.slice none 0 0, .int .i64 r] = .tuple #[.slice A n c, .int .i64 r]) ∧ w.ownsRow w.heap.size 5 1 (.slice A n c) n (cs []) ∧ ∃ S', DI w S' p d ∧ Grew S S' w ∧ Keeps S w w ∧ Outs S' n A from
    fun r => ⟨none, 0, 0, rfl, World.ownsRow_nil _ _ _ _, S, ⟨m, hs, ho⟩, Grew.refl S w, Keeps.refl S w, fun h => absurd h (by omega)⟩)
  clear ho hf hlp hlook hdn c1 c2
  unfold ptr
  go_enter Tryd.func20, Tryd.ntmps20
  cases dn with
  | true =>
    have e : Dsk.read s d = ([], 15) := by
      unfold Dsk.read
      rw [if_pos HDN.out]
    have HE := Lib.hid e
    clear e hfind c0
    go_wp2_with fail
    refine bodyPost_ret (v := .tuple #[.slice none 0 0, .int .i64 15]) (by simp [results, Tryd.results20, go_sem]) rfl ?_
    rw [HE.out]
    obtain ⟨A, n, c, h1, h2⟩ := HNO.out 15
    exact ⟨A, n, c, congrArg Ending.returned h1, h2⟩
  | false =>
    cases o with
    | none =>
      have e : Dsk.read s d = ([], 8) := by
        have hres : place d.fs s = none := by
          rcases HLP.out with ⟨_, h⟩ | ⟨i, x, h, _⟩
          · exact h
          · cases h
        unfold Dsk.read
        rw [if_neg (by rw [HDN.out]; decide), hres]
      have HE := Lib.hid e
      unfold pv at hfind
      clear e
      go_wp2_with fail
      refine bodyPost_ret (v := .tuple #[.slice none 0 0, .int .i64 8]) (by simp [results, Tryd.results20, go_sem]) rfl ?_
      rw [HE.out]
      obtain ⟨A, n, c, h1, h2⟩ := HNO.out 8
      exact ⟨A, n, c, congrArg Ending.returned h1, h2⟩
    | some x =>
      obtain ⟨i, hres, hi, hnm⟩ : ∃ i, place d.fs s = some i ∧ hs[i]? = some x ∧ x.f.nm = s := by
        rcases HLP.out with ⟨h, _⟩ | ⟨i, y, h, h1, h2, h3⟩
        · cases h
        · injection h with h
          subst h
          exact ⟨i, h1, h2, h3⟩
      have hga : d.fs.getD i ⟨s, [], []⟩ = x.f := by rw [List.getD_eq_getElem?_getD, fs_at HO.out hi]; rfl
      have e : Dsk.read s d = (x.f.all, 0) := by
        unfold Dsk.read
        rw [if_neg (by rw [HDN.out]; decide), hres]
        simp only
        rw [hga]
      have hin := HO.out.file x (List.mem_of_getElem? hi)
      have hle := len_used (fs_at HO.out hi)
      have hu := HF.out.used
      have hal : x.f.all.length = x.f.sure.length + x.f.tail.length := x.f.len_all
      have hcl := bclone_any x.A x.f.all.length x.c x.f.all w (Rd.own hin.row) (by omega)
      obtain ⟨k0, k1⟩ := hin.cells
      obtain ⟨n, hn⟩ : ∃ n, x.f.all.length = n := ⟨_, rfl⟩
      rw [hn] at k0 hcl
      unfold pv at hfind
      have HE := Lib.hid e
      have HC := Lib.hid hcl
      clear e hcl hn hal hu hle hin hga hres hi hnm k1
      go_wp2_with fail
      refine HC.out.mono ?_
      rintro e u ⟨A', c', rfl, hown, hb⟩
      have HOW := Lib.hid hown
      have HB := Lib.hid hb
      clear hown hb HC
      go_wp2_with fail
      refine bodyPost_ret (v := .tuple #[.slice A' n c', .int .i64 0]) (by simp [results, Tryd.results20, go_sem]) rfl ?_
      rw [HE.out]
      refine ⟨A', n, c', rfl, HOW.out, S, di_below ⟨m, hs, HO.out⟩ HB.out, Grew.refl S w, Keeps.ofBelow HB.out, fun h0 ad e hS => ?_⟩
      subst e
      have h1 := (HOW.out.lt ad.block rfl).1
      have h2 := HO.out.lt _ hS
      omega
set_option maxRecDepth 20000 in
set_option maxHeartbeats 4000000 in
theorem dfuse_any (p : Nat) (S : Nat → Prop) (d : Dk) (n : Int) (w : World) (h : DI w S p d) :
    Calls Tryd.prog 12 #[ptr p, .int .i64 n] w (fun e w' => e = .returned (.tuple #[]) ∧ Stays DI p S { d with fuse := max n (-1) } w w') := by
  obtain ⟨M, hM⟩ : ∃ M : Int, max n (-1) = M := ⟨_, rfl⟩
  rw [hM]
  have hmx : ∀ (W : World) (ts : Array TypeId) (ty : TypeId), (Builtin.max_ ts ty #[.int .i64 n, .int .i64 (-1)]).run Tryd.prog W = .ok (.int .i64 M) W := fun W ts ty => by rw [Lib.run_max_ints, hM]
  obtain ⟨m, hs, ho⟩ := h
  obtain ⟨c0, c1, c2, c3⟩ := ho.cells
  have f2 := ho.box.soft 2
  have hb := ho.setp (d' := { d with fuse := M }) (set_grown w p 2 (.int .i64 M)) (ho.box.put 2 (.int .i64 M)) rfl
  have HD := Lib.hid (show Stays DI p S { d with fuse := M } w (w.setCell ⟨p, 2, none⟩ (.int .i64 M)) from ⟨S, ⟨m, hs, hb⟩, Grew.refl S w, Keeps.ofGrown (set_grown w p 2 (.int .i64 M)) ho.sp⟩)
  clear hM ho hb c0 c1 c3
  unfold ptr
  go_enter Tryd.func12, Tryd.ntmps12
  go_wp2_with fail
  go_end0
  exact ⟨rfl, HD.out⟩
end Go.Proofs.YthkbmmebfkaphaaDoor.Dsk
