/-
  Texts of earlier layers, as one.
-/
import Derived.Test.YthkbmmebfkaphaaDoorDskOn
import Derived.Test.YthkbmmebfkaphaaDoorRBase
import Derived.Deep.Cut
import Derived.Laws.Pointers
/- The program's Sync, Cut. -/
namespace Go.Proofs.YthkbmmebfkaphaaDoor.Dsk
open Go.RowKit Mem Go.Maps

/-- A file that was turned makes a deed. -/
theorem turn_does {w w' : World} {S : Nat → Prop} {p m i : Nat} {d : Dk} {hs : List Pf} {x : Pf} {g : Fl} (h : Own w S p m d hs) (hx : hs[i]? = some x) (ht : Turned x g w w') (hn : g.nm = x.f.nm) :
    Does DI p S (0, { d with fs := d.fs.set i g }) w (.returned (.int .i64 ((0 : Nat) : Int))) w' := by
  obtain ⟨x', rfl, hb, hin, hr, hk⟩ := ht
  have hmx : x ∈ hs := List.mem_of_getElem? hx
  exact ⟨rfl, Plus S w w', ⟨m, hs.set i x', h.setf hx hk hb hn hin hr rfl⟩, plus_grew, ⟨hk.os, hk.tape, hk.output, hk.size, fun k hk' hS => hk.block k hk' fun hh => hS (h.out x hmx k hh).2.2⟩⟩
theorem fs_at {w : World} {S : Nat → Prop} {p m i : Nat} {d : Dk} {hs : List Pf} {x : Pf} (h : Own w S p m d hs) (hx : hs[i]? = some x) : d.fs[i]? = some x.f := by rw [← h.fs, List.getElem?_map, hx]; rfl
theorem Turned.drewN {x : Pf} {g : Fl} {w w' : World} {q : Nat} (h : Turned x g (w.drewN q) w') : Turned x g w w' := by
  obtain ⟨x', a, b, c, d, e⟩ := h
  exact ⟨x', a, b, c, d, ⟨e.os, e.tape, e.output, e.size, e.block⟩⟩
set_option maxRecDepth 20000 in
set_option maxHeartbeats 4000000 in
theorem sync1_any (p m i : Nat) (S : Nat → Prop) (d : Dk) (hs : List Pf) (x : Pf) (s : ByteArray) (w : World) (h : Own w S p m d hs) (hx : hs[i]? = some x) (hp : place d.fs s = some i) :
    Calls Tryd.prog 44 #[.pointer (some ⟨x.b, 0, none⟩)] w (Does DI p S (doSync s d) w) := by
  have hin := h.file x (List.mem_of_getElem? hx)
  have e : doSync s d = (0, { d with fs := d.fs.set i ⟨x.f.nm, x.f.all, []⟩ }) := by
    unfold doSync
    rw [hp]
    simp only
    rw [modify_set _ (fs_at h hx)]
  rw [e]
  have hm := hin.mark (g := ⟨x.f.nm, x.f.all, []⟩) (List.append_nil _)
  have hk : Keeps x.has w (w.setCell ⟨x.b, 1, none⟩ (.int .i64 (x.f.all.length : Int))) := Keeps.ofGrown hm.2 (.inl rfl)
  have hv : ({ x with f := ⟨x.f.nm, x.f.all, []⟩ } : Pf).val = x.val := by
    unfold Pf.val
    show Value.slice x.A (x.f.all ++ []).length x.c = _
    rw [List.append_nil]
  have ht : Turned x ⟨x.f.nm, x.f.all, []⟩ w (w.setCell ⟨x.b, 1, none⟩ (.int .i64 (x.f.all.length : Int))) := ⟨{ x with f := ⟨x.f.nm, x.f.all, []⟩ }, rfl, rfl, hm.1, fun k hk => .inl (by rw [hv] at hk; exact hk), hk⟩
  have hd := turn_does h hx ht rfl
  obtain ⟨c0, c1⟩ := hin.cells
  have f1 := hin.box.soft 1
  obtain ⟨n, hn⟩ : ∃ n, x.f.all.length = n := ⟨_, rfl⟩
  rw [hn] at c0 hd
  have HD := Lib.hid hd
  clear hd ht hv hk hm e hin h hn hx hp
  go_enter Tryd.func44, Tryd.ntmps44
  go_wp2_with fail
  go_ret
  exact HD.out
set_option maxRecDepth 20000 in
set_option maxHeartbeats 4000000 in
theorem cut1_any (p m i bn : Nat) (S : Nat → Prop) (d : Dk) (hs : List Pf) (x : Pf) (s : ByteArray) (z : Int) (w : World) (h : Own w S p m d hs) (hx : hs[i]? = some x) (hp : place d.fs s = some i) (hl : x.f.all.length ≤ 1099511627776) (hb : Blk w bn 3 #[.int .i64 z]) :
    Calls Tryd.prog 37 #[.pointer (some ⟨x.b, 0, none⟩), .pointer (some ⟨bn, 0, none⟩)] w (Does DI p S (doCut s z d) w) := by
  have hin := h.file x (List.mem_of_getElem? hx)
  have hga : d.fs.getD i ⟨s, [], []⟩ = x.f := by rw [List.getD_eq_getElem?_getD, fs_at h hx]; rfl
  have q0 := hb.cell 0
  simp only [List.getElem?_toArray, List.getElem?_cons_zero] at q0
  obtain ⟨c0, c1⟩ := hin.cells
  obtain ⟨n, hn⟩ : ∃ n, x.f.all.length = n := ⟨_, rfl⟩
  by_cases hbad : z < 0 ∨ (n : Int) < z
  · have e : doCut s z d = (6, d) := by
      unfold doCut
      rw [hp]
      simp only
      rw [hga, hn, if_pos hbad]
    rw [e]
    have HD := Lib.hid (fun (q : Nat) => show Does DI p S (6, d) w (.returned (.int .i64 ((6 : Nat) : Int))) (w.drewN q) from Does.stay (di_below ⟨m, hs, h⟩ (below_drewN (Below.refl w.heap.size w) q)) (Keeps.ofBelow (below_drewN (Below.refl w.heap.size w) q)))
    rw [hn] at c0
    clear h hx hp hl hb hin hga e hn c1
    go_enter Tryd.func37, Tryd.ntmps37
    by_cases hz : z < 0
    · have b0 : decide (z < 0) = true := decide_eq_true hz
      clear hbad hz
      go_upto_region 1 with fail
      go_quiet (fail)
      go_wp2_with fail
      go_ret
      exact HD.out _
    · have b0 : decide (z < 0) = false := decide_eq_false hz
      have b1 : decide ((n : Int) < z) = true := decide_eq_true (hbad.resolve_left hz)
      clear hbad hz
      go_upto_region 1 with fail
      go_quiet (fail)
      go_wp2_with fail
      go_ret
      exact HD.out _
  · have hz0 : 0 ≤ z := by omega
    obtain ⟨k, rfl⟩ := Int.eq_ofNat_of_zero_le hz0
    have e : doCut s (k : Int) d = (0, { d with fs := d.fs.set i ⟨x.f.nm, x.f.all.take k, []⟩ }) := by
      unfold doCut
      rw [hp]
      simp only
      rw [hga, hn, if_neg hbad, modify_set _ (fs_at h hx)]
      rfl
    rw [e]
    have HC := Lib.hid (fun (q : Nat) => fcut_any x k (w.drewN q) (hin.keep fun _ _ => rfl) (by omega) hl)
    have HT := Lib.hid (fun (w' : World) (ht : Turned x ⟨x.f.nm, x.f.all.take k, []⟩ w w') => turn_does h hx ht rfl)
    have b0 : decide ((k : Int) < 0) = false := decide_eq_false (by omega)
    have b1 : decide ((n : Int) < (k : Int)) = false := decide_eq_false (by omega)
    have b2 : ¬ n < k := by omega
    rw [hn] at c0
    clear h hx hp hl hb hin hga e hn c1 hbad hz0
    go_enter Tryd.func37, Tryd.ntmps37
    go_upto_region 1 with fail
    go_quiet (fail)
    go_wp2_with fail
    refine (HC.out nq).mono ?_
    rintro e u ⟨rfl, ht⟩
    have HD := Lib.hid (HT.out u ht.drewN)
    clear ht HC HT
    go_wp2_with fail
    go_ret
    exact HD.out
set_option maxRecDepth 20000 in
set_option maxHeartbeats 4000000 in
theorem dsync_any (p : Nat) (S : Nat → Prop) (d : Dk) (s : ByteArray) (w : World) (h : DI w S p d) (hf : Fine d) (hs : s.size ≤ 9223372036854775807) :
    Calls Tryd.prog 25 #[ptr p, .string s] w (Does DI p S (whole (doSync s) d) w) := by
  have HC := Lib.hid (on_sync p S d (doSync s) s w h hf hs (fun d hn => by unfold doSync; rw [hn]) fun m hl i x w1 ho hx hnm hp _ _ => sync1_any p m i S (deed d) hl x s w1 ho hx hp)
  clear h
  unfold ptr
  go_enter Tryd.func25, Tryd.ntmps25
  go_wp2_with fail
  refine HC.out.mono ?_
  rintro e u ⟨rfl, hst⟩
  have HST := Lib.hid hst
  clear hst HC
  go_wp2_with fail
  go_ret
  exact ⟨rfl, HST.out⟩
set_option maxRecDepth 20000 in
set_option maxHeartbeats 4000000 in
theorem dcut_any (p : Nat) (S : Nat → Prop) (d : Dk) (s : ByteArray) (z : Int) (w : World) (h : DI w S p d) (hf : Fine d) (hs : s.size ≤ 9223372036854775807) :
    Calls Tryd.prog 22 #[ptr p, .string s, .int .i64 z] w (Does DI p S (whole (doCut s z) d) w) := by
  have hlt := di_lt h
  have hb := bel_alloc (Below.refl w.heap.size w) (.cells #[.int .i64 z] 3)
  have hk := Blk.new w 3 #[.int .i64 z]
  obtain ⟨w0, hw0⟩ : ∃ v, w.alloc (.cells #[.int .i64 z] 3) = v := ⟨_, rfl⟩
  have z0 : w0.heap.size = w.heap.size + 1 := by rw [← hw0]; simp
  rw [hw0] at hb hk
  have hc := on_cut p S d (doCut s z) s (.pointer (some ⟨w.heap.size, 0, none⟩)) w0 (di_below h hb) hf hs (fun d hn => by unfold doCut; rw [hn]) fun m hl i x w1 ho hx hnm hp hkp hz => by
    refine cut1_any p m i w.heap.size S (deed d) hl x s z w1 ho hx hp ?_ ((hkp _ (by omega) fun hS => by have := hlt _ hS; omega).trans hk)
    have := len_used (fs_at ho hx)
    have h2 := hf.deed.used
    rw [x.f.len_all]
    unfold Fl.len
    omega
  have HC := Lib.hid hc
  have HB := Lib.hid hb
  have HW := Lib.hid hw0
  clear hc hb hk hw0 h hlt z0
  unfold ptr
  go_enter Tryd.func22, Tryd.ntmps22
  go_upto_region 1 with fail
  rw [HW.out]
  go_wp2_with fail
  refine HC.out.mono ?_
  rintro e u hd
  obtain ⟨rfl, hst⟩ := hd.from (Keeps.ofBelow (S := S) HB.out) (fun k hk => hk)
  have HST := Lib.hid hst
  clear hst hd HC
  go_wp2_with fail
  go_ret
  exact ⟨rfl, HST.out⟩
end Go.Proofs.YthkbmmebfkaphaaDoor.Dsk
