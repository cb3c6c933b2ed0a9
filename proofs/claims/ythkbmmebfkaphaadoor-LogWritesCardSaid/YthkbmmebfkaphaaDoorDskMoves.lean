/-
  Texts of earlier layers, as one.
-/
import Derived.Test.YthkbmmebfkaphaaDoorDskSync1
import Derived.Test.YthkbmmebfkaphaaDoorDskName
import Derived.Test.YthkbmmebfkaphaaDoorRBase
import Derived.Deep.RegionHeld
import Derived.Deep.Cut
import Derived.Laws.Pointers
/- The program's Remove, Move. -/
namespace Go.Proofs.YthkbmmebfkaphaaDoor.Dsk
open Go.RowKit Mem Go.Maps

set_option maxRecDepth 20000 in
set_option maxHeartbeats 4000000 in
theorem remove1_any (p m i bd bs : Nat) (S : Nat → Prop) (d : Dk) (hs : List Pf) (x : Pf) (s : ByteArray) (w : World) (h : Own w S p m d hs) (hsz : s.size ≤ 9223372036854775807) (hp : place d.fs s = some i)
    (hb : Blk w bd 25 #[(.pointer (some ⟨p, 0, none⟩))]) (hc : Blk w bs 9 #[.string s]) (hbS : ¬ S bd) (hcS : ¬ S bs) :
    Calls Tryd.prog 60 #[.pointer (some ⟨x.b, 0, none⟩), .pointer (some ⟨bd, 0, none⟩), .pointer (some ⟨bs, 0, none⟩)] w (Does DI p S (doRemove s d) w) := by
  have e : doRemove s d = (0, { d with fs := drop s d.fs }) := by
    unfold doRemove
    rw [hp]
  rw [e]
  have q0 := hb.cell 0
  have q1 := hc.cell 0
  simp only [List.getElem?_toArray, List.getElem?_cons_zero] at q0 q1
  have HS0 := Lib.hid (show w.drew.cell? ⟨bd, 0, none⟩ = some (.pointer (some ⟨p, 0, none⟩)) ∧ w.drew.cell? ⟨bs, 0, none⟩ = some (.string s) ∧ w.drew.cell? ⟨p, 0, none⟩ = some (.map (some m)) from ⟨q0, q1, h.cells.1⟩)
  have HH := Lib.hid (show Own w.drew S p m d hs from h.below (Below.drew (Below.refl _ _)))
  have HSZ := Lib.hid hsz
  have HBM := Lib.hid (show bd ≠ m from fun e => hbS (e ▸ h.sm))
  have HSM := Lib.hid (show bs ≠ m from fun e => hcS (e ▸ h.sm))
  have HPM := Lib.hid h.pm
  clear h hsz hp hb hc hbS hcS e q0 q1
  go_enter Tryd.func60, Tryd.ntmps60
  go_upto_region 1 with fail
  refine wp_region_held_drew (S := (fun w' => w'.cell? ⟨bd, 0, none⟩ = some (.pointer (some ⟨p, 0, none⟩)) ∧ w'.cell? ⟨bs, 0, none⟩ = some (.string s) ∧ w'.cell? ⟨p, 0, none⟩ = some (.map (some m)))) (by kernel_rfl) (by first | (with_reducible exact HS2.out) | (with_reducible exact HS0.out)) (fun hHeld => ?_)
  refine held_take (i := 0) (d := 5) (v := (.pointer (some ⟨p, 0, none⟩))) rfl rfl (by kernel_rfl) (by kernel_rfl) (by kernel_rfl) (fun _ _ _ h => h) (by kernel_rfl) (fun w hSw => by (obtain ⟨hS0, hS1, hS2⟩ := hSw); go_simp) hHeld ?_
  try simp only [List.setIfInBounds_toArray, List.set_cons_zero, List.set_cons_succ]
  refine held_take (i := 1) (d := 6) (v := (.pointer (some ⟨p, 0, none⟩))) rfl rfl (by kernel_rfl) (by kernel_rfl) (by kernel_rfl) (fun _ _ _ h => h) (by kernel_rfl) (fun w hSw => by (obtain ⟨hS0, hS1, hS2⟩ := hSw); go_simp) hHeld ?_
  try simp only [List.setIfInBounds_toArray, List.set_cons_zero, List.set_cons_succ]
  refine held_take (i := 2) (d := 7) (v := (.pointer (some ⟨p, 0, none⟩))) rfl rfl (by kernel_rfl) (by kernel_rfl) (by kernel_rfl) (fun _ _ _ h => h) (by kernel_rfl) (fun w hSw => by (obtain ⟨hS0, hS1, hS2⟩ := hSw); go_simp) hHeld ?_
  try simp only [List.setIfInBounds_toArray, List.set_cons_zero, List.set_cons_succ]
  refine held_take (i := 3) (d := 8) (v := (.map (some m))) rfl rfl (by kernel_rfl) (by kernel_rfl) (by kernel_rfl) (fun _ _ _ h => h) (by kernel_rfl) (fun w hSw => by (obtain ⟨hS0, hS1, hS2⟩ := hSw); go_simp) hHeld ?_
  try simp only [List.setIfInBounds_toArray, List.set_cons_zero, List.set_cons_succ]
  refine held_take (i := 4) (d := 9) (v := (.string s)) rfl rfl (by kernel_rfl) (by kernel_rfl) (by kernel_rfl) (fun _ _ _ h => h) (by kernel_rfl) (fun w hSw => by (obtain ⟨hS0, hS1, hS2⟩ := hSw); go_simp) hHeld ?_
  try simp only [List.setIfInBounds_toArray, List.set_cons_zero, List.set_cons_succ]
  refine wpAnyH_ready (rs := [5]) (by kernel_rfl) (by simp) ?_
  refine AllReadyH.cons rfl (fun K hK => ?_) AllReadyH.nil
  obtain ⟨u2, hrun, hown, hgr0⟩ := HH.out.map.drop (t := 46) (e := 59) (string_keyed Tryd.underlying9) Tryd.underlying46 (WideMaps.keyOf_string_mk Tryd.underlying9 (s := s) (by have := HSZ.out; unfold maxLen; omega)) 0
  have hgr := hgr0.grown
  go_simp
  have HS2 := Lib.hid (show u2.cell? ⟨bd, 0, none⟩ = some (.pointer (some ⟨p, 0, none⟩)) ∧ u2.cell? ⟨bs, 0, none⟩ = some (.string s) ∧ u2.cell? ⟨p, 0, none⟩ = some (.map (some m)) from ⟨hgr.cell HS0.out.1 (fun e => HBM.out (by injection e)), hgr.cell HS0.out.2.1 (fun e => HSM.out (by injection e)), hgr.cell HS0.out.2.2 (fun e => HPM.out (by injection e))⟩)
  have HO := Lib.hid hown
  have HG := Lib.hid hgr
  clear hrun hown hgr hgr0
  refine hK.out _ _ (by first | (with_reducible exact HS2.out) | (with_reducible exact HS0.out)) (fun hHeld => ?_)
  clear hK K
  refine wpAnyH_done (by kernel_rfl) ?_ _
  go_wp2_with fail
  go_ret
  have hd := HH.out.dropf (s := s) HG.out (by have h := HO.out; rw [show Lit.string s.data.toList = key s from rfl, del_ent] at h; exact h)
  have hg := HG.out
  exact ⟨rfl, S, ⟨m, dropP s hs, hd⟩, Grew.refl S w, ⟨hg.os, hg.tape, hg.output, hg.size, fun k hk hS => hg.block k hk fun e => hS (by injection e with e; rw [e]; exact HH.out.sm)⟩⟩
set_option maxRecDepth 20000 in
set_option maxHeartbeats 4000000 in
theorem move1_any (p m i bt bd bs : Nat) (S : Nat → Prop) (d : Dk) (hs : List Pf) (x : Pf) (s t : ByteArray) (w : World) (h : Own w S p m d hs) (hl : hs.length ≤ 16) (hsz : s.size ≤ 9223372036854775807) (htz : t.size ≤ 9223372036854775807) (hx : hs[i]? = some x) (hxn : x.f.nm = s) (hp : place d.fs s = some i)
    (ha : Blk w bt 9 #[.string t]) (hb : Blk w bd 25 #[(.pointer (some ⟨p, 0, none⟩))]) (hc : Blk w bs 9 #[.string s]) (haS : ¬ S bt) (hbS : ¬ S bd) (hcS : ¬ S bs) :
    Calls Tryd.prog 61 #[.pointer (some ⟨x.b, 0, none⟩), .pointer (some ⟨bt, 0, none⟩), .pointer (some ⟨bd, 0, none⟩), .pointer (some ⟨bs, 0, none⟩)] w (Does DI p S (doMove s t d) w) := by
  have hmx := List.mem_of_getElem? hx
  have hin := h.file x hmx
  have hga : d.fs.getD i ⟨s, [], []⟩ = x.f := by rw [List.getD_eq_getElem?_getD, fs_at h hx]; rfl
  have q0 := hb.cell 0
  have q1 := hc.cell 0
  have q2 := ha.cell 0
  simp only [List.getElem?_toArray, List.getElem?_cons_zero] at q0 q1 q2
  have HN := Lib.hid (isname_any t w htz)
  obtain ⟨y, hy⟩ : ∃ y, isName t = y := ⟨_, rfl⟩
  rw [hy] at HN
  go_enter Tryd.func61, Tryd.ntmps61
  cases y with
  | false =>
    have e : doMove s t d = (1, d) := by
      unfold doMove
      rw [hp]
      simp only
      rw [if_pos hy]
    rw [e]
    have HD := Lib.hid (show Does DI p S (1, d) w (.returned (.int .i64 ((1 : Nat) : Int))) w from Does.stay ⟨m, hs, h⟩ (Keeps.refl S w))
    clear h hx hxn hp ha hb hc haS hbS hcS hmx hin hga hy e q0 q1
    go_wp2_with fail
    refine HN.out.mono ?_
    rintro e u ⟨rfl, hu⟩
    replace hu := hu.symm
    subst hu
    clear HN
    go_wp2_with fail
    go_ret
    exact HD.out
  | true =>
  have e : doMove s t d = (0, { d with fs := put ⟨t, x.f.all, []⟩ (drop t (drop s d.fs)) }) := by
    unfold doMove
    rw [hp]
    simp only
    rw [if_neg (by rw [hy]; decide), hga]
  rw [e]
  have ht16 : t.size ≤ 16 := by
    unfold isName at hy
    simp only [Bool.and_eq_true, decide_eq_true_eq] at hy
    exact hy.2.2
  have HS0 := Lib.hid (show w.drew.cell? ⟨bd, 0, none⟩ = some (.pointer (some ⟨p, 0, none⟩)) ∧ w.drew.cell? ⟨bs, 0, none⟩ = some (.string s) ∧ w.drew.cell? ⟨p, 0, none⟩ = some (.map (some m)) from ⟨q0, q1, h.cells.1⟩)
  have HH := Lib.hid (show Own w.drew S p m d hs from h.below (Below.drew (Below.refl _ _)))
  have HSZ := Lib.hid hsz
  have HTZ := Lib.hid ht16
  have HBM := Lib.hid (show bd ≠ m from fun e => hbS (e ▸ h.sm))
  have HSM := Lib.hid (show bs ≠ m from fun e => hcS (e ▸ h.sm))
  have HPM := Lib.hid h.pm
  have HBD := Lib.hid (show Blk w.drew bd _ _ from hb)
  have HBT := Lib.hid (show Blk w.drew bt _ _ from ha)
  have HAS := Lib.hid haS
  have HBS := Lib.hid hbS
  have HMX := Lib.hid hmx
  have HXN := Lib.hid hxn
  have HL := Lib.hid hl
  clear h hx hxn hp ha hb hc haS hbS hcS hmx hin hga hy e hl hsz htz ht16 q0 q1
  go_upto_region 3 with (go_at_call 41; refine HN.out.mono ?_; rintro e u ⟨rfl, hu⟩; replace hu := hu.symm; subst hu; clear HN)
  refine wp_region_held_drew (S := (fun w' => w'.cell? ⟨bd, 0, none⟩ = some (.pointer (some ⟨p, 0, none⟩)) ∧ w'.cell? ⟨bs, 0, none⟩ = some (.string s) ∧ w'.cell? ⟨p, 0, none⟩ = some (.map (some m)))) (by kernel_rfl) (by first | (with_reducible exact HS2.out) | (with_reducible exact HS0.out)) (fun hHeld => ?_)
  refine held_take (i := 0) (d := 9) (v := (.pointer (some ⟨p, 0, none⟩))) rfl rfl (by kernel_rfl) (by kernel_rfl) (by kernel_rfl) (fun _ _ _ h => h) (by kernel_rfl) (fun w hSw => by (obtain ⟨hS0, hS1, hS2⟩ := hSw); go_simp) hHeld ?_
  try simp only [List.setIfInBounds_toArray, List.set_cons_zero, List.set_cons_succ]
  refine held_take (i := 1) (d := 10) (v := (.pointer (some ⟨p, 0, none⟩))) rfl rfl (by kernel_rfl) (by kernel_rfl) (by kernel_rfl) (fun _ _ _ h => h) (by kernel_rfl) (fun w hSw => by (obtain ⟨hS0, hS1, hS2⟩ := hSw); go_simp) hHeld ?_
  try simp only [List.setIfInBounds_toArray, List.set_cons_zero, List.set_cons_succ]
  refine held_take (i := 2) (d := 11) (v := (.pointer (some ⟨p, 0, none⟩))) rfl rfl (by kernel_rfl) (by kernel_rfl) (by kernel_rfl) (fun _ _ _ h => h) (by kernel_rfl) (fun w hSw => by (obtain ⟨hS0, hS1, hS2⟩ := hSw); go_simp) hHeld ?_
  try simp only [List.setIfInBounds_toArray, List.set_cons_zero, List.set_cons_succ]
  refine held_take (i := 3) (d := 12) (v := (.map (some m))) rfl rfl (by kernel_rfl) (by kernel_rfl) (by kernel_rfl) (fun _ _ _ h => h) (by kernel_rfl) (fun w hSw => by (obtain ⟨hS0, hS1, hS2⟩ := hSw); go_simp) hHeld ?_
  try simp only [List.setIfInBounds_toArray, List.set_cons_zero, List.set_cons_succ]
  refine held_take (i := 4) (d := 13) (v := (.string s)) rfl rfl (by kernel_rfl) (by kernel_rfl) (by kernel_rfl) (fun _ _ _ h => h) (by kernel_rfl) (fun w hSw => by (obtain ⟨hS0, hS1, hS2⟩ := hSw); go_simp) hHeld ?_
  try simp only [List.setIfInBounds_toArray, List.set_cons_zero, List.set_cons_succ]
  refine wpAnyH_ready (rs := [5]) (by kernel_rfl) (by simp) ?_
  refine AllReadyH.cons rfl (fun K hK => ?_) AllReadyH.nil
  obtain ⟨u2, hrun, hown, hgr0⟩ := HH.out.map.drop (t := 46) (e := 59) (string_keyed Tryd.underlying9) Tryd.underlying46 (WideMaps.keyOf_string_mk Tryd.underlying9 (s := s) (by have := HSZ.out; unfold maxLen; omega)) 0
  have hgr := hgr0.grown
  go_simp
  have HS2 := Lib.hid (show u2.cell? ⟨bd, 0, none⟩ = some (.pointer (some ⟨p, 0, none⟩)) ∧ u2.cell? ⟨bs, 0, none⟩ = some (.string s) ∧ u2.cell? ⟨p, 0, none⟩ = some (.map (some m)) from ⟨hgr.cell HS0.out.1 (fun e => HBM.out (by injection e)), hgr.cell HS0.out.2.1 (fun e => HSM.out (by injection e)), hgr.cell HS0.out.2.2 (fun e => HPM.out (by injection e))⟩)
  have HO := Lib.hid hown
  have HG := Lib.hid hgr
  clear hrun hown hgr hgr0
  refine hK.out _ _ (by first | (with_reducible exact HS2.out) | (with_reducible exact HS0.out)) (fun hHeld => ?_)
  clear hK K
  refine wpAnyH_done (by kernel_rfl) ?_ _
  skip
  have hh := HH.out
  have hg := HG.out
  have hx := hh.file x HMX.out
  have hout := hh.out x HMX.out
  have hd := hh.dropf (s := s) hg (by have h := HO.out; rw [show Lit.string s.data.toList = key s from rfl, del_ent] at h; exact h)
  have hx2 : PfIn u2 x := hx.keep fun k hk => hg.block k (hx.lt hk) fun e => (hout k hk).2.1 (by injection e)
  have hnot : ∀ y ∈ dropP s hs, ∀ k, y.has k → ¬ x.has k := fun y hy k hyk => hh.off y (mem_dropP.1 hy).1 x HMX.out (fun e => (mem_dropP.1 hy).2 (e.trans HXN.out)) k hyk
  have hm := hx2.mark (g := ⟨t, x.f.all, []⟩) (List.append_nil _)
  have hv : ({ x with f := ⟨t, x.f.all, []⟩ } : Pf).val = x.val := by
    unfold Pf.val
    show Value.slice x.A (x.f.all ++ []).length x.c = _
    rw [List.append_nil]
  have hhas : ∀ k, ({ x with f := ⟨t, x.f.all, []⟩ } : Pf).has k ↔ x.has k := fun k => by unfold Pf.has; rw [hv]
  obtain ⟨w3, hw3⟩ : ∃ v, u2.setCell ⟨x.b, 1, none⟩ (.int .i64 (((⟨t, x.f.all, []⟩ : Fl).sure.length : Nat) : Int)) = v := ⟨_, rfl⟩
  rw [hw3] at hm
  have hown3 : Own w3 S p m { d with fs := drop s d.fs } (dropP s hs) := hd.same hm.2.size fun k hk => hm.2.block k (hd.lt k (hd.inS hk)) fun e => by
    injection e with e
    subst e
    rcases hk with hk | hk | ⟨y, hy, hk⟩
    · exact (hout _ (.inl rfl)).1 hk
    · exact (hout _ (.inl rfl)).2.1 hk
    · exact hnot y hy _ hk (.inl rfl)
  have hS3 : S x.b := (hout _ (.inl rfl)).2.2
  have hb3 : Blk w3 bd 25 #[(.pointer (some ⟨p, 0, none⟩))] := (hm.2.block bd (by have := HBD.out.lt; have := hg.size; omega) fun e => HBS.out (by injection e with e; rw [e]; exact hS3)).trans ((hg.block bd HBD.out.lt fun e => HBM.out (by injection e)).trans HBD.out)
  have ht3 : Blk w3 bt 9 #[.string t] := (hm.2.block bt (by have := HBT.out.lt; have := hg.size; omega) fun e => HAS.out (by injection e with e; rw [e]; exact hS3)).trans ((hg.block bt HBT.out.lt fun e => HAS.out (by injection e with e; rw [e]; exact hh.sm)).trans HBT.out)
  have hput := dput_any p m S { d with fs := drop s d.fs } (dropP s hs) { x with f := ⟨t, x.f.all, []⟩ } t w3 hown3 (by have h1 := HL.out; have h2 := List.length_filter_le (fun h : Pf => !eqn h.f.nm s) hs; unfold dropP; omega) (by have := HTZ.out; omega) rfl hm.1
    (fun k hk => hout k ((hhas k).1 hk)) (fun y hy _ k hyk hk => hnot y hy k hyk ((hhas k).1 hk))
  have HPUT := Lib.hid hput
  have HK3 := Lib.hid (show Keeps S w w3 from ⟨hm.2.os.trans hg.os, hm.2.tape.trans hg.tape, hm.2.output.trans hg.output, Nat.le_trans hg.size hm.2.size, fun k hk hS => (hm.2.block k (Nat.lt_of_lt_of_le hk hg.size) fun e => hS (by injection e with e; rw [e]; exact hS3)).trans (hg.block k hk fun e => hS (by injection e with e; rw [e]; exact hh.sm))⟩)
  have HSM2 := Lib.hid hh.sm
  obtain ⟨c0, c1⟩ := hx2.cells
  have f1 := hx2.box.soft 1
  obtain ⟨n, hn⟩ : ∃ n, x.f.all.length = n := ⟨_, rfl⟩
  have hw4 : u2.setCell ⟨x.b, 1, none⟩ (.int .i64 (n : Int)) = w3 := by rw [← hw3]; show _ = u2.setCell _ (.int .i64 (x.f.all.length : Int)); rw [hn]
  rw [hn] at c0
  have HW4 := Lib.hid hw4
  have t0 := ht3.cell 0
  have t1 := hb3.cell 0
  simp only [List.getElem?_toArray, List.getElem?_cons_zero] at t0 t1
  clear hh hg hx hout hd hx2 hnot hm hv hhas hw3 hw4 hown3 hS3 hb3 ht3 hput hn HH HG HO HS0 HS2 HBD HBT
  go_upto_region 5 with fail
  rw [HW4.out]
  go_wp2_with fail
  with_reducible refine HPUT.out.mono ?_
  rintro e u5 ⟨rfl, ho5, hk5⟩
  have HD := Lib.hid (show Does DI p S (0, { d with fs := put ⟨t, x.f.all, []⟩ (drop t (drop s d.fs)) }) w (.returned (.int .i64 ((0 : Nat) : Int))) u5 from by
    have hk3 := HK3.out
    refine ⟨rfl, S, ⟨m, _, ho5⟩, Grew.refl S w, ⟨hk5.os.trans hk3.os, hk5.tape.trans hk3.tape, hk5.output.trans hk3.output, Nat.le_trans hk3.size hk5.size, fun k hk hS => ?_⟩⟩
    exact (hk5.block k (Nat.lt_of_lt_of_le hk hk3.size) fun e => hS (by rw [e]; exact HSM2.out)).trans (hk3.block k hk hS))
  clear ho5 hk5 HPUT
  go_wp2_with fail
  go_ret
  exact HD.out
end Go.Proofs.YthkbmmebfkaphaaDoor.Dsk
