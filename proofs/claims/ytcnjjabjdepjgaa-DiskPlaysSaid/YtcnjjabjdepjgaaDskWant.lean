/-
  Texts of earlier layers, as one.
-/
import Derived.Test.YtcnjjabjdepjgaaDskBoot
import Derived.Test.YtcnjjabjdepjgaaDskHave
import Derived.Test.YtcnjjabjdepjgaaRBase
import Derived.Deep.Cut
import Derived.Lib.MinMax
/- The document's acts. -/
namespace Go.Proofs.Ytcnjjabjdepjgaa.Dsk
open Go.RowKit Mem Cod

/-- An act: what it answers, and the disk behind it. -/
def act (z : Int) (x y : ByteArray) (p : List Nat) (nn : Int) (ks : List Int) (d : Dk) : (List Nat × Nat) × Dk :=
  if z = 0 then (([], (whole (doAppend x p) d).1), (whole (doAppend x p) d).2) else if z = 1 then (([], (whole (doSync x) d).1), (whole (doSync x) d).2) else
  if z = 2 then (([], (whole (doMove x y) d).1), (whole (doMove x y) d).2) else if z = 3 then (([], (whole (doRemove x) d).1), (whole (doRemove x) d).2) else
  if z = 4 then (Dsk.read x d, d) else if z = 5 then (([], 0), { d with fuse := max nn (-1) }) else if z = 6 then (([], 0), Dsk.boot ks d) else
  if z = 7 then (([], (whole (doCut x nn) d).1), (whole (doCut x nn) d).2) else (([], 0), d)
theorem blk6 {w : World} {g : Nat} {t : TypeId} {a b c d e f : Value} (h : Blk w g t #[a, b, c, d, e, f]) : w.cell? ⟨g, 0, none⟩ = some a ∧ w.cell? ⟨g, 1, none⟩ = some b ∧ w.cell? ⟨g, 2, none⟩ = some c ∧ w.cell? ⟨g, 3, none⟩ = some d ∧ w.cell? ⟨g, 4, none⟩ = some e ∧ w.cell? ⟨g, 5, none⟩ = some f :=
  ⟨h.cell 0, h.cell 1, h.cell 2, h.cell 3, h.cell 4, h.cell 5⟩
set_option maxRecDepth 20000 in
set_option maxHeartbeats 8000000 in
theorem want_any (g : Nat) (S : Nat → Prop) (d : Dk) (z : Int) (x y : ByteArray) (PA : Option Addr) (pn pc : Nat) (p : List Nat) (nn : Int) (KA : Option Addr) (kn kc : Nat) (ks : List Int) (w : World) (h : IsRef w S g d) (hfine : Fine d)
    (hp : Rd w PA pn pc (cs p)) (hpS : Outs S pn PA) (hk : Rd w KA kn kc (vs ks)) (hkS : Outs S kn KA) (hx : x.size ≤ 9223372036854775807) (hy : y.size ≤ 9223372036854775807) (hpn : pn ≤ 1099511627776) :
    Calls Try.prog 13 #[.pointer (some ⟨g, 0, none⟩), .agg #[.int .i64 z, .string x, .string y, .slice PA pn pc, .int .i64 nn, .slice KA kn kc]] w (fun e w' => ∃ A n c, e = .returned (.tuple #[.slice A n c, .int .i64 ((act z x y p nn ks d).1.2 : Int)]) ∧
      Rd w' A n c (cs (act z x y p nn ks d).1.1) ∧ ∃ S', IsRef w' S' g (act z x y p nn ks d).2 ∧ Grew S S' w ∧ Keeps S w w') := by
  have hbx := Blk.new w 34 #[.int .i64 z, .string x, .string y, .slice PA pn pc, .int .i64 nn, .slice KA kn kc]
  have hbe := bel_alloc (Below.refl w.heap.size w) (.cells #[.int .i64 z, .string x, .string y, .slice PA pn pc, .int .i64 nn, .slice KA kn kc] 34)
  obtain ⟨W, hW⟩ : ∃ v, w.alloc (.cells #[.int .i64 z, .string x, .string y, .slice PA pn pc, .int .i64 nn, .slice KA kn kc] 34) = v := ⟨_, rfl⟩
  rw [hW] at hbx hbe
  have hws := hbe.size
  have FN := Lib.hid (show ∀ (u : World) (D : Dk), (∃ S', IsRef u S' g D ∧ Grew S S' W ∧ Keeps S W u) → ∃ S', IsRef u S' g D ∧ Grew S S' w ∧ Keeps S w u from fun u D ⟨S', h1, h2, h3⟩ =>
    ⟨S', h1, fun k hk => (h2 k hk).imp id fun h => by omega, (Keeps.ofBelow hbe).trans h3 (Grew.refl S w)⟩)
  have HR := Lib.hid (h.below hbe)
  have HP := Lib.hid (hp.below hbe)
  have HK := Lib.hid (hk.below hbe)
  have HW := Lib.hid hW
  obtain ⟨x0, x1, x2, x3, x4, x5⟩ := blk6 hbx
  clear h hp hk hbe hbx hW hws
  by_cases h0 : z = 0
  · subst h0
    have ha : act 0 x y p nn ks d = (([], (whole (doAppend x p) d).1), (whole (doAppend x p) d).2) := by simp [act]
    rw [ha]
    have HA := Lib.hid (append_any g S d x PA pn pc p W HR.out hfine HP.out hpS hx hpn)
    obtain ⟨r, hr⟩ : ∃ r, whole (doAppend x p) d = r := ⟨_, rfl⟩
    rw [hr] at HA ⊢
    clear ha hr
    go_enter Try.func13, Try.ntmps13
    go_upto_region 1 with fail
    rw [HW.out]
    go_wp2_with fail
    refine HA.out.mono ?_
    rintro e u ⟨rfl, hs⟩
    have HS := Lib.hid (FN.out u _ hs)
    clear hs HA
    go_wp2_with fail
    refine bodyPost_ret (v := .tuple #[.slice none 0 0, .int .i64 (r.1 : Int)]) (by simp [results, Try.results13, go_sem]) rfl ?_
    exact ⟨none, 0, 0, rfl, Rd.nil_ _, HS.out⟩
  by_cases h1 : z = 1
  · subst h1
    have ha : act 1 x y p nn ks d = (([], (whole (doSync x) d).1), (whole (doSync x) d).2) := by simp [act]
    rw [ha]
    have HA := Lib.hid (sync_any g S d x W HR.out hfine)
    obtain ⟨r, hr⟩ : ∃ r, whole (doSync x) d = r := ⟨_, rfl⟩
    rw [hr] at HA ⊢
    clear ha hr
    go_enter Try.func13, Try.ntmps13
    go_upto_region 1 with fail
    rw [HW.out]
    go_wp2_with fail
    refine HA.out.mono ?_
    rintro e u ⟨rfl, hs⟩
    have HS := Lib.hid (FN.out u _ hs)
    clear hs HA
    go_wp2_with fail
    refine bodyPost_ret (v := .tuple #[.slice none 0 0, .int .i64 (r.1 : Int)]) (by simp [results, Try.results13, go_sem]) rfl ?_
    exact ⟨none, 0, 0, rfl, Rd.nil_ _, HS.out⟩
  by_cases h2 : z = 2
  · subst h2
    have ha : act 2 x y p nn ks d = (([], (whole (doMove x y) d).1), (whole (doMove x y) d).2) := by simp [act]
    rw [ha]
    have HA := Lib.hid (move_any g S d x y W HR.out hfine hy)
    obtain ⟨r, hr⟩ : ∃ r, whole (doMove x y) d = r := ⟨_, rfl⟩
    rw [hr] at HA ⊢
    clear ha hr
    go_enter Try.func13, Try.ntmps13
    go_upto_region 1 with fail
    rw [HW.out]
    go_wp2_with fail
    refine HA.out.mono ?_
    rintro e u ⟨rfl, hs⟩
    have HS := Lib.hid (FN.out u _ hs)
    clear hs HA
    go_wp2_with fail
    refine bodyPost_ret (v := .tuple #[.slice none 0 0, .int .i64 (r.1 : Int)]) (by simp [results, Try.results13, go_sem]) rfl ?_
    exact ⟨none, 0, 0, rfl, Rd.nil_ _, HS.out⟩
  by_cases h3 : z = 3
  · subst h3
    have ha : act 3 x y p nn ks d = (([], (whole (doRemove x) d).1), (whole (doRemove x) d).2) := by simp [act]
    rw [ha]
    have HA := Lib.hid (remove_any g S d x W HR.out hfine)
    obtain ⟨r, hr⟩ : ∃ r, whole (doRemove x) d = r := ⟨_, rfl⟩
    rw [hr] at HA ⊢
    clear ha hr
    go_enter Try.func13, Try.ntmps13
    go_upto_region 1 with fail
    rw [HW.out]
    go_wp2_with fail
    refine HA.out.mono ?_
    rintro e u ⟨rfl, hs⟩
    have HS := Lib.hid (FN.out u _ hs)
    clear hs HA
    go_wp2_with fail
    refine bodyPost_ret (v := .tuple #[.slice none 0 0, .int .i64 (r.1 : Int)]) (by simp [results, Try.results13, go_sem]) rfl ?_
    exact ⟨none, 0, 0, rfl, Rd.nil_ _, HS.out⟩
  by_cases h4 : z = 4
  · subst h4
    have ha : act 4 x y p nn ks d = (Dsk.read x d, d) := by simp [act]
    rw [ha]
    have HA := Lib.hid (read_any g S d x W HR.out hfine)
    obtain ⟨r, hr⟩ : ∃ r, Dsk.read x d = r := ⟨_, rfl⟩
    rw [hr] at HA ⊢
    clear ha hr
    go_enter Try.func13, Try.ntmps13
    go_upto_region 1 with fail
    rw [HW.out]
    go_wp2_with fail
    refine HA.out.mono ?_
    rintro e u ⟨V, n, c, rfl, hrd, hb⟩
    have HS := Lib.hid (FN.out u d ⟨S, HR.out.below hb, Grew.refl S W, Keeps.ofBelow hb⟩)
    have HD := Lib.hid hrd
    clear hrd hb HA
    go_wp2_with fail
    refine bodyPost_ret (v := .tuple #[.slice V n c, .int .i64 (r.2 : Int)]) (by simp [results, Try.results13, go_sem]) rfl ?_
    exact ⟨V, n, c, rfl, HD.out, HS.out⟩
  by_cases h5 : z = 5
  · subst h5
    have ha : act 5 x y p nn ks d = (([], 0), { d with fuse := max nn (-1) }) := by simp [act]
    rw [ha]
    clear ha
    obtain ⟨A, c, hbk, hSg, hlt, hown, hfi⟩ := HR.out
    have z2 := hbk.soft 2
    have p2 := (cells_dk hbk).2.2.1
    obtain ⟨M, hM⟩ : ∃ M : Int, max nn (-1) = M := ⟨_, rfl⟩
    rw [hM]
    have hmx : ∀ (W : World) (ts : Array TypeId) (ty : TypeId), (Builtin.max_ ts ty #[.int .i64 nn, .int .i64 (-1)]).run Try.prog W = .ok (.int .i64 M) W := fun W ts ty => by rw [Lib.run_max_ints, hM]
    have HBK := Lib.hid hbk
    clear hbk hSg hlt hown hfi hM
    go_enter Try.func13, Try.ntmps13
    go_upto_region 1 with fail
    rw [HW.out]
    go_wp2_with fail
    refine bodyPost_ret (v := .tuple #[.slice none 0 0, .int .i64 0]) (by simp [results, Try.results13, go_sem]) rfl ?_
    have h2 := blk_fuse HBK.out (.int .i64 M)
    refine ⟨none, 0, 0, rfl, Rd.nil_ _, FN.out _ _ ⟨S, HR.out.own h2.2 rfl (fun A' n' c' h => (blk_fuse h _).1), Grew.refl S W, Keeps.ofGrown h2.2 HR.out.choose_spec.choose_spec.2.1⟩⟩
  by_cases h6 : z = 6
  · subst h6
    have ha : act 6 x y p nn ks d = (([], 0), Dsk.boot ks d) := by simp [act]
    rw [ha]
    have HA := Lib.hid (boot_any g S d KA kn kc ks W HR.out hfine HK.out hkS)
    clear ha
    go_enter Try.func13, Try.ntmps13
    go_upto_region 1 with fail
    rw [HW.out]
    go_wp2_with fail
    refine HA.out.mono ?_
    rintro e u ⟨rfl, hs⟩
    have HS := Lib.hid (FN.out u _ hs)
    clear hs HA
    go_wp2_with fail
    refine bodyPost_ret (v := .tuple #[.slice none 0 0, .int .i64 0]) (by simp [results, Try.results13, go_sem]) rfl ?_
    exact ⟨none, 0, 0, rfl, Rd.nil_ _, HS.out⟩
  by_cases h7 : z = 7
  · subst h7
    have ha : act 7 x y p nn ks d = (([], (whole (doCut x nn) d).1), (whole (doCut x nn) d).2) := by simp [act]
    rw [ha]
    have HA := Lib.hid (cut_any g S d x nn W HR.out hfine)
    obtain ⟨r, hr⟩ : ∃ r, whole (doCut x nn) d = r := ⟨_, rfl⟩
    rw [hr] at HA ⊢
    clear ha hr
    go_enter Try.func13, Try.ntmps13
    go_upto_region 1 with fail
    rw [HW.out]
    go_wp2_with fail
    refine HA.out.mono ?_
    rintro e u ⟨rfl, hs⟩
    have HS := Lib.hid (FN.out u _ hs)
    clear hs HA
    go_wp2_with fail
    refine bodyPost_ret (v := .tuple #[.slice none 0 0, .int .i64 (r.1 : Int)]) (by simp [results, Try.results13, go_sem]) rfl ?_
    exact ⟨none, 0, 0, rfl, Rd.nil_ _, HS.out⟩
  have ha : act z x y p nn ks d = (([], 0), d) := by simp [act, h0, h1, h2, h3, h4, h5, h6, h7]
  rw [ha]
  clear ha
  go_enter Try.func13, Try.ntmps13
  go_upto_region 1 with fail
  rw [HW.out]
  go_wp2_with fail
  refine bodyPost_ret (v := .tuple #[.slice none 0 0, .int .i64 0]) (by simp [results, Try.results13, go_sem]) rfl ?_
  exact ⟨none, 0, 0, rfl, Rd.nil_ _, FN.out W d ⟨S, HR.out, Grew.refl S W, Keeps.refl S W⟩⟩
end Go.Proofs.Ytcnjjabjdepjgaa.Dsk
