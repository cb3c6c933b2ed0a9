/-
  Texts of earlier layers, as one.
-/
import Derived.Test.YtcnjjabjdepjgaaDskWant
import Derived.Test.YtcnjjabjdepjgaaRBase
import Derived.Deep.Cut
/- The program's acts, over what is asked of its disk. -/
namespace Go.Proofs.Ytcnjjabjdepjgaa.Dsk
open Go.RowKit Mem Cod

/-- .. and a row lies outside of it. -/
def StaysO (I : Held) (q : Nat) (S : Nat → Prop) (d : Dk) (w w' : World) (n : Nat) (A : Option Addr) : Prop := ∃ S', I w' S' q d ∧ Grew S S' w ∧ Keeps S w w' ∧ Outs S' n A
theorem Stays.outs {I : Held} {q : Nat} {S : Nat → Prop} {d : Dk} {w w' : World} {n : Nat} {A : Option Addr} (h : Stays I q S d w w') (hA : A = none ∨ n = 0) : StaysO I q S d w w' n A := by
  obtain ⟨S', h1, h2, h3⟩ := h
  refine ⟨S', h1, h2, h3, fun h0 ad e => ?_⟩
  rcases hA with rfl | rfl
  · cases e
  · omega
set_option maxRecDepth 20000 in
set_option maxHeartbeats 8000000 in
theorem do_any {I : Held} (hH : Has I) (q : Nat) (S : Nat → Prop) (d : Dk) (z : Int) (x y : ByteArray) (PA : Option Addr) (pn pc : Nat) (p : List Nat) (nn : Int) (KA : Option Addr) (kn kc : Nat) (ks : List Int) (w : World) (h : I w S q d) (hfine : Fine d)
    (hp : Rd w PA pn pc (cs p)) (hpS : Outs S pn PA) (hk : Rd w KA kn kc (vs ks)) (hkS : Outs S kn KA) (hx : x.size ≤ 9223372036854775807) (hy : y.size ≤ 9223372036854775807) (hpn : pn ≤ 1099511627776) :
    Calls Try.prog 12 #[ptr q, .agg #[.int .i64 z, .string x, .string y, .slice PA pn pc, .int .i64 nn, .slice KA kn kc]] w (fun e w' => ∃ A n c, e = .returned (.tuple #[.slice A n c, .int .i64 ((act z x y p nn ks d).1.2 : Int)]) ∧
      w'.ownsRow w.heap.size 5 1 (.slice A n c) n (cs (act z x y p nn ks d).1.1) ∧ StaysO I q S (act z x y p nn ks d).2 w w' n A) := by
  have hbx := Blk.new w 34 #[.int .i64 z, .string x, .string y, .slice PA pn pc, .int .i64 nn, .slice KA kn kc]
  have hbe := bel_alloc (Below.refl w.heap.size w) (.cells #[.int .i64 z, .string x, .string y, .slice PA pn pc, .int .i64 nn, .slice KA kn kc] 34)
  obtain ⟨W, hW⟩ : ∃ v, w.alloc (.cells #[.int .i64 z, .string x, .string y, .slice PA pn pc, .int .i64 nn, .slice KA kn kc] 34) = v := ⟨_, rfl⟩
  rw [hW] at hbx hbe
  have hws := hbe.size
  have FN := Lib.hid (show ∀ (u : World) (D : Dk) (n : Nat) (A : Option Addr), StaysO I q S D W u n A → StaysO I q S D w u n A from fun u D n A ⟨S', h1, h2, h3, h4⟩ =>
    ⟨S', h1, fun k hk => (h2 k hk).imp id fun h => by omega, (Keeps.ofBelow hbe).trans h3 (Grew.refl S w), h4⟩)
  have HR := Lib.hid (hH.keep h (T := fun _ => False) (Keeps.ofBelow hbe) fun _ _ h => h)
  have HP := Lib.hid (hp.below hbe)
  have HK := Lib.hid (hk.below hbe)
  have HW := Lib.hid hW
  obtain ⟨x0, x1, x2, x3, x4, x5⟩ := blk6 hbx
  clear h hp hk hbe hbx hW
  by_cases h0 : z = 0
  · subst h0
    have ha : act 0 x y p nn ks d = (([], (whole (doAppend x p) d).1), (whole (doAppend x p) d).2) := by simp [act]
    rw [ha]
    have HA := Lib.hid (hH.append q S d x PA pn pc p W HR.out hfine HP.out hpS hx hpn)
    obtain ⟨r, hr⟩ : ∃ r, whole (doAppend x p) d = r := ⟨_, rfl⟩
    rw [hr] at HA ⊢
    clear ha hr
    go_enter Try.func12, Try.ntmps12
    go_upto_region 1 with fail
    rw [HW.out]
    go_wp2_with fail
    refine HA.out.mono ?_
    rintro e u ⟨rfl, hs⟩
    have HS := Lib.hid (hs.outs (n := 0) (A := none) (.inl rfl))
    clear hs HA
    go_wp2_with fail
    refine bodyPost_ret (v := .tuple #[.slice none 0 0, .int .i64 (r.1 : Int)]) (by simp [results, Try.results12, go_sem]) rfl ?_
    exact ⟨none, 0, 0, rfl, ⟨rfl, .inl ⟨rfl, rfl⟩⟩, FN.out _ _ _ _ HS.out⟩
  by_cases h1 : z = 1
  · subst h1
    have ha : act 1 x y p nn ks d = (([], (whole (doSync x) d).1), (whole (doSync x) d).2) := by simp [act]
    rw [ha]
    have HA := Lib.hid (hH.sync q S d x W HR.out hfine hx)
    obtain ⟨r, hr⟩ : ∃ r, whole (doSync x) d = r := ⟨_, rfl⟩
    rw [hr] at HA ⊢
    clear ha hr
    go_enter Try.func12, Try.ntmps12
    go_upto_region 1 with fail
    rw [HW.out]
    go_wp2_with fail
    refine HA.out.mono ?_
    rintro e u ⟨rfl, hs⟩
    have HS := Lib.hid (hs.outs (n := 0) (A := none) (.inl rfl))
    clear hs HA
    go_wp2_with fail
    refine bodyPost_ret (v := .tuple #[.slice none 0 0, .int .i64 (r.1 : Int)]) (by simp [results, Try.results12, go_sem]) rfl ?_
    exact ⟨none, 0, 0, rfl, ⟨rfl, .inl ⟨rfl, rfl⟩⟩, FN.out _ _ _ _ HS.out⟩
  by_cases h2 : z = 2
  · subst h2
    have ha : act 2 x y p nn ks d = (([], (whole (doMove x y) d).1), (whole (doMove x y) d).2) := by simp [act]
    rw [ha]
    have HA := Lib.hid (hH.move q S d x y W HR.out hfine hx hy)
    obtain ⟨r, hr⟩ : ∃ r, whole (doMove x y) d = r := ⟨_, rfl⟩
    rw [hr] at HA ⊢
    clear ha hr
    go_enter Try.func12, Try.ntmps12
    go_upto_region 1 with fail
    rw [HW.out]
    go_wp2_with fail
    refine HA.out.mono ?_
    rintro e u ⟨rfl, hs⟩
    have HS := Lib.hid (hs.outs (n := 0) (A := none) (.inl rfl))
    clear hs HA
    go_wp2_with fail
    refine bodyPost_ret (v := .tuple #[.slice none 0 0, .int .i64 (r.1 : Int)]) (by simp [results, Try.results12, go_sem]) rfl ?_
    exact ⟨none, 0, 0, rfl, ⟨rfl, .inl ⟨rfl, rfl⟩⟩, FN.out _ _ _ _ HS.out⟩
  by_cases h3 : z = 3
  · subst h3
    have ha : act 3 x y p nn ks d = (([], (whole (doRemove x) d).1), (whole (doRemove x) d).2) := by simp [act]
    rw [ha]
    have HA := Lib.hid (hH.remove q S d x W HR.out hfine hx)
    obtain ⟨r, hr⟩ : ∃ r, whole (doRemove x) d = r := ⟨_, rfl⟩
    rw [hr] at HA ⊢
    clear ha hr
    go_enter Try.func12, Try.ntmps12
    go_upto_region 1 with fail
    rw [HW.out]
    go_wp2_with fail
    refine HA.out.mono ?_
    rintro e u ⟨rfl, hs⟩
    have HS := Lib.hid (hs.outs (n := 0) (A := none) (.inl rfl))
    clear hs HA
    go_wp2_with fail
    refine bodyPost_ret (v := .tuple #[.slice none 0 0, .int .i64 (r.1 : Int)]) (by simp [results, Try.results12, go_sem]) rfl ?_
    exact ⟨none, 0, 0, rfl, ⟨rfl, .inl ⟨rfl, rfl⟩⟩, FN.out _ _ _ _ HS.out⟩
  by_cases h4 : z = 4
  · subst h4
    have ha : act 4 x y p nn ks d = (Dsk.read x d, d) := by simp [act]
    rw [ha]
    have HA := Lib.hid (hH.read q S d x W HR.out hfine hx)
    obtain ⟨r, hr⟩ : ∃ r, Dsk.read x d = r := ⟨_, rfl⟩
    rw [hr] at HA ⊢
    clear ha hr
    go_enter Try.func12, Try.ntmps12
    go_upto_region 1 with fail
    rw [HW.out]
    go_wp2_with fail
    refine HA.out.mono ?_
    rintro e u ⟨V, n, c, rfl, ho, hs⟩
    have HS := Lib.hid hs
    have HD := Lib.hid ho
    clear hs ho HA
    go_wp2_with fail
    refine bodyPost_ret (v := .tuple #[.slice V n c, .int .i64 (r.2 : Int)]) (by simp [results, Try.results12, go_sem]) rfl ?_
    exact ⟨V, n, c, rfl, own_low HD.out hws, FN.out _ _ _ _ HS.out⟩
  by_cases h5 : z = 5
  · subst h5
    have ha : act 5 x y p nn ks d = (([], 0), { d with fuse := max nn (-1) }) := by simp [act]
    rw [ha]
    have HA := Lib.hid (hH.fuse q S d nn W HR.out hfine)
    clear ha
    go_enter Try.func12, Try.ntmps12
    go_upto_region 1 with fail
    rw [HW.out]
    go_wp2_with fail
    refine HA.out.mono ?_
    rintro e u ⟨rfl, hs⟩
    have HS := Lib.hid (hs.outs (n := 0) (A := none) (.inl rfl))
    clear hs HA
    go_wp2_with fail
    refine bodyPost_ret (v := .tuple #[.slice none 0 0, .int .i64 0]) (by simp [results, Try.results12, go_sem]) rfl ?_
    exact ⟨none, 0, 0, rfl, ⟨rfl, .inl ⟨rfl, rfl⟩⟩, FN.out _ _ _ _ HS.out⟩
  by_cases h6 : z = 6
  · subst h6
    have ha : act 6 x y p nn ks d = (([], 0), Dsk.boot ks d) := by simp [act]
    rw [ha]
    have HA := Lib.hid (hH.boot q S d KA kn kc ks W HR.out hfine HK.out hkS)
    clear ha
    go_enter Try.func12, Try.ntmps12
    go_upto_region 1 with fail
    rw [HW.out]
    go_wp2_with fail
    refine HA.out.mono ?_
    rintro e u ⟨rfl, hs⟩
    have HS := Lib.hid (hs.outs (n := 0) (A := none) (.inl rfl))
    clear hs HA
    go_wp2_with fail
    refine bodyPost_ret (v := .tuple #[.slice none 0 0, .int .i64 0]) (by simp [results, Try.results12, go_sem]) rfl ?_
    exact ⟨none, 0, 0, rfl, ⟨rfl, .inl ⟨rfl, rfl⟩⟩, FN.out _ _ _ _ HS.out⟩
  by_cases h7 : z = 7
  · subst h7
    have ha : act 7 x y p nn ks d = (([], (whole (doCut x nn) d).1), (whole (doCut x nn) d).2) := by simp [act]
    rw [ha]
    have HA := Lib.hid (hH.cut q S d x nn W HR.out hfine hx)
    obtain ⟨r, hr⟩ : ∃ r, whole (doCut x nn) d = r := ⟨_, rfl⟩
    rw [hr] at HA ⊢
    clear ha hr
    go_enter Try.func12, Try.ntmps12
    go_upto_region 1 with fail
    rw [HW.out]
    go_wp2_with fail
    refine HA.out.mono ?_
    rintro e u ⟨rfl, hs⟩
    have HS := Lib.hid (hs.outs (n := 0) (A := none) (.inl rfl))
    clear hs HA
    go_wp2_with fail
    refine bodyPost_ret (v := .tuple #[.slice none 0 0, .int .i64 (r.1 : Int)]) (by simp [results, Try.results12, go_sem]) rfl ?_
    exact ⟨none, 0, 0, rfl, ⟨rfl, .inl ⟨rfl, rfl⟩⟩, FN.out _ _ _ _ HS.out⟩
  have ha : act z x y p nn ks d = (([], 0), d) := by simp [act, h0, h1, h2, h3, h4, h5, h6, h7]
  rw [ha]
  have HS := Lib.hid (show StaysO I q S d W W 0 none from ⟨S, HR.out, Grew.refl S W, Keeps.refl S W, fun h => absurd h (by omega)⟩)
  clear ha
  go_enter Try.func12, Try.ntmps12
  go_upto_region 1 with fail
  rw [HW.out]
  go_wp2_with fail
  refine bodyPost_ret (v := .tuple #[.slice none 0 0, .int .i64 0]) (by simp [results, Try.results12, go_sem]) rfl ?_
  exact ⟨none, 0, 0, rfl, ⟨rfl, .inl ⟨rfl, rfl⟩⟩, FN.out _ _ _ _ HS.out⟩
end Go.Proofs.Ytcnjjabjdepjgaa.Dsk
