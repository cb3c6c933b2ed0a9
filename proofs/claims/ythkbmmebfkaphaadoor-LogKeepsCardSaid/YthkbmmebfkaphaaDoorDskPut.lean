/-
  Texts of earlier layers, as one.
-/
import Derived.Test.YthkbmmebfkaphaaDoorDskFile
import Derived.Test.YthkbmmebfkaphaaDoorRBase
import Derived.Deep.RegionHeld
/- The program's put: a file stands in the map by its name. -/
namespace Go.Proofs.YthkbmmebfkaphaaDoor.Dsk
open Go.RowKit Mem Go.Maps

set_option maxRecDepth 20000 in
set_option maxHeartbeats 4000000 in
theorem dput_any (p m : Nat) (S : Nat → Prop) (d : Dk) (hs : List Pf) (x : Pf) (s : ByteArray) (w : World) (h : Own w S p m d hs) (hl : hs.length ≤ 16) (hsz : s.size ≤ 281474976710656) (hn : x.f.nm = s) (hin : PfIn w x)
    (ho : ∀ k, x.has k → k ≠ p ∧ k ≠ m ∧ S k) (hoff : ∀ y ∈ hs, y.f.nm ≠ x.f.nm → ∀ k, y.has k → ¬ x.has k) :
    Calls Tryd.prog 43 #[.pointer (some ⟨p, 0, none⟩), .string s, .pointer (some ⟨x.b, 0, none⟩)] w (fun e w' => e = .returned (.tuple #[]) ∧ Own w' S p m { d with fs := put x.f (drop s d.fs) } (putP x (dropP s hs)) ∧ Keeps (fun k => k = m) w w') := by
  have hcl := sclone_any s w.drew hsz
  have c0 := h.cells.1
  obtain ⟨b, hb⟩ : ∃ b, x.b = b := ⟨_, rfl⟩
  rw [hb]
  have HCL := Lib.hid hcl
  have HS0 := Lib.hid (show w.drew.cell? ⟨p, 0, none⟩ = some (.map (some m)) from c0)
  have HPL := Lib.hid (show p < w.drew.heap.size from h.box.lt)
  have HPM := Lib.hid h.pm
  have HH := Lib.hid h
  have HL := Lib.hid hl
  have HSZ := Lib.hid hsz
  have HN := Lib.hid hn
  have HXB := Lib.hid hb
  have HIN := Lib.hid hin
  have HOUT := Lib.hid ho
  have HOFF := Lib.hid hoff
  clear hcl c0 h hl hsz hn hb hin ho hoff
  go_enter Tryd.func43, Tryd.ntmps43
  go_upto_region 0 with fail
  refine wp_region_held_drew (S := (fun w' => w'.cell? ⟨p, 0, none⟩ = some (.map (some m)))) (by kernel_rfl) (by first | (with_reducible exact HS2.out) | (with_reducible exact HS1.out) | (with_reducible exact HS0.out)) (fun hHeld => ?_)
  refine held_take (i := 0) (d := 6) (v := (.pointer (some ⟨p, 0, none⟩))) rfl rfl (by kernel_rfl) (by kernel_rfl) (by kernel_rfl) (fun _ _ _ h => h) (by kernel_rfl) (fun w hSw => by (obtain hS := hSw); go_simp) hHeld ?_
  try simp only [List.setIfInBounds_toArray, List.set_cons_zero, List.set_cons_succ]
  refine held_take (i := 1) (d := 7) (v := (.pointer (some ⟨p, 0, none⟩))) rfl rfl (by kernel_rfl) (by kernel_rfl) (by kernel_rfl) (fun _ _ _ h => h) (by kernel_rfl) (fun w hSw => by (obtain hS := hSw); go_simp) hHeld ?_
  try simp only [List.setIfInBounds_toArray, List.set_cons_zero, List.set_cons_succ]
  refine held_take (i := 2) (d := 8) (v := (.pointer (some ⟨p, 0, none⟩))) rfl rfl (by kernel_rfl) (by kernel_rfl) (by kernel_rfl) (fun _ _ _ h => h) (by kernel_rfl) (fun w hSw => by (obtain hS := hSw); go_simp) hHeld ?_
  try simp only [List.setIfInBounds_toArray, List.set_cons_zero, List.set_cons_succ]
  refine held_take (i := 3) (d := 9) (v := (.map (some m))) rfl rfl (by kernel_rfl) (by kernel_rfl) (by kernel_rfl) (fun _ _ _ h => h) (by kernel_rfl) (fun w hS => by go_simp) hHeld ?_
  try simp only [List.setIfInBounds_toArray, List.set_cons_zero, List.set_cons_succ]
  refine held_take (i := 4) (d := 10) (v := (.string s)) rfl rfl (by kernel_rfl) (by kernel_rfl) (by kernel_rfl) (fun _ _ _ h => h) (by kernel_rfl) (fun w hSw => by (obtain hS := hSw); go_simp) hHeld ?_
  try simp only [List.setIfInBounds_toArray, List.set_cons_zero, List.set_cons_succ]
  refine held_take (i := 6) (d := 12) (v := (.pointer (some ⟨b, 0, none⟩))) rfl rfl (by kernel_rfl) (by kernel_rfl) (by kernel_rfl) (fun _ _ _ h => h) (by kernel_rfl) (fun w hSw => by (obtain hS := hSw); go_simp) hHeld ?_
  try simp only [List.setIfInBounds_toArray, List.set_cons_zero, List.set_cons_succ]
  refine wpAnyH_ready (rs := [5]) (by kernel_rfl) (by simp) ?_
  refine AllReadyH.cons rfl (fun K hK => ?_) AllReadyH.nil
  go_simp
  go_at_call 23
  refine HCL.out.mono ?_
  rintro e u1 ⟨rfl, hb⟩
  have HS1 := Lib.hid ((hb.cell (p := ⟨p, 0, none⟩) HPL.out).trans HS0.out)
  have HB1 := Lib.hid (show Below w.heap.size w u1 from (Below.drew (Below.refl w.heap.size w)).trans hb)
  clear hb HCL
  refine hK.out _ _ (by first | (with_reducible exact HS2.out) | (with_reducible exact HS1.out) | (with_reducible exact HS0.out)) (fun hHeld => ?_)
  clear hK K
  refine wpAnyH_ready (rs := [7]) (by kernel_rfl) (by simp) ?_
  refine AllReadyH.cons rfl (fun K hK => ?_) AllReadyH.nil
  obtain ⟨u2, hrun, hown, hgr⟩ := ((HH.out.below HB1.out).map).update (t := 46) (e := 59) (string_keyed Tryd.underlying9) Tryd.underlying46 (by have := HL.out; unfold maxLen; omega) (WideMaps.keyOf_string_mk Tryd.underlying9 (s := s) (by have := HSZ.out; unfold maxLen; omega)) (ptr_mk b)
  go_simp
  have HS2 := Lib.hid (hgr.cell HS1.out (fun e => HPM.out (by injection e)))
  have HO := Lib.hid hown
  have HG := Lib.hid hgr
  clear hrun hown hgr
  refine hK.out _ _ (by first | (with_reducible exact HS2.out) | (with_reducible exact HS1.out) | (with_reducible exact HS0.out)) (fun hHeld => ?_)
  clear hK K
  refine wpAnyH_done (by kernel_rfl) ?_ _
  go_end0
  have h1 := HH.out.below HB1.out
  have hi := HIN.out
  have hi1 : PfIn u1 x := hi.keep fun k hk => HB1.out.block k (hi.lt hk)
  have hput := h1.putf (x := x) HG.out (by rw [HN.out, HXB.out]; exact HO.out) hi1 HOUT.out HOFF.out
  rw [HN.out] at hput
  have hb1 : Below w.heap.size w u1 := HB1.out
  have hg := HG.out
  have hz := hb1.size
  refine ⟨rfl, hput, ⟨hg.os.trans hb1.os, hg.tape.trans hb1.tape, hg.output.trans hb1.output, Nat.le_trans hz hg.size, fun k hk hn => ?_⟩⟩
  exact (hg.block k (by omega) fun e => hn (by injection e)).trans (hb1.block k hk)
end Go.Proofs.YthkbmmebfkaphaaDoor.Dsk
