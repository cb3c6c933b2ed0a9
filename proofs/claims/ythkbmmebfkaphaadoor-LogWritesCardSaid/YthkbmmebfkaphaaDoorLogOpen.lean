/-
  Texts of earlier layers, as one.
-/
import Derived.Test.YthkbmmebfkaphaaDoorLogAdd
/- The program's Open, over whatever is a disk. -/
namespace Go.Proofs.YthkbmmebfkaphaaDoor.Lg
open Go.RowKit Mem Dsk

/-- The ending of Open: a log, its records, and what has become of the disk. -/
def OpenIs (I : Held) (p : Nat) (S : Nat → Prop) (s : ByteArray) (l : List (List Nat)) (d : Dk) (w : World) (e : Ending) (w' : World) : Prop :=
  ∃ g V k ps, e = .returned (.tuple #[.pointer (some ⟨g, 0, none⟩), .slice V l.length k, .int .i64 0]) ∧ ∃ S', I w' S' p d ∧ Grew S S' w ∧ Keeps S w w' ∧ FLog g p s w' S' ∧ FMat V l.length k ps w' S' ∧ ps.map (·.bs) = l
theorem open_end {I : Held} (hH : Has2 I) {p : Nat} {S S4 : Nat → Prop} {d2 : Dk} {s : ByteArray} {l : List (List Nat)} {w w4 w5 : World} {V : Option Addr} {k : Nat} {ps : List Cr.Part} (hI : I w4 S4 p d2) (hg : Grew S S4 w) (hk : Keeps S w w4) (hm : FMat V l.length k ps w4 S4) (hl : ps.map (·.bs) = l) (hb : Below w4.heap.size w4 w5) :
    OpenIs I p S s l d2 w (.returned (.tuple #[.pointer (some ⟨w5.heap.size, 0, none⟩), .slice V l.length k, .int .i64 0])) (w5.alloc (.cells #[.pointer (some ⟨p, 0, none⟩), .string s] 54)) := by
  have hb6 := bel_alloc hb (.cells #[.pointer (some ⟨p, 0, none⟩), .string s] 54)
  refine ⟨w5.heap.size, V, k, ps, rfl, S4, have_bel hH hI hb6, hg, hk.trans (Keeps.ofBelow (S := S4) hb6) hg, ⟨Blk.new w5 54 #[.pointer (some ⟨p, 0, none⟩), .string s], fun hs => ?_⟩, (frame_mat _ _ _ _).go hm (Keeps.ofBelow (S := S4) hb6) (Grew.refl S4 w4), hl⟩
  have := hH.low hI _ hs
  have := hb.size
  omega
set_option maxRecDepth 20000 in
set_option maxHeartbeats 4000000 in
theorem open_any {I : Held} (hH : Has2 I) (p : Nat) (S : Nat → Prop) (d d2 : Dk) (s : ByteArray) (c : List Nat) (l : List (List Nat)) (r : List Nat) (w : World) (hI : I w S p d) (hf : Fine d) (ht : FTab w S) (hs : s.size ≤ 281474976710656)
    (hrd : Dsk.read s d = (c, 0) ∨ Dsk.read s d = (c, 8)) (hc : ∀ b ∈ c, b < 256) (hcl : c.length ≤ 1099511627776) (hR : Reads c l r)
    (h0 : r = [] → d2 = d) (h1 : r ≠ [] → whole (doCut s ((forms l).length : Int)) d = (0, d2)) :
    Calls Tryd.prog 9 #[Dsk.ptr p, .string s] w (OpenIs I p S s l d2 w) := by
  have hre := hH.read p S d s w hI hf (by omega)
  have hfg : ((Dsk.read s d).2 = 0 ∨ (Dsk.read s d).2 = 8) ∧ (Dsk.read s d).1 = c := by rcases hrd with h | h <;> rw [h] <;> simp
  obtain ⟨x, hx⟩ : ∃ x, (Dsk.read s d).2 = x := ⟨_, rfl⟩
  rw [hfg.2, hx] at hre
  rw [hx] at hfg
  have hlen : c.length = (forms l).length + r.length := by rw [hR.eq, List.length_append]
  obtain ⟨fl, hfl⟩ : ∃ fl, (forms l).length = fl := ⟨_, rfl⟩
  rw [hfl] at hlen h1
  have HRE := Lib.hid hre
  have HR := Lib.hid (And.intro hR (And.intro hc hcl))
  have HFL := Lib.hid (And.intro hfl hlen)
  have HT := Lib.hid ht
  have HH := Lib.hid hH
  have HF := Lib.hid hf
  have H0 := Lib.hid (And.intro h0 h1)
  have HS := Lib.hid hs
  have HFG := Lib.hid hfg
  have hxc : fg x = 0 := by unfold fg; rcases hfg.1 with h | h <;> rw [h] <;> simp
  have HXC := Lib.hid hxc
  clear hre hR hfl hlen ht hf h0 h1 hrd hfg hI hs hxc hcl hc hx
  unfold Dsk.ptr at *
  go_enter Tryd.func9, Tryd.ntmps9
  go_wp2_with fail
  refine HRE.out.mono ?_
  rintro e w1 ⟨A, n, ac, rfl, ho, S1, hI1, hg1, hk1, ho1⟩
  have hn : n = c.length := by have h := ho.1; rw [length_cs, Nat.mul_one] at h; exact h.symm
  subst hn
  have hfo : Calls Tryd.prog 21 #[.int .i64 (x : Int)] w1 (fun r w' => r = .returned (.int .i64 0) ∧ w' = w1) := (forgiven_any x w1).mono fun e w' h => ⟨by rw [h.1, HXC.out]; rfl, h.2⟩
  have HFO := Lib.hid hfo
  have HO := Lib.hid ho
  have HI1 := Lib.hid hI1
  have HG1 := Lib.hid (And.intro hg1 hk1)
  clear hfo ho hI1 hg1 hk1 ho1
  go_wp2_with fail
  refine HFO.out.mono ?_
  rintro e w2 ⟨rfl, rfl⟩
  have hscan := scan_any A c.length ac c l r w2 (frame_tab.go HT.out HG1.out.2 HG1.out.1).1 (Rd.own HO.out) HR.out.2.1 HR.out.2.2 HR.out.1
  have HSC := Lib.hid hscan
  clear hscan
  go_wp2_with fail
  refine HSC.out.mono ?_
  rintro e w3 ⟨V, k, ps, rfl, hm, hb3⟩
  rw [HFL.out.1]
  have hI3 := have_bel hH HI1.out hb3
  have hk3 := HG1.out.2.trans (Keeps.ofBelow (S := S1) hb3) HG1.out.1
  have hfm : FMat V l.length k ps w3 S1 := hm.out fun k hk => hH.low HI1.out k hk
  have HFM := Lib.hid (And.intro hfm hm.bytes)
  have HI3 := Lib.hid (And.intro hI3 hk3)
  clear hm hb3 hI3 hk3 hfm
  by_cases hr : r = []
  · have hd2 := H0.out.1 hr
    have hcl : c.length = fl := by rw [HFL.out.2, hr]; rfl
    have b1 : decide ((fl : Int) < (c.length : Int)) = false := decide_eq_false (by omega)
    have b2 : decide (fl < c.length) = false := decide_eq_false (by omega)
    have HD2 := Lib.hid hd2
    clear hr hd2 hcl
    go_wp2_with fail
    refine (sclone_any s w3 HS.out).mono ?_
    rintro e w5 ⟨rfl, hb5⟩
    have HB5 := Lib.hid hb5
    clear hb5
    go_wp2_with fail
    go_ret3
    rw [HD2.out]
    exact open_end hH HI3.out.1 HG1.out.1 HI3.out.2 HFM.out.1 HFM.out.2 HB5.out
  · have hcu := hH.cut p S1 d s (fl : Int) w3 HI3.out.1 HF.out (by have := HS.out; omega)
    rw [H0.out.2 hr] at hcu
    have hcl : fl < c.length := by
      have h1 : 0 < r.length := by cases r; exact absurd rfl hr; simp
      rw [HFL.out.2]
      omega
    have b1 : decide ((fl : Int) < (c.length : Int)) = true := decide_eq_true (by omega)
    have b2 : decide (fl < c.length) = true := decide_eq_true hcl
    have HCU := Lib.hid hcu
    clear hr hcu hcl
    unfold Dsk.ptr at HCU
    go_wp2_with fail
    refine HCU.out.mono ?_
    rintro e w4 ⟨rfl, S4, hI4, hg4, hk4⟩
    have hm4 := (frame_mat _ _ _ _).go HFM.out.1 hk4 hg4
    have HI4 := Lib.hid (And.intro hI4 (And.intro (HG1.out.1.trans hg4 HI3.out.2.size) (And.intro (HI3.out.2.trans hk4 HG1.out.1) hm4)))
    clear hI4 hg4 hk4 hm4
    go_wp2_with fail
    refine (sclone_any s w4 HS.out).mono ?_
    rintro e w5 ⟨rfl, hb5⟩
    have HB5 := Lib.hid hb5
    clear hb5
    go_wp2_with fail
    go_ret3
    exact open_end hH HI4.out.1 HI4.out.2.1 HI4.out.2.2.1 HI4.out.2.2.2 HFM.out.2 HB5.out
end Go.Proofs.YthkbmmebfkaphaaDoor.Lg
