/-
  Texts of earlier layers, as one.
-/
import Derived.Test.YthlhchaoedcdbaaGreatDoorRCodP
import Derived.Test.YthlhchaoedcdbaaGreatDoorRCrc
import Derived.Test.YthlhchaoedcdbaaGreatDoorRCodB
import Derived.Deep.RegionHeld
import Derived.Deep.Cut
import Derived.Test.YthlhchaoedcdbaaGreatDoorRCodRG
import Derived.Test.YthlhchaoedcdbaaGreatDoorRCmdI
import Derived.Test.YthlhchaoedcdbaaGreatDoorRStore
/- The document's Frame: a byte, the sum, and the form of an item. -/
namespace Go.Proofs.YthlhchaoedcdbaaGreatDoor.Mg
open Go.RowKit Mem Cod
def sb (s : Nat) : List Nat := [s / 16777216, s / 65536 % 256, s / 256 % 256, s % 256]
def frame (v : Nat) (p : List Nat) : List Nat := v :: (sb (Crc.sum p) ++ p)
set_option maxRecDepth 20000 in
set_option maxHeartbeats 4000000 in
theorem refframe_any (v : Nat) (x : It) (A : Option Addr) (c : Nat) (S : Nat → Prop) (w : World) (hv : v < 256) (hc : chk x 0 = 0) (hn : (form x).length ≤ 1000000) (hl : Lies w S x A c) (hS : ∀ b, S b → b < w.heap.size) :
 Calls Tryz.prog 26 #[.int .i64 (v : Int), .agg #[.int .i64 x.kind, .int .u64 (x.num : Int), .string x.str, .slice A x.kids.length c]] w (Gives w (5 + (form x).length) (frame v (form x))) := by
 obtain ⟨i0, hi, hz0, hz1, hz2⟩ := info_parts Cp.info5
 have hbx := bel_alloc (Below.refl w.heap.size w) (.cells #[.int .i64 x.kind, .int .u64 (x.num : Int), .string x.str, .slice A x.kids.length c] 57)
 have hk1 := Blk.new w 57 #[.int .i64 x.kind, .int .u64 (x.num : Int), .string x.str, .slice A x.kids.length c]
 obtain ⟨W, hW⟩ : ∃ W, w.alloc (.cells #[.int .i64 x.kind, .int .u64 (x.num : Int), .string x.str, .slice A x.kids.length c] 57) = W := ⟨_, rfl⟩
 rw [hW] at hbx hk1
 have hF := Cp.refform_any x A c S W 0 hc hn (hl.below hbx hS)
 obtain ⟨p, hp⟩ : ∃ p, form x = p := ⟨_, rfl⟩
 have hlt : ∀ b ∈ p, b < 256 := by rw [← hp]; exact Cp.form_bytes x hl.fit
 rw [hp] at hF hn ⊢
 have HF := Lib.hid hF
 have HB := Lib.hid hbx
 have HW := Lib.hid hW
 have HLT := Lib.hid hlt
 obtain ⟨x0, x1, x2, x3⟩ := blk4 hk1
 clear hF hbx hW hlt hk1
 go_enter Tryz.func26, Tryz.ntmps26
 go_upto_region 1 with fail
 rw [HW.out]
 go_wp2_with fail
 refine HF.out.mono ?_
 rintro e w1 ⟨V1, c1, rfl, hr1, hb1⟩
 clear x0 x1 x2 x3
 go_wp2_with fail
 refine (Cr.ref_any V1 _ c1 p w1 hr1 HLT.out).mono ?_
 rintro e w2 ⟨rfl, rfl⟩
 have hs : Crc.sum p < 4294967296 := Crc.sum_lt p HLT.out
 have hfr : frame v p = v :: (sb (Crc.sum p) ++ p) := rfl
 generalize Crc.sum p = s at hs hfr ⊢
 have ho5 := World.ownsRow_lit (base := w2.heap.size) (e := 5) (size := 1) w2 #[.int .u8 (v : Int), .int .u8 ((s : Int) / 16777216), .int .u8 ((s : Int) / 65536 % 256), .int .u8 ((s : Int) / 256 % 256), .int .u8 ((s : Int) % 256)] 5 (Nat.le_refl _) (by simp [maxLen]) rfl
 have hr5 := hr1.alloc (.cells #[.int .u8 (v : Int), .int .u8 ((s : Int) / 16777216), .int .u8 ((s : Int) / 65536 % 256), .int .u8 ((s : Int) / 256 % 256), .int .u8 ((s : Int) % 256)] 5)
 go_wp2_with (at_builtin; refine wpList_append_rd rfl (.tmp 27) (.tmp 28) 35 rfl w2.heap.size 5 i0 _ 1 Tryz.underlying35 hi hz0 hz1 hz2 rfl _ 5 5 _ rfl ho5 V1 _ c1 (cs p) rfl hr5 (cs_one _) (by unfold maxLen; omega) (by omega) (by simp) ?_; intro V2 c2 w3 hown2 hb2)
 go_ret
 refine ⟨V2, c2, rfl, ?_, ?_⟩
 · have := Rd.own hown2
   rw [hfr]
   simpa [cs, sb] using this
 · exact HB.out.trans ((hb1.trans (((Below.refl w2.heap.size w2).alloc (Nat.le_refl _) _).trans hb2 |>.mono hb1.size)).mono HB.out.size)
end Go.Proofs.YthlhchaoedcdbaaGreatDoor.Mg
/- The document's Open: the item of a frame, or what is wrong with it. -/
namespace Go.Proofs.YthlhchaoedcdbaaGreatDoor.Mg
open Go.RowKit Mem Cod
def word (l : List Nat) : Nat := l.foldl (fun s b => s * 256 + b) 0
def openX (v : Nat) (b : List Nat) : It × Nat :=
 if b.length < 5 then (Cmd.zeroIt, 2) else if v < b.getD 0 0 then (Cmd.zeroIt, 13) else if b.getD 0 0 < v then (Cmd.zeroIt, 4)
 else if word ((b.drop 1).take 4) = Crc.sum (b.drop 5) then (Cp.getX (b.drop 5), Cp.getE (b.drop 5)) else (Cmd.zeroIt, 5)
def Opens (w : World) (r : It × Nat) (e : Ending) (w' : World) : Prop :=
 ∃ A c, e = .returned (.tuple #[.agg #[.int .i64 r.1.kind, .int .u64 (r.1.num : Int), .string r.1.str, .slice A r.1.kids.length c], .int .i64 (r.2 : Int)]) ∧ Lies w' (fun b => w.heap.size ≤ b) r.1 A c ∧ Below w.heap.size w w'
theorem lies_zero (w : World) (S : Nat → Prop) : Lies w S Cmd.zeroIt none 0 := lies_leaf w S (by decide) (by decide) (by decide)
end Go.Proofs.YthlhchaoedcdbaaGreatDoor.Mg
