/-
  Texts of earlier layers, as one.
-/
import Derived.Test.YtkejjdoaljoooaaGreatDoorLogPlain
import Derived.Test.YtkejjdoaljoooaaGreatDoorLogConcat
import Derived.Test.YtkejjdoaljoooaaGreatDoorDskLow
/- The program's Form of a record, and its forgiven. -/
namespace Go.Proofs.YtkejjdoaljoooaaGreatDoor.Lg
open Lib (hid)
open Go.RowKit Mem
def fg (n : Nat) : Nat := if n = 8 then 0 else n
theorem forgiven_any (e : Nat) (w : World) : Calls Tryz.prog 40 #[.int .i64 (e : Int)] w (fun r w' => r = .returned (.int .i64 (fg e : Int)) ∧ w' = w) := by
 unfold fg;by_cases h : e = 8
 · subst h
   go_enter Tryz.func40, Tryz.ntmps40
   go_wp2
   go_ret;exact ⟨rfl, rfl⟩
 · have b : decide ((e : Int) = 8) = false := decide_eq_false (by omega)
   rw [if_neg h];go_enter Tryz.func40, Tryz.ntmps40
   go_wp2
   go_ret;exact ⟨rfl, rfl⟩
theorem slice4 (g : Nat) (w : World) : (Instr.sliceAt 151 (.pointer (some ⟨g, 0, none⟩)) none none none).run Tryz.prog w = .ok (.slice (some ⟨g, 0, none⟩) 4 4) w := by
 have hs : (sizeOf (Tryz.prog.elem 151)).run Tryz.prog w = .ok 1 w := by kernel_rfl
 have ha : Tryz.prog.arrayLen 151 = 4 := by kernel_rfl
 rw [run_sliceAt_array_all w 151 ⟨g, 0, none⟩ (by kernel_rfl), hs, ha];simp only [Result.andThen, slicedAt];rfl
theorem rd_four {w : World} {g : Nat} {t : TypeId} {bs : List Nat} (h : Blk w g t (cs bs).toArray) (hl : bs.length = 4) : Rd w (some ⟨g, 0, none⟩) 4 4 (cs bs) := by
 refine ⟨by rw [length_cs, hl], Nat.le_refl _, by unfold maxLen; omega, (fun e => by cases e), fun _ => ⟨_, rfl, h.lt, fun k u hu => ?_⟩⟩;rw [Addr.add_lit, h.cell, Nat.zero_add];simpa using hu
def FormIs (p : List Nat) (w : World) (e : Ending) (w' : World) : Prop :=
 ∃ V c, e = .returned (.tuple #[.slice V (form p).length c, .int .i64 0]) ∧ w'.ownsRow w.heap.size 5 1 (.slice V (form p).length c) (form p).length (cs (form p)) ∧ Below w.heap.size w w'
set_option maxRecDepth 20000 in
set_option maxHeartbeats 2000000 in
theorem lform_any (A : Option Addr) (n c : Nat) (p : List Nat) (w : World) (ht : Cr.Tab w) (hp : Rd w A n c (cs p)) (lp : ∀ b ∈ p, b < 256) (hn : n ≤ 1048576) :
 Calls Tryz.prog 44 #[.slice A n c] w (FormIs p w) := by
 have hl := hp.len;rw [length_cs] at hl;have h64 : p.length < 2 ^ 64 := by omega
 have hput := Cp.put_any none 0 0 [] (n : Int) w (Rd.nil_ w) (by omega) (by omega) (by omega);rw [List.nil_append, Int.toNat_natCast, ← hl] at hput;have hnum : (Num.put p.length).length ≤ 9 := by rw [Num.length_put]; exact Num.size_le _ h64
 have hnb := Num.put_lt _ h64;have hfl := length_form p;have hsz := Num.length_put p.length;have b1 : decide ((1048576 : Int) < (n : Int)) = false := decide_eq_false (by omega);have hcv : IntKind.u64.wrap (n : Int) = (n : Int) := by simp only [IntKind.wrap_u64]; omega
 rw [hl] at hput;have hform : form p = Num.put n ++ (mark p (Num.put n) ++ p) := by unfold form; rw [hl]
 rw [hl] at hnum hnb hsz;have HF := hid hform;have HN := hid (And.intro hnum hnb);have HP := hid hp;have HT := hid ht;have HPUT := hid hput;have HLP := hid lp;have hfl2 : (form p).length ≤ 1048589 := by rw [hfl, hl]; omega
 have HFL := hid hfl2;clear hform hnum hnb hp ht hput lp hl hfl hsz h64 hfl2;obtain ⟨q, hq⟩ : ∃ q, Num.put n = q := ⟨_, rfl⟩
 rw [hq] at HF HN HPUT;go_enter Tryz.func44, Tryz.ntmps44
 go_wp2_with fail
 refine HPUT.out.mono ?_;rintro e w1 ⟨v, rfl, hown, hb1⟩;obtain ⟨Q, qc, rfl, hrq⟩ := Rd.of_own hown;have hs := lsum_any A n c p Q q.length qc q w1 (HT.out.below hb1) (HP.out.below hb1) HLP.out hrq HN.out.2;have HS := hid hs;have HB1 := hid hb1;have HRQ := hid hrq;clear hs hb1 hrq hown;go_wp2_with fail
 refine HS.out.mono ?_;rintro e w2 ⟨rfl, hb2⟩;have hbx := Blk.new w2 151 #[.int .u8 0, .int .u8 0, .int .u8 0, .int .u8 0];have HBX := hid hbx;have HB2 := hid hb2;have hsl := slice4;obtain ⟨s, hsm⟩ : ∃ s, Crc.sum (p ++ q) = s := ⟨_, rfl⟩
 have hmk : mark p q = be s := by unfold mark; rw [hsm]
 rw [hsm];obtain ⟨x0, x1, x2, x3, hbe⟩ : ∃ x0 x1 x2 x3, be s = [x0, x1, x2, x3] := ⟨_, _, _, _, rfl⟩
 rw [show arr (be s) = .agg #[.int .u8 (x0 : Int), .int .u8 (x1 : Int), .int .u8 (x2 : Int), .int .u8 (x3 : Int)] from by rw [hbe]; rfl];have hlt4 : ∀ b ∈ [x0, x1, x2, x3], b < 256 := by rw [← hbe]; exact be_lt s
 rw [hbe] at hmk;have HMK := hid (And.intro hmk hlt4);clear hbx hb2 hsm hmk hlt4 hbe;have hbx := Blk.new w2 151 #[.int .u8 (x0 : Int), .int .u8 (x1 : Int), .int .u8 (x2 : Int), .int .u8 (x3 : Int)];have hbe := bel_alloc (HB1.out.trans (HB2.out.mono HB1.out.size)) (.cells #[.int .u8 (x0 : Int), .int .u8 (x1 : Int), .int .u8 (x2 : Int), .int .u8 (x3 : Int)] 151);have hbe1 := bel_alloc HB2.out (.cells #[.int .u8 (x0 : Int), .int .u8 (x1 : Int), .int .u8 (x2 : Int), .int .u8 (x3 : Int)] 151);have hsz1 := size_alloc w2 (.cells #[.int .u8 (x0 : Int), .int .u8 (x1 : Int), .int .u8 (x2 : Int), .int .u8 (x3 : Int)] 151);obtain ⟨W, hW⟩ : ∃ W, w2.alloc (.cells #[.int .u8 (x0 : Int), .int .u8 (x1 : Int), .int .u8 (x2 : Int), .int .u8 (x3 : Int)] 151) = W := ⟨_, rfl⟩
 rw [hW] at hbx hbe hbe1 hsz1;have hr4 : Rd W (some ⟨w2.heap.size, 0, none⟩) 4 4 (cs [x0, x1, x2, x3]) := rd_four hbx rfl
 have hm := Cr.Mat.lit W [⟨Q, q.length, qc, q⟩, ⟨some ⟨w2.heap.size, 0, none⟩, 4, 4, [x0, x1, x2, x3]⟩, ⟨A, n, c, p⟩] 71 3 rfl (by simp [maxLen]) (by
  intro x hx;simp only [List.mem_cons, List.not_mem_nil, or_false] at hx;rcases hx with rfl | rfl | rfl
  · exact ⟨HRQ.out.below hbe1, HN.out.2⟩
  · exact ⟨hr4, HMK.out.2⟩
  · exact ⟨HP.out.below hbe, HLP.out⟩)
 have e : Cr.bytes [⟨Q, q.length, qc, q⟩, ⟨some ⟨w2.heap.size, 0, none⟩, 4, 4, [x0, x1, x2, x3]⟩, ⟨A, n, c, p⟩] = form p := by
  rw [HF.out, HMK.out.1];simp [Cr.bytes]
 have hc := concat_any _ 3 3 _ _ hm (by rw [e]; exact Nat.le_trans HFL.out (by omega));rw [e, hsz1] at hc;have hbf := bel_alloc hbe (.cells #[.slice Q q.length qc, .slice (some ⟨w2.heap.size, 0, none⟩) 4 4, .slice A n c] 71);have HC := hid hc;have HBF := hid hbf;have HW := hid hW;clear hc hbf hW hm hr4 hbe hbe1 hbx hsz1 e;go_wp2_with fail
 rw [HW.out];refine HC.out.mono ?_;rintro e w5 ⟨V, vc, rfl, hown5, hb5⟩;have HO5 := hid hown5;have HB5 := hid (HBF.out.trans (hb5.mono HBF.out.size));have HSZ := hid HBF.out.size;clear hown5 hb5;go_wp2_with fail
 go_ret2
 exact ⟨V, vc, rfl, Dsk.own_low HO5.out HSZ.out, HB5.out⟩
end Go.Proofs.YtkejjdoaljoooaaGreatDoor.Lg
