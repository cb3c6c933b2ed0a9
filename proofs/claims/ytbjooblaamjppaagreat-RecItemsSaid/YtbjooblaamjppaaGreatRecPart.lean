/-
  Texts of earlier layers, as one.
-/
import Derived.Test.YtbjooblaamjppaaGreatRecNext
import Derived.Test.YtbjooblaamjppaaGreatRBalT
/- rec.part at each of its types: the next part, taken. -/
namespace Go.Proofs.YtbjooblaamjppaaGreat.Rk
open Go.RowKit Mem Ids Att Cod

set_option maxRecDepth 100000 in
set_option maxHeartbeats 1000000 in
theorem number_any (y : It) (V : Option Addr) (cv : Nat) (w : World) :
    Calls Tryz.prog 52 #[.agg #[.int .i64 y.kind, .int .u64 (y.num : Int), .string y.str, .slice V y.kids.length cv]] w fun e w' => (∃ b, e = .returned (.tuple #[.int .i64 (Cmd.w64 y.num), .bool b])) ∧ Below w.heap.size w w' := by
  obtain ⟨W, hW⟩ : ∃ W, w.alloc (.cells #[.int .i64 y.kind, .int .u64 (y.num : Int), .string y.str, .slice V y.kids.length cv] 36) = W := ⟨_, rfl⟩
  have hx := Blk.new w 36 #[.int .i64 y.kind, .int .u64 (y.num : Int), .string y.str, .slice V y.kids.length cv]
  have hb := bel_alloc (Below.refl w.heap.size w) (.cells #[.int .i64 y.kind, .int .u64 (y.num : Int), .string y.str, .slice V y.kids.length cv] 36)
  rw [hW] at hx hb
  have HW := Lib.hid hW
  have HB := Lib.hid hb
  obtain ⟨x0, x1, x2, x3⟩ := blk4 hx
  obtain ⟨R, hR⟩ : ∃ R, Cmd.w64 y.num = R := ⟨_, rfl⟩
  rw [hR]
  unfold Cmd.w64 at hR
  clear hx hb hW
  go_enter Tryz.func52, Tryz.ntmps52
  go_wp2_with fail
  rw [HW.out]
  go_region_held3 (fun w' => w'.cell? ⟨w.heap.size, 0, none⟩ = some (.int .i64 y.kind) ∧ w'.cell? ⟨w.heap.size, 1, none⟩ = some (.int .u64 (y.num : Int))) (go_keep) (fail)
  go_wp2_with fail
  exact bodyPost_ret (v := .tuple #[.int .i64 R, .bool (y.kind == 0)]) (by simp [results, Tryz.results52, go_sem]) rfl ⟨⟨_, rfl⟩, Below.drew HB.out⟩

set_option maxRecDepth 100000 in
set_option maxHeartbeats 1000000 in
theorem partint_any (p : Nat) (A : Option Addr) (n c k : Nat) (l : List It) (S : Nat → Prop) (w : World) (hr : Cod.Row w S A n c l) (hk : k ≤ n) (hn : n ≤ 1000000000) (hp : Blk w p 75 #[.slice A n c, .int .i64 (k : Int)]) (hSp : ¬ S p) (hS : ∀ b, S b → b < w.heap.size) :
    Calls Tryz.prog 51 #[.func (.func 50) #[.pointer (some ⟨p, 0, none⟩)] #[], .func (.func 52) #[] #[]] w fun e w' => e = .returned (.int .i64 (Cmd.w64 (l.getD k Cmd.zeroIt).num)) ∧ w.grownBy w' (some p) ∧ Blk w' p 75 #[.slice A n c, .int .i64 (up1 k n : Int)] := by
  have h1 := next_any p A n c k l S w hr hk hn hp hSp hS
  generalize l.getD k Cmd.zeroIt = y at h1 ⊢
  have H1 := Lib.hid h1
  clear h1 hr hk hn hp hSp hS
  go_enter Tryz.func51, Tryz.ntmps51
  go_wp2_with fail
  refine H1.out.mono ?_
  rintro e w1 ⟨V, cv, rfl, hl, hg, hp1⟩
  have HG := Lib.hid hg
  have HP := Lib.hid hp1
  clear hl hg hp1 H1
  go_wp2_with fail
  refine (number_any y V cv w1).mono ?_
  rintro e w2 ⟨⟨b, rfl⟩, hb2⟩
  have HB := Lib.hid hb2
  clear hb2
  go_wp2_with fail
  go_ret
  exact ⟨rfl, gr_bel HG.out HB.out, HP.out.bel HB.out⟩

/-- The endings: what is taken of the part, and the count one higher; all other blocks stay. -/
def PartBal (w : World) (p : Nat) (A : Option Addr) (n c k : Nat) (y : It) (e : Ending) (w' : World) : Prop :=
  ∃ b : Int × Int, e = .returned (.agg #[.int .i64 b.1, .int .i64 b.2]) ∧ b = (Bal.balTake y).getD (0, 0) ∧ w.grownBy w' (some p) ∧ Blk w' p 75 #[.slice A n c, .int .i64 (up1 k n : Int)]
def PartCm (w : World) (p : Nat) (A : Option Addr) (n c k : Nat) (y : It) (e : Ending) (w' : World) : Prop :=
  ∃ m : Cmd.Cm, e = .returned (.agg #[.int .i64 m.kd, .int .i64 m.cl, .int .i64 m.sq, .string m.ky, .string m.vl, .int .i64 m.rv]) ∧ m = (Cmd.takeOf y).getD Cmd.zeroCm ∧ w.grownBy w' (some p) ∧ Blk w' p 75 #[.slice A n c, .int .i64 (up1 k n : Int)]
def PartAt (T : It → Option At) (w : World) (p : Nat) (A : Option Addr) (n c k : Nat) (y : It) (e : Ending) (w' : World) : Prop :=
  ∃ V nv cv, e = .returned (.agg #[.slice V nv cv, .int .i64 ((T y).getD zeroAt).sq, .int .i64 ((T y).getD zeroAt).tg]) ∧ Rs w' V nv cv ((T y).getD zeroAt).dp ∧ (∀ g o, V = some ⟨g, o, none⟩ → w.heap.size ≤ g) ∧ w.grownBy w' (some p) ∧ Blk w' p 75 #[.slice A n c, .int .i64 (up1 k n : Int)]
theorem blk3_set3 {w : World} {g : Nat} {t : TypeId} {a b c : Value} (h : Blk w g t #[a, b, c]) (a' b' c' : Value) :
    Blk (((w.setCell ⟨g, 0, none⟩ a').setCell ⟨g, 1, none⟩ b').setCell ⟨g, 2, none⟩ c') g t #[a', b', c'] ∧ w.grownBy (((w.setCell ⟨g, 0, none⟩ a').setCell ⟨g, 1, none⟩ b').setCell ⟨g, 2, none⟩ c') (some g) :=
  ⟨by simpa using ((h.put 0 a').put 1 b').put 2 c', gr_set (p := ⟨g, 2, none⟩) (gr_set (p := ⟨g, 1, none⟩) (gr_set (p := ⟨g, 0, none⟩) (gr_refl w (some g)) (.inl rfl) _) (.inl rfl) _) (.inl rfl) _⟩

set_option maxRecDepth 100000 in
set_option maxHeartbeats 4000000 in
theorem partbal_any (p : Nat) (A : Option Addr) (n c k : Nat) (l : List It) (S : Nat → Prop) (w : World) (hr : Cod.Row w S A n c l) (hk : k ≤ n) (hn : n ≤ 1000000000) (hp : Blk w p 75 #[.slice A n c, .int .i64 (k : Int)]) (hSp : ¬ S p) (hS : ∀ b, S b → b < w.heap.size) :
    Calls Tryz.prog 53 #[.func (.func 50) #[.pointer (some ⟨p, 0, none⟩)] #[], .func (.func 54) #[] #[]] w (PartBal w p A n c k (l.getD k Cmd.zeroIt)) := by
  have hb := bel_alloc (Below.refl w.heap.size w) (.cells #[.int .i64 0, .int .i64 0] 25)
  have hx := Blk.new w 25 #[.int .i64 0, .int .i64 0]
  have hpl := hp.lt
  have hpa := hp.alloc (.cells #[.int .i64 0, .int .i64 0] 25)
  have hra := hr.below hb hS
  have hsz := size_alloc w (.cells #[.int .i64 0, .int .i64 0] 25)
  obtain ⟨W, hW⟩ : ∃ W, w.alloc (.cells #[.int .i64 0, .int .i64 0] 25) = W := ⟨_, rfl⟩
  rw [hW] at hb hx hpa hra hsz
  have h1 := next_any p A n c k l S W hra hk hn hpa hSp (fun b hb => by have := hS b hb; omega)
  generalize l.getD k Cmd.zeroIt = y at h1 ⊢
  have H1 := Lib.hid h1
  have HW := Lib.hid hW
  have HB := Lib.hid hb
  have HX := Lib.hid hx
  have HSS := Lib.hid hS
  have HSZ := Lib.hid hsz
  have HPL := Lib.hid hpl
  clear h1 hr hk hn hp hSp hS hW hb hx hpa hra hsz hpl
  go_enter Tryz.func53, Tryz.ntmps53
  go_wp2_with fail
  rw [HW.out]
  refine H1.out.mono ?_
  rintro e w1 ⟨V, cv, rfl, hl, hg, hp1⟩
  have hx1 := HX.out.grown hg (fun e => by injection e with e; have := HPL.out; omega)
  have hs1 := hg.size
  have htk := Bal.baltake_any y V cv S w1 hl (fun b hb => by have := HSS.out b hb; have := HSZ.out; omega)
  have HG := Lib.hid hg
  have HP := Lib.hid hp1
  have HX1 := Lib.hid hx1
  have HT := Lib.hid htk
  have HS1 := Lib.hid hs1
  clear hl hg hp1 H1 hx1 htk hs1
  go_wp2_with fail
  refine HT.out.mono ?_
  rintro e w2 ⟨rfl, hb2⟩
  obtain ⟨b, hb⟩ : ∃ b, (Bal.balTake y).getD (0, 0) = b := ⟨_, rfl⟩
  rw [hb]
  have HBB := Lib.hid hb
  clear hb HT
  have hw3 := bel_alloc hb2 (.cells #[.int .i64 b.1, .int .i64 b.2] 25)
  have hk3 := Blk.new w2 25 #[.int .i64 b.1, .int .i64 b.2]
  have hx3 := HX1.out.bel hw3
  obtain ⟨w3, hw3'⟩ : ∃ w3, w2.alloc (.cells #[.int .i64 b.1, .int .i64 b.2] 25) = w3 := ⟨_, rfl⟩
  rw [hw3'] at hw3 hk3 hx3
  have HW3 := Lib.hid hw3'
  have HB3 := Lib.hid hw3
  have hblk3 := hx3
  obtain ⟨c0, c1⟩ := Bal.blk2 hblk3
  have z0 := hblk3.soft 0
  have z1 := hblk3.soft 1
  obtain ⟨k0, k1⟩ := Bal.blk2 hk3
  clear hw3 hk3 hx3 hw3' hb2
  go_wp2_with (rw [HW3.out])
  obtain ⟨hblk2, hgr⟩ := Bal.blk2_set hblk3 (.int .i64 b.1) (.int .i64 b.2)
  have hp9 := (HP.out.bel HB3.out).grown hgr (fun e => by injection e with e; have := HPL.out; omega)
  generalize (w3.setCell ⟨w.heap.size, 0, none⟩ (.int .i64 b.1)).setCell ⟨w.heap.size, 1, none⟩ (.int .i64 b.2) = w9 at hblk2 hgr hp9 ⊢
  obtain ⟨d0, d1⟩ := Bal.blk2 hblk2
  refine bodyPost_ret (v := .agg #[.int .i64 b.1, .int .i64 b.2]) (by simp [results, Tryz.results53, go_sem, d0, d1]) rfl ?_
  have hgg : w.grownBy w9 (some p) := gr_step (gr_bel (gr_step (below_gr HB.out _) HG.out fun b hb => .inr hb) HB3.out) hgr fun b hb => by injection hb with hb; exact .inl (by omega)
  exact ⟨b, rfl, HBB.out.symm, hgg, hp9⟩

set_option maxRecDepth 100000 in
set_option maxHeartbeats 4000000 in
theorem partcm_any (p : Nat) (A : Option Addr) (n c k : Nat) (l : List It) (S : Nat → Prop) (w : World) (hr : Cod.Row w S A n c l) (hk : k ≤ n) (hn : n ≤ 1000000000) (hp : Blk w p 75 #[.slice A n c, .int .i64 (k : Int)]) (hSp : ¬ S p) (hS : ∀ b, S b → b < w.heap.size) :
    Calls Tryz.prog 55 #[.func (.func 50) #[.pointer (some ⟨p, 0, none⟩)] #[], .func (.func 56) #[] #[]] w (PartCm w p A n c k (l.getD k Cmd.zeroIt)) := by
  have hb := bel_alloc (Below.refl w.heap.size w) (.cells #[.int .i64 0, .int .i64 0, .int .i64 0, .string ⟨#[]⟩, .string ⟨#[]⟩, .int .i64 0] 27)
  have hx := Blk.new w 27 #[.int .i64 0, .int .i64 0, .int .i64 0, .string ⟨#[]⟩, .string ⟨#[]⟩, .int .i64 0]
  have hpl := hp.lt
  have hpa := hp.alloc (.cells #[.int .i64 0, .int .i64 0, .int .i64 0, .string ⟨#[]⟩, .string ⟨#[]⟩, .int .i64 0] 27)
  have hra := hr.below hb hS
  have hsz := size_alloc w (.cells #[.int .i64 0, .int .i64 0, .int .i64 0, .string ⟨#[]⟩, .string ⟨#[]⟩, .int .i64 0] 27)
  obtain ⟨W, hW⟩ : ∃ W, w.alloc (.cells #[.int .i64 0, .int .i64 0, .int .i64 0, .string ⟨#[]⟩, .string ⟨#[]⟩, .int .i64 0] 27) = W := ⟨_, rfl⟩
  rw [hW] at hb hx hpa hra hsz
  have h1 := next_any p A n c k l S W hra hk hn hpa hSp (fun b hb => by have := hS b hb; omega)
  generalize l.getD k Cmd.zeroIt = y at h1 ⊢
  have H1 := Lib.hid h1
  have HW := Lib.hid hW
  have HB := Lib.hid hb
  have HX := Lib.hid hx
  have HSS := Lib.hid hS
  have HSZ := Lib.hid hsz
  have HPL := Lib.hid hpl
  clear h1 hr hk hn hp hSp hS hW hb hx hpa hra hsz hpl
  go_enter Tryz.func55, Tryz.ntmps55
  go_wp2_with fail
  rw [HW.out]
  refine H1.out.mono ?_
  rintro e w1 ⟨V, cv, rfl, hl, hg, hp1⟩
  have hx1 := HX.out.grown hg (fun e => by injection e with e; have := HPL.out; omega)
  have hs1 := hg.size
  have htk := Cw.cmtake_any y V cv S w1 hl (fun b hb => by have := HSS.out b hb; have := HSZ.out; omega)
  have HG := Lib.hid hg
  have HP := Lib.hid hp1
  have HX1 := Lib.hid hx1
  have HT := Lib.hid htk
  have HS1 := Lib.hid hs1
  clear hl hg hp1 H1 hx1 htk hs1
  go_wp2_with fail
  refine HT.out.mono ?_
  rintro e w2 ⟨m, ok, rfl, hm, _, hb2⟩
  have HM := Lib.hid hm
  clear hm HT
  have hw3 := bel_alloc hb2 (.cells #[.int .i64 m.kd, .int .i64 m.cl, .int .i64 m.sq, .string m.ky, .string m.vl, .int .i64 m.rv] 27)
  have hk3 := Blk.new w2 27 #[.int .i64 m.kd, .int .i64 m.cl, .int .i64 m.sq, .string m.ky, .string m.vl, .int .i64 m.rv]
  have hx3 := HX1.out.bel hw3
  obtain ⟨w3, hw3'⟩ : ∃ w3, w2.alloc (.cells #[.int .i64 m.kd, .int .i64 m.cl, .int .i64 m.sq, .string m.ky, .string m.vl, .int .i64 m.rv] 27) = w3 := ⟨_, rfl⟩
  rw [hw3'] at hw3 hk3 hx3
  have HW3 := Lib.hid hw3'
  have HB3 := Lib.hid hw3
  have hblk3 := hx3
  obtain ⟨c0, c1, c2, c3, c4, c5⟩ := Cw.blk6 hblk3
  have z0 := hblk3.soft 0
  have z1 := hblk3.soft 1
  have z2 := hblk3.soft 2
  have z3 := hblk3.soft 3
  have z4 := hblk3.soft 4
  have z5 := hblk3.soft 5
  obtain ⟨k0, k1, k2, k3, k4, k5⟩ := Cw.blk6 hk3
  clear hw3 hk3 hx3 hw3' hb2
  go_wp2_with (rw [HW3.out])
  obtain ⟨hblk2, hgr⟩ := Cw.blk6_set hblk3 (.int .i64 m.kd) (.int .i64 m.cl) (.int .i64 m.sq) (.string m.ky) (.string m.vl) (.int .i64 m.rv)
  have hp9 := (HP.out.bel HB3.out).grown hgr (fun e => by injection e with e; have := HPL.out; omega)
  generalize (((((w3.setCell ⟨w.heap.size, 0, none⟩ (.int .i64 m.kd)).setCell ⟨w.heap.size, 1, none⟩ (.int .i64 m.cl)).setCell ⟨w.heap.size, 2, none⟩ (.int .i64 m.sq)).setCell ⟨w.heap.size, 3, none⟩ (.string m.ky)).setCell ⟨w.heap.size, 4, none⟩ (.string m.vl)).setCell ⟨w.heap.size, 5, none⟩ (.int .i64 m.rv) = w9 at hblk2 hgr hp9 ⊢
  obtain ⟨d0, d1, d2, d3, d4, d5⟩ := Cw.blk6 hblk2
  refine bodyPost_ret (v := .agg #[.int .i64 m.kd, .int .i64 m.cl, .int .i64 m.sq, .string m.ky, .string m.vl, .int .i64 m.rv]) (by simp [results, Tryz.results55, go_sem, d0, d1, d2, d3, d4, d5]) rfl ?_
  have hgg : w.grownBy w9 (some p) := gr_step (gr_bel (gr_step (below_gr HB.out _) HG.out fun b hb => .inr hb) HB3.out) hgr fun b hb => by injection hb with hb; exact .inl (by omega)
  exact ⟨m, rfl, HM.out, hgg, hp9⟩

set_option maxRecDepth 100000 in
set_option maxHeartbeats 4000000 in
theorem partat_any (p : Nat) (A : Option Addr) (n c k : Nat) (l : List It) (S : Nat → Prop) (w : World) (hr : Cod.Row w S A n c l) (hk : k ≤ n) (hn : n ≤ 1000000000) (hp : Blk w p 75 #[.slice A n c, .int .i64 (k : Int)]) (hSp : ¬ S p) (hS : ∀ b, S b → b < w.heap.size) :
    Calls Tryz.prog 57 #[.func (.func 50) #[.pointer (some ⟨p, 0, none⟩)] #[], .func (.func 28) #[] #[]] w ((PartAt attTake) w p A n c k (l.getD k Cmd.zeroIt)) := by
  have hb := bel_alloc (Below.refl w.heap.size w) (.cells #[.slice none 0 0, .int .i64 0, .int .i64 0] 30)
  have hx := Blk.new w 30 #[.slice none 0 0, .int .i64 0, .int .i64 0]
  have hpl := hp.lt
  have hpa := hp.alloc (.cells #[.slice none 0 0, .int .i64 0, .int .i64 0] 30)
  have hra := hr.below hb hS
  have hsz := size_alloc w (.cells #[.slice none 0 0, .int .i64 0, .int .i64 0] 30)
  obtain ⟨W, hW⟩ : ∃ W, w.alloc (.cells #[.slice none 0 0, .int .i64 0, .int .i64 0] 30) = W := ⟨_, rfl⟩
  rw [hW] at hb hx hpa hra hsz
  have h1 := next_any p A n c k l S W hra hk hn hpa hSp (fun b hb => by have := hS b hb; omega)
  generalize l.getD k Cmd.zeroIt = y at h1 ⊢
  have H1 := Lib.hid h1
  have HW := Lib.hid hW
  have HB := Lib.hid hb
  have HX := Lib.hid hx
  have HSS := Lib.hid hS
  have HSZ := Lib.hid hsz
  have HPL := Lib.hid hpl
  clear h1 hr hk hn hp hSp hS hW hb hx hpa hra hsz hpl
  go_enter Tryz.func57, Tryz.ntmps57
  go_wp2_with fail
  rw [HW.out]
  refine H1.out.mono ?_
  rintro e w1 ⟨V, cv, rfl, hl, hg, hp1⟩
  have hx1 := HX.out.grown hg (fun e => by injection e with e; have := HPL.out; omega)
  have hs1 := hg.size
  have htk := atttake_any y V cv S w1 hl (fun b hb => by have := HSS.out b hb; have := HSZ.out; omega)
  have HG := Lib.hid hg
  have HP := Lib.hid hp1
  have HX1 := Lib.hid hx1
  have HT := Lib.hid htk
  have HS1 := Lib.hid hs1
  clear hl hg hp1 H1 hx1 htk hs1
  go_wp2_with fail
  refine HT.out.mono ?_
  rintro e w2 ⟨D, dn, dc, rfl, hrs, hb2, hnew⟩
  obtain ⟨a, ha⟩ : ∃ a, (attTake y).getD zeroAt = a := ⟨_, rfl⟩
  rw [ha] at hrs ⊢
  obtain ⟨al, aE, aG⟩ := a
  simp only at hrs ⊢
  have HAA := Lib.hid ha
  clear ha HT
  have hw3 := bel_alloc hb2 (.cells #[.slice D dn dc, .int .i64 aE, .int .i64 aG] 30)
  have hk3 := Blk.new w2 30 #[.slice D dn dc, .int .i64 aE, .int .i64 aG]
  have hx3 := HX1.out.bel hw3
  have hrs3 := hrs.alloc (.cells #[.slice D dn dc, .int .i64 aE, .int .i64 aG] 30)
  obtain ⟨w3, hw3'⟩ : ∃ w3, w2.alloc (.cells #[.slice D dn dc, .int .i64 aE, .int .i64 aG] 30) = w3 := ⟨_, rfl⟩
  rw [hw3'] at hw3 hk3 hx3 hrs3
  have HW3 := Lib.hid hw3'
  have HB3 := Lib.hid hw3
  have hblk3 := hx3
  obtain ⟨c0, c1, c2⟩ := blk3 hblk3
  have z0 := hblk3.soft 0
  have z1 := hblk3.soft 1
  have z2 := hblk3.soft 2
  obtain ⟨k0, k1, k2⟩ := blk3 hk3
  clear hw3 hk3 hx3 hw3' hb2
  go_wp2_with (rw [HW3.out])
  obtain ⟨hblk2, hgr⟩ := blk3_set3 hblk3 (.slice D dn dc) (.int .i64 aE) (.int .i64 aG)
  have hp9 := (HP.out.bel HB3.out).grown hgr (fun e => by injection e with e; have := HPL.out; omega)
  have HNEW := Lib.hid hnew
  have hrs9 := Go.Proofs.YtbjooblaamjppaaGreat.Rs.set3n (base := w1.heap.size) hrs3 hnew (r := w.heap.size) (by have := HS1.out; have := HSZ.out; omega) (.slice D dn dc) (.int .i64 aE) (.int .i64 aG)
  generalize ((w3.setCell ⟨w.heap.size, 0, none⟩ (.slice D dn dc)).setCell ⟨w.heap.size, 1, none⟩ (.int .i64 aE)).setCell ⟨w.heap.size, 2, none⟩ (.int .i64 aG) = w9 at hblk2 hgr hp9 hrs9 ⊢
  obtain ⟨d0, d1, d2⟩ := blk3 hblk2
  refine bodyPost_ret (v := .agg #[.slice D dn dc, .int .i64 aE, .int .i64 aG]) (by simp [results, Tryz.results57, go_sem, d0, d1, d2]) rfl ?_
  have hgg : w.grownBy w9 (some p) := gr_step (gr_bel (gr_step (below_gr HB.out _) HG.out fun b hb => .inr hb) HB3.out) hgr fun b hb => by injection hb with hb; exact .inl (by omega)
  exact ⟨D, dn, dc, by rw [HAA.out], by rw [HAA.out]; exact hrs9, fun g o e => by have := HNEW.out g o e; have := HS1.out; have := HSZ.out; omega, hgg, hp9⟩

set_option maxRecDepth 100000 in
set_option maxHeartbeats 4000000 in
theorem partold_any (p : Nat) (A : Option Addr) (n c k : Nat) (l : List It) (S : Nat → Prop) (w : World) (hr : Cod.Row w S A n c l) (hk : k ≤ n) (hn : n ≤ 1000000000) (hp : Blk w p 75 #[.slice A n c, .int .i64 (k : Int)]) (hSp : ¬ S p) (hS : ∀ b, S b → b < w.heap.size) :
    Calls Tryz.prog 57 #[.func (.func 50) #[.pointer (some ⟨p, 0, none⟩)] #[], .func (.func 37) #[] #[]] w ((PartAt oldTake) w p A n c k (l.getD k Cmd.zeroIt)) := by
  have hb := bel_alloc (Below.refl w.heap.size w) (.cells #[.slice none 0 0, .int .i64 0, .int .i64 0] 30)
  have hx := Blk.new w 30 #[.slice none 0 0, .int .i64 0, .int .i64 0]
  have hpl := hp.lt
  have hpa := hp.alloc (.cells #[.slice none 0 0, .int .i64 0, .int .i64 0] 30)
  have hra := hr.below hb hS
  have hsz := size_alloc w (.cells #[.slice none 0 0, .int .i64 0, .int .i64 0] 30)
  obtain ⟨W, hW⟩ : ∃ W, w.alloc (.cells #[.slice none 0 0, .int .i64 0, .int .i64 0] 30) = W := ⟨_, rfl⟩
  rw [hW] at hb hx hpa hra hsz
  have h1 := next_any p A n c k l S W hra hk hn hpa hSp (fun b hb => by have := hS b hb; omega)
  generalize l.getD k Cmd.zeroIt = y at h1 ⊢
  have H1 := Lib.hid h1
  have HW := Lib.hid hW
  have HB := Lib.hid hb
  have HX := Lib.hid hx
  have HSS := Lib.hid hS
  have HSZ := Lib.hid hsz
  have HPL := Lib.hid hpl
  clear h1 hr hk hn hp hSp hS hW hb hx hpa hra hsz hpl
  go_enter Tryz.func57, Tryz.ntmps57
  go_wp2_with fail
  rw [HW.out]
  refine H1.out.mono ?_
  rintro e w1 ⟨V, cv, rfl, hl, hg, hp1⟩
  have hx1 := HX.out.grown hg (fun e => by injection e with e; have := HPL.out; omega)
  have hs1 := hg.size
  have htk := oldtake_any y V cv S w1 hl (fun b hb => by have := HSS.out b hb; have := HSZ.out; omega)
  have HG := Lib.hid hg
  have HP := Lib.hid hp1
  have HX1 := Lib.hid hx1
  have HT := Lib.hid htk
  have HS1 := Lib.hid hs1
  clear hl hg hp1 H1 hx1 htk hs1
  go_wp2_with fail
  refine HT.out.mono ?_
  rintro e w2 ⟨D, dn, dc, rfl, hrs, hb2, hnew⟩
  obtain ⟨a, ha⟩ : ∃ a, (oldTake y).getD zeroAt = a := ⟨_, rfl⟩
  rw [ha] at hrs ⊢
  obtain ⟨al, aE, aG⟩ := a
  simp only at hrs ⊢
  have HAA := Lib.hid ha
  clear ha HT
  have hw3 := bel_alloc hb2 (.cells #[.slice D dn dc, .int .i64 aE, .int .i64 aG] 30)
  have hk3 := Blk.new w2 30 #[.slice D dn dc, .int .i64 aE, .int .i64 aG]
  have hx3 := HX1.out.bel hw3
  have hrs3 := hrs.alloc (.cells #[.slice D dn dc, .int .i64 aE, .int .i64 aG] 30)
  obtain ⟨w3, hw3'⟩ : ∃ w3, w2.alloc (.cells #[.slice D dn dc, .int .i64 aE, .int .i64 aG] 30) = w3 := ⟨_, rfl⟩
  rw [hw3'] at hw3 hk3 hx3 hrs3
  have HW3 := Lib.hid hw3'
  have HB3 := Lib.hid hw3
  have hblk3 := hx3
  obtain ⟨c0, c1, c2⟩ := blk3 hblk3
  have z0 := hblk3.soft 0
  have z1 := hblk3.soft 1
  have z2 := hblk3.soft 2
  obtain ⟨k0, k1, k2⟩ := blk3 hk3
  clear hw3 hk3 hx3 hw3' hb2
  go_wp2_with (rw [HW3.out])
  obtain ⟨hblk2, hgr⟩ := blk3_set3 hblk3 (.slice D dn dc) (.int .i64 aE) (.int .i64 aG)
  have hp9 := (HP.out.bel HB3.out).grown hgr (fun e => by injection e with e; have := HPL.out; omega)
  have HNEW := Lib.hid hnew
  have hrs9 := Go.Proofs.YtbjooblaamjppaaGreat.Rs.set3n (base := w1.heap.size) hrs3 hnew (r := w.heap.size) (by have := HS1.out; have := HSZ.out; omega) (.slice D dn dc) (.int .i64 aE) (.int .i64 aG)
  generalize ((w3.setCell ⟨w.heap.size, 0, none⟩ (.slice D dn dc)).setCell ⟨w.heap.size, 1, none⟩ (.int .i64 aE)).setCell ⟨w.heap.size, 2, none⟩ (.int .i64 aG) = w9 at hblk2 hgr hp9 hrs9 ⊢
  obtain ⟨d0, d1, d2⟩ := blk3 hblk2
  refine bodyPost_ret (v := .agg #[.slice D dn dc, .int .i64 aE, .int .i64 aG]) (by simp [results, Tryz.results57, go_sem, d0, d1, d2]) rfl ?_
  have hgg : w.grownBy w9 (some p) := gr_step (gr_bel (gr_step (below_gr HB.out _) HG.out fun b hb => .inr hb) HB3.out) hgr fun b hb => by injection hb with hb; exact .inl (by omega)
  exact ⟨D, dn, dc, by rw [HAA.out], by rw [HAA.out]; exact hrs9, fun g o e => by have := HNEW.out g o e; have := HS1.out; have := HSZ.out; omega, hgg, hp9⟩
end Go.Proofs.YtbjooblaamjppaaGreat.Rk
