/-
  Texts of earlier layers, as one.
-/
import Derived.Test.YtkejjdoaljoooaaGreatDoorDskNames
import Derived.Laws.Pointers
import Derived.Maps.AppendAt
/- The program's cut of a file; what a file is that was turned. -/
namespace Go.Proofs.YtkejjdoaljoooaaGreatDoor.Dsk
open Lib (hid)
open Go.RowKit Mem
def Turned (x : Pf) (g : Fl) (w w' : World) : Prop :=
 ∃ x' : Pf, x'.f = g ∧ x'.b = x.b ∧ PfIn w' x' ∧ (∀ k, x'.val.ownBlock = some k → x.val.ownBlock = some k ∨ w.heap.size ≤ k) ∧ Keeps x.has w w'
theorem PfIn.mark {w : World} {x : Pf} (h : PfIn w x) {g : Fl} (hg : g.all = x.f.all) : PfIn (w.setCell ⟨x.b, 1, none⟩ (.int .i64 (g.sure.length : Int))) { x with f := g } ∧ w.grownBy (w.setCell ⟨x.b, 1, none⟩ (.int .i64 (g.sure.length : Int))) (some x.b) := by
 have hgr : w.grownBy (w.setCell ⟨x.b, 1, none⟩ (.int .i64 (g.sure.length : Int))) (some x.b) := by
  refine ⟨rfl, rfl, rfl, by simp, fun k hk hne => ?_⟩;exact Below.heap_setCell w ⟨x.b, 1, none⟩ _ k fun e => hne (by rw [e])
 have hv : ({ x with f := g } : Pf).val = x.val := by unfold Pf.val; rw [hg]
 refine ⟨⟨?_, ?_, ?_⟩, hgr⟩
 · rw [hv]
   exact h.box.put 1 (.int .i64 (g.sure.length : Int))
 · rw [hv]
   show World.ownsRow _ 0 _ 1 x.val g.all.length (cs g.all);rw [hg];exact row_keep h.row fun k hk => hgr.block k (h.lt (.inr hk)) fun e => h.self (by rw [hk, e])
 · rw [hv]
   exact h.self
set_option maxRecDepth 20000 in
set_option maxHeartbeats 4000000 in
theorem fcut_any (x : Pf) (k : Nat) (w : World) (h : PfIn w x) (hk : k ≤ x.f.all.length) (hl : x.f.all.length ≤ 1099511627776) :
 Calls Tryz.prog 27 #[.pointer (some ⟨x.b, 0, none⟩), .int .i64 (k : Int)] w (fun e w' => e = .returned (.tuple #[]) ∧ Turned x ⟨x.f.nm, x.f.all.take k, []⟩ w w') := by
 obtain ⟨c0, c1⟩ := h.cells;have hrd := Rd.own h.row;have hn1 := hrd.le;have hn2 := hrd.cap;obtain ⟨n, hn⟩ : ∃ n, x.f.all.length = n := ⟨_, rfl⟩
 obtain ⟨nm, hnm⟩ : ∃ nm, x.f.nm = nm := ⟨_, rfl⟩
 obtain ⟨bs, hbs⟩ : ∃ bs, x.f.all = bs := ⟨_, rfl⟩
 have hf0 := h.box.soft 0;have hf1 := h.box.soft 1;have HX := hid h;have HBS := hid hbs;have HN := hid hn;rw [hn] at c0 hk hl hrd hn1;rw [hbs] at hrd;rw [hbs, hnm];have htk : (bs.take k).length = k := by rw [List.length_take, ← hbs, hn]; omega
 have HTK := hid htk;clear h hn hbs hnm htk;unfold maxLen at hn2;by_cases hlt : k < n
 · have b0 : decide ((k : Int) < (n : Int)) = true := decide_eq_true (by omega)
   have hslc : ∀ u : World, (Instr.slice 71 (.slice x.A n x.c) none (some (.int .i64 (k : Int))) none).run Tryz.prog u = .ok (.slice x.A k x.c) u := fun u => by
    have hsz : ∀ w, (sizeOf (Tryz.prog.elem 71)).run Tryz.prog w = .ok 1 w := fun w => (by kernel_rfl);have hm : (x.A.map fun a => a.add (0 * 1)) = x.A := (by cases x.A <;> simp [Addr.add]);rw [run_slice_h u 71 x.A n x.c Tryz.underlying71 .i64 (k : Int) (by omega) (by omega), hsz];simp only [Result.andThen, sliced, hm, ite_self, Int.toNat_natCast, Nat.sub_zero]
   have hcl := bclone_any x.A k x.c (bs.take k) w (by have := hrd.take (k := k) (by omega); rwa [cs_take] at this) (by omega);have HCL := hid hcl;clear hcl hrd;go_enter Tryz.func27, Tryz.ntmps27
   go_wp2_with fail
   refine HCL.out.mono ?_;rintro e u ⟨A', c', rfl, ho, hb⟩;have hx := HX.out;have hbx : Blk u x.b 84 #[x.val, .int .i64 (x.f.sure.length : Int)] := hx.box.bel hb;have hblt := hx.box.lt;have g0 := hbx.cell 0;have g1 := hbx.cell 1;have g2 := hbx.soft 0;have g3 := hbx.soft 1;have HO := hid ho;have HB := hid hb;have HBX := hid hbx;clear ho hb hx hbx c0 c1 hf0 hf1 HCL hslc hblt;simp only [List.getElem?_toArray, List.getElem?_cons_zero, List.getElem?_cons_succ] at g0 g1;go_wp2_with fail
   go_end0
   have hx := HX.out;have hu := HB.out;have hus := hu.size;have ho := HO.out;have hl0 := hx.box.lt;have e1 : (⟨nm, bs.take k, []⟩ : Fl).all = bs.take k := List.append_nil _;have hne : ∀ j, (Value.slice A' k c').ownBlock = some j → w.heap.size ≤ j := fun j hj => (ho.lt j hj).1
   have hkp : ∀ j, j ≠ x.b → ((u.setCell ⟨x.b, 0, none⟩ (.slice A' k c')).setCell ⟨x.b, 1, none⟩ (.int .i64 (k : Int))).heap[j]? = u.heap[j]? := fun j hj =>
    (Below.heap_setCell _ ⟨x.b, 1, none⟩ _ j hj).trans (Below.heap_setCell u ⟨x.b, 0, none⟩ _ j hj)
   have hv : (⟨⟨nm, bs.take k, []⟩, x.b, A', c'⟩ : Pf).val = .slice A' k c' := by
    unfold Pf.val;rw [e1, HTK.out]
   refine ⟨rfl, ⟨⟨nm, bs.take k, []⟩, x.b, A', c'⟩, rfl, rfl, ⟨?_, ?_, ?_⟩, ?_, ⟨hu.os, hu.tape, hu.output, by simpa using hus, fun j hj hn => ?_⟩⟩
   · rw [hv]
     show Blk _ x.b _ #[_, .int .i64 ((bs.take k).length : Int)];rw [HTK.out];exact (HBX.out.put 0 (.slice A' k c')).put 1 (.int .i64 (k : Int))
   · rw [hv]
     show World.ownsRow _ 0 _ 1 _ (⟨nm, bs.take k, []⟩ : Fl).all.length (cs (⟨nm, bs.take k, []⟩ : Fl).all);rw [e1, HTK.out];exact row_keep (row_base ho (Nat.zero_le _)) fun j hj => hkp j fun e => by have := hne j hj; omega
   · rw [hv]
     exact fun e => by have := hne _ e; show False; have h2 : x.b < w.heap.size := hl0; simp only at this; omega
   · rw [hv]
     exact fun j hj => .inr (hne j hj)
   · exact (hkp j fun e => hn (.inl e)).trans (hu.block j hj)
 · have hkn : k = n := by omega
   subst hkn;have b0 : decide ((k : Int) < (k : Int)) = false := decide_eq_false (by omega);clear hlt hrd;go_enter Tryz.func27, Tryz.ntmps27
   go_wp2_with fail
   go_end0
   have hx := HX.out;have hl : bs.length = k := (by rw [← HBS.out, HN.out]);have e2 : bs.take k = bs := List.take_of_length_le (by omega);rw [e2];have e1 : (⟨nm, bs, []⟩ : Fl).all = x.f.all := (by rw [HBS.out]; exact List.append_nil _);obtain ⟨h1, h2⟩ := hx.mark e1;have e3 : ((⟨nm, bs, []⟩ : Fl).sure.length : Int) = (k : Int) := (by show ((bs.length : Nat) : Int) = _; rw [hl]);rw [e3] at h1 h2;refine ⟨rfl, { x with f := ⟨nm, bs, []⟩ }, rfl, rfl, h1, fun j hj => .inl ?_, ⟨h2.os, h2.tape, h2.output, h2.size, fun j hj hn => h2.block j hj fun e => hn (.inl (by injection e))⟩⟩;have hv : ({ x with f := ⟨nm, bs, []⟩ } : Pf).val = x.val := (by unfold Pf.val; rw [e1]);rw [hv] at hj;exact hj
end Go.Proofs.YtkejjdoaljoooaaGreatDoor.Dsk
/- The program's put: a file stands in the map by its name. -/
namespace Go.Proofs.YtkejjdoaljoooaaGreatDoor.Dsk
open Lib (hid)
open Go.RowKit Mem Go.Maps
set_option maxRecDepth 20000 in
set_option maxHeartbeats 4000000 in
theorem dput_any (p m : Nat) (S : Nat → Prop) (d : Dk) (hs : List Pf) (x : Pf) (s : ByteArray) (w : World) (h : Own w S p m d hs) (hl : hs.length ≤ 16) (hsz : s.size ≤ 281474976710656) (hn : x.f.nm = s) (hin : PfIn w x)
 (ho : ∀ k, x.has k → k ≠ p ∧ k ≠ m ∧ S k) (hoff : ∀ y ∈ hs, y.f.nm ≠ x.f.nm → ∀ k, y.has k → ¬ x.has k) :
 Calls Tryz.prog 84 #[.pointer (some ⟨p, 0, none⟩), .string s, .pointer (some ⟨x.b, 0, none⟩)] w (fun e w' => e = .returned (.tuple #[]) ∧ Own w' S p m { d with fs := put x.f (drop s d.fs) } (putP x (dropP s hs)) ∧ Keeps (fun k => k = m) w w') := by
 have hcl := sclone_any s w.drew hsz;have c0 := h.cells.1;obtain ⟨b, hb⟩ : ∃ b, x.b = b := ⟨_, rfl⟩
 rw [hb];have HCL := hid hcl;have HS0 := hid (show w.drew.cell? ⟨p, 0, none⟩ = some (.map (some m)) from c0);have HPL := hid (show p < w.drew.heap.size from h.box.lt);have HPM := hid h.pm;have HH := hid h;have HL := hid hl;have HSZ := hid hsz;have HN := hid hn;have HXB := hid hb;have HIN := hid hin;have HOUT := hid ho;have HOFF := hid hoff;clear hcl c0 h hl hsz hn hb hin ho hoff;go_enter Tryz.func84, Tryz.ntmps84
 go_upto_region 0 with fail
 refine wp_region_held_drew (S := (fun w' => w'.cell? ⟨p, 0, none⟩ = some (.map (some m)))) (by kernel_rfl) (by first | (with_reducible exact HS2.out) | (with_reducible exact HS1.out) | (with_reducible exact HS0.out)) (fun hHeld => ?_);refine hs_take 0 6 (.pointer (some ⟨p, 0, none⟩)) rfl rfl (by kernel_rfl) (fun _ _ _ h => h) (fun w hS => by go_simp) hHeld ?_;try simp only [n0, n1, n2]
 refine hs_take 1 7 (.pointer (some ⟨p, 0, none⟩)) rfl rfl (by kernel_rfl) (fun _ _ _ h => h) (fun w hS => by go_simp) hHeld ?_;try simp only [n0, n1, n2]
 refine hs_take 2 8 (.pointer (some ⟨p, 0, none⟩)) rfl rfl (by kernel_rfl) (fun _ _ _ h => h) (fun w hS => by go_simp) hHeld ?_;try simp only [n0, n1, n2]
 refine hs_take 3 9 (.map (some m)) rfl rfl (by kernel_rfl) (fun _ _ _ h => h) (fun w hS => by go_simp) hHeld ?_;try simp only [n0, n1, n2]
 refine hs_take 4 10 (.string s) rfl rfl (by kernel_rfl) (fun _ _ _ h => h) (fun w hS => by go_simp) hHeld ?_;try simp only [n0, n1, n2]
 refine hs_take 6 12 (.pointer (some ⟨b, 0, none⟩)) rfl rfl (by kernel_rfl) (fun _ _ _ h => h) (fun w hS => by go_simp) hHeld ?_;try simp only [n0, n1, n2]
 refine wpAnyH_ready (rs := [5]) (by kernel_rfl) (by simp) ?_;refine AllReadyH.cons rfl (fun K hK => ?_) AllReadyH.nil;go_simp;go_at_call 43
 refine HCL.out.mono ?_;rintro e u1 ⟨rfl, hb⟩;have HS1 := hid ((hb.cell (p := ⟨p, 0, none⟩) HPL.out).trans HS0.out);have HB1 := hid (show Below w.heap.size w u1 from (Below.drew (Below.refl w.heap.size w)).trans hb);clear hb HCL;refine hK.out _ _ (by first | (with_reducible exact HS2.out) | (with_reducible exact HS1.out) | (with_reducible exact HS0.out)) (fun hHeld => ?_);clear hK K;refine wpAnyH_ready (rs := [7]) (by kernel_rfl) (by simp) ?_;refine AllReadyH.cons rfl (fun K hK => ?_) AllReadyH.nil;obtain ⟨u2, hrun, hown, hgr⟩ := ((HH.out.below HB1.out).map).update (t := 55) (e := 82) (string_keyed Tryz.underlying9) Tryz.underlying55 (by have := HL.out; unfold maxLen; omega) (WideMaps.keyOf_string_mk Tryz.underlying9 (s := s) (by have := HSZ.out; unfold maxLen; omega)) (ptr_mk b);go_simp;have HS2 := hid (hgr.cell HS1.out (fun e => HPM.out (by injection e)));have HO := hid hown;have HG := hid hgr;clear hrun hown hgr;refine hK.out _ _ (by first | (with_reducible exact HS2.out) | (with_reducible exact HS1.out) | (with_reducible exact HS0.out)) (fun hHeld => ?_);clear hK K;refine wpAnyH_done (by kernel_rfl) ?_ _;go_end0
 have h1 := HH.out.below HB1.out;have hi := HIN.out;have hi1 : PfIn u1 x := hi.keep fun k hk => HB1.out.block k (hi.lt hk);have hput := h1.putf (x := x) HG.out (by rw [HN.out, HXB.out]; exact HO.out) hi1 HOUT.out HOFF.out;rw [HN.out] at hput;have hb1 : Below w.heap.size w u1 := HB1.out;have hg := HG.out;have hz := hb1.size;refine ⟨rfl, hput, ⟨hg.os.trans hb1.os, hg.tape.trans hb1.tape, hg.output.trans hb1.output, Nat.le_trans hz hg.size, fun k hk hn => ?_⟩⟩;exact (hg.block k (by omega) fun e => hn (by injection e)).trans (hb1.block k hk)
end Go.Proofs.YtkejjdoaljoooaaGreatDoor.Dsk
/- The program's deed: is there power? And a deed on a file that there must be. -/
namespace Go.Proofs.YtkejjdoaljoooaaGreatDoor.Dsk
open Lib (hid)
open Go.RowKit Mem Go.Maps
theorem set_grown (w : World) (g i : Nat) (v : Value) : w.grownBy (w.setCell ⟨g, i, none⟩ v) (some g) :=
 ⟨rfl, rfl, rfl, by simp, fun k _ hne => Below.heap_setCell w ⟨g, i, none⟩ _ k fun e => hne (by rw [e])⟩
theorem keeps_set (w : World) (g i : Nat) (v : Value) : Keeps (fun k => k = g) w (w.setCell ⟨g, i, none⟩ v) := Keeps.ofGrown (set_grown w g i v) rfl
theorem di_lt {w : World} {S : Nat → Prop} {p : Nat} {d : Dk} (h : DI w S p d) : ∀ k, S k → k < w.heap.size := by
 obtain ⟨m, hs, h⟩ := h;exact h.lt
theorem di_keep {w w' : World} {S T : Nat → Prop} {p : Nat} {d : Dk} (h : DI w S p d) (hk : Keeps T w w') (hd : ∀ b, S b → ¬ T b) : DI w' S p d := by
 obtain ⟨m, hs, h⟩ := h;exact ⟨m, hs, h.keep hk hd⟩
theorem di_below {w w' : World} {S : Nat → Prop} {p : Nat} {d : Dk} (h : DI w S p d) (hb : Below w.heap.size w w') : DI w' S p d := di_keep h (T := fun _ => False) (Keeps.ofBelow hb) fun _ _ h => h
theorem Does.from {S T : Nat → Prop} {p : Nat} {r : Nat × Dk} {w w1 w' : World} {e : Ending} (h : Does DI p S r w1 e w') (hk : Keeps T w w1) (hT : ∀ k, T k → S k) : Does DI p S r w e w' := by
 obtain ⟨he, S', h1, h2, h3⟩ := h;have hz := hk.size;refine ⟨he, S', h1, fun k hk' => (h2 k hk').imp id fun h => by omega, ⟨h3.os.trans hk.os, h3.tape.trans hk.tape, h3.output.trans hk.output, Nat.le_trans hz h3.size, fun k hk' hn => ?_⟩⟩;exact (h3.block k (by omega) hn).trans (hk.block k hk' fun ht => hn (hT k ht))
theorem Does.stay {S : Nat → Prop} {p n : Nat} {d : Dk} {w w' : World} (h : DI w' S p d) (hk : Keeps S w w') : Does DI p S (n, d) w (.returned (.int .i64 (n : Int))) w' := ⟨rfl, S, h, Grew.refl S w, hk⟩
theorem whole_off {d : Dk} {f : Dk → Nat × Dk} (h : fails d = true) : whole f d = (15, deed d) := by unfold whole; rw [if_pos h]
theorem whole_on {d : Dk} {f : Dk → Nat × Dk} (h : fails d = false) : whole f d = f (deed d) := by unfold whole; rw [if_neg (by rw [h]; decide)]
set_option maxRecDepth 20000 in
set_option maxHeartbeats 4000000 in
theorem deed_append (p : Nat) (S : Nat → Prop) (d : Dk) (f : Dk → Nat × Dk) (v1 v2 v3 : Value) (w : World) (h : DI w S p d) (hf : Fine d)
 (hdo : ∀ w1, DI w1 S p (deed d) → Keeps (fun k => k = p) w w1 → Calls Tryz.prog 82 #[v1, v2, v3] w1 (Does DI p S (f (deed d)) w1)) :
 Calls Tryz.prog 81 #[.pointer (some ⟨p, 0, none⟩), .func (.func 82) #[] #[v1, v2, v3]] w (Does DI p S (whole f d) w) := by
 obtain ⟨m, hs, ho⟩ := h;obtain ⟨c0, c1, c2, c3⟩ := ho.cells;have f2 := ho.box.soft 2;have f3 := ho.box.soft 3;obtain ⟨fs, room, fuse, dn⟩ := d;have hl1 : -9223372036854775808 ≤ fuse := hf.2.2.1;have hl2 : fuse ≤ 9223372036854775807 := hf.2.2.2;have HO := hid ho;have HDO := hid hdo;clear ho hdo hf c0 c1;simp only at c2 c3;go_enter Tryz.func81, Tryz.ntmps81
 by_cases h0 : fuse = 0
 · subst h0
   have hfl : fails ⟨fs, room, 0, dn⟩ = true := (by unfold fails; simp);have hdd : deed ⟨fs, room, 0, dn⟩ = ⟨fs, room, 0, true⟩ := (by unfold deed; rw [if_pos hfl]);rw [whole_off hfl, hdd];have hb := HO.out.setp (d' := ⟨fs, room, 0, true⟩) (set_grown w p 3 (.bool true)) (HO.out.box.put 3 (.bool true)) rfl;have HB := hid (show Does DI p S (15, ⟨fs, room, 0, true⟩) w (.returned (.int .i64 ((15 : Nat) : Int))) (w.setCell ⟨p, 3, none⟩ (.bool true)) from Does.stay ⟨m, hs, hb⟩ (Keeps.ofGrown (set_grown w p 3 (.bool true)) HO.out.sp));clear hb hfl hdd;go_wp2_with fail
   go_ret;exact HB.out
 have b0 : (fuse == 0) = false := by
  cases e : (fuse == 0)
  · rfl
  · simp at e; omega
 cases dn with
 | true =>
   have hfl : fails ⟨fs, room, fuse, true⟩ = true := (by unfold fails; simp);have hdd : deed ⟨fs, room, fuse, true⟩ = ⟨fs, room, fuse, true⟩ := (by unfold deed; rw [if_pos hfl]);rw [whole_off hfl, hdd];have HB := hid (show Does DI p S (15, ⟨fs, room, fuse, true⟩) w (.returned (.int .i64 ((15 : Nat) : Int))) w from Does.stay ⟨m, hs, HO.out⟩ (Keeps.refl S w));clear hfl hdd h0;go_wp2_with fail
   go_ret;exact HB.out
 | false =>
   have hfl : fails ⟨fs, room, fuse, false⟩ = false := (by unfold fails; simp [h0]);rw [whole_on hfl];by_cases hp : 0 < fuse
   · have hdd : deed ⟨fs, room, fuse, false⟩ = ⟨fs, room, fuse - 1, false⟩ := by unfold deed; rw [if_neg (by rw [hfl]; decide), if_pos hp]
     have b1 : decide (0 < fuse) = true := decide_eq_true hp;have hw : IntKind.i64.wrap (fuse - 1) = fuse - 1 := wrap64 (by omega) (by omega);have hb := HO.out.setp (d' := ⟨fs, room, fuse - 1, false⟩) (set_grown w p 2 (.int .i64 (fuse - 1))) (HO.out.box.put 2 (.int .i64 (fuse - 1))) rfl;rw [hdd] at HDO ⊢;have hc := HDO.out _ ⟨m, hs, hb⟩ (keeps_set w p 2 _);have HC := hid hc;clear hc hb hfl hdd h0;obtain ⟨f1, hf1⟩ : ∃ f1, fuse - 1 = f1 := ⟨_, rfl⟩
     rw [hf1] at HC hw ⊢;clear HDO;go_wp2_with fail
     refine HC.out.mono ?_;rintro e u hs';have hd := hs'.from (keeps_set w p 2 _) (fun k hk => by rw [hk]; exact HO.out.sp)
     obtain ⟨rfl, hst⟩ := hd;have HST := hid hst;clear hst hs' HC;go_wp2_with fail
     go_ret;exact ⟨rfl, HST.out⟩
   · have hdd : deed ⟨fs, room, fuse, false⟩ = ⟨fs, room, fuse, false⟩ := by unfold deed; rw [if_neg (by rw [hfl]; decide), if_neg hp]
     have b1 : decide (0 < fuse) = false := decide_eq_false hp;rw [hdd] at HDO ⊢;have hc := HDO.out w ⟨m, hs, HO.out⟩ (Keeps.refl _ w);have HC := hid hc;clear hc hfl hdd h0 HDO;go_wp2_with fail
     refine HC.out.mono ?_;rintro e u ⟨rfl, hst⟩;have HST := hid hst;clear hst HC;go_wp2_with fail
     go_ret;exact ⟨rfl, HST.out⟩
set_option maxRecDepth 20000 in
set_option maxHeartbeats 4000000 in
theorem deed_on (p : Nat) (S : Nat → Prop) (d : Dk) (f : Dk → Nat × Dk) (v1 v2 v3 : Value) (w : World) (h : DI w S p d) (hf : Fine d)
 (hdo : ∀ w1, DI w1 S p (deed d) → Keeps (fun k => k = p) w w1 → Calls Tryz.prog 129 #[v1, v2, v3] w1 (Does DI p S (f (deed d)) w1)) :
 Calls Tryz.prog 81 #[.pointer (some ⟨p, 0, none⟩), .func (.func 129) #[] #[v1, v2, v3]] w (Does DI p S (whole f d) w) := by
 obtain ⟨m, hs, ho⟩ := h;obtain ⟨c0, c1, c2, c3⟩ := ho.cells;have f2 := ho.box.soft 2;have f3 := ho.box.soft 3;obtain ⟨fs, room, fuse, dn⟩ := d;have hl1 : -9223372036854775808 ≤ fuse := hf.2.2.1;have hl2 : fuse ≤ 9223372036854775807 := hf.2.2.2;have HO := hid ho;have HDO := hid hdo;clear ho hdo hf c0 c1;simp only at c2 c3;go_enter Tryz.func81, Tryz.ntmps81
 by_cases h0 : fuse = 0
 · subst h0
   have hfl : fails ⟨fs, room, 0, dn⟩ = true := (by unfold fails; simp);have hdd : deed ⟨fs, room, 0, dn⟩ = ⟨fs, room, 0, true⟩ := (by unfold deed; rw [if_pos hfl]);rw [whole_off hfl, hdd];have hb := HO.out.setp (d' := ⟨fs, room, 0, true⟩) (set_grown w p 3 (.bool true)) (HO.out.box.put 3 (.bool true)) rfl;have HB := hid (show Does DI p S (15, ⟨fs, room, 0, true⟩) w (.returned (.int .i64 ((15 : Nat) : Int))) (w.setCell ⟨p, 3, none⟩ (.bool true)) from Does.stay ⟨m, hs, hb⟩ (Keeps.ofGrown (set_grown w p 3 (.bool true)) HO.out.sp));clear hb hfl hdd;go_wp2_with fail
   go_ret;exact HB.out
 have b0 : (fuse == 0) = false := by
  cases e : (fuse == 0)
  · rfl
  · simp at e; omega
 cases dn with
 | true =>
   have hfl : fails ⟨fs, room, fuse, true⟩ = true := (by unfold fails; simp);have hdd : deed ⟨fs, room, fuse, true⟩ = ⟨fs, room, fuse, true⟩ := (by unfold deed; rw [if_pos hfl]);rw [whole_off hfl, hdd];have HB := hid (show Does DI p S (15, ⟨fs, room, fuse, true⟩) w (.returned (.int .i64 ((15 : Nat) : Int))) w from Does.stay ⟨m, hs, HO.out⟩ (Keeps.refl S w));clear hfl hdd h0;go_wp2_with fail
   go_ret;exact HB.out
 | false =>
   have hfl : fails ⟨fs, room, fuse, false⟩ = false := (by unfold fails; simp [h0]);rw [whole_on hfl];by_cases hp : 0 < fuse
   · have hdd : deed ⟨fs, room, fuse, false⟩ = ⟨fs, room, fuse - 1, false⟩ := by unfold deed; rw [if_neg (by rw [hfl]; decide), if_pos hp]
     have b1 : decide (0 < fuse) = true := decide_eq_true hp;have hw : IntKind.i64.wrap (fuse - 1) = fuse - 1 := wrap64 (by omega) (by omega);have hb := HO.out.setp (d' := ⟨fs, room, fuse - 1, false⟩) (set_grown w p 2 (.int .i64 (fuse - 1))) (HO.out.box.put 2 (.int .i64 (fuse - 1))) rfl;rw [hdd] at HDO ⊢;have hc := HDO.out _ ⟨m, hs, hb⟩ (keeps_set w p 2 _);have HC := hid hc;clear hc hb hfl hdd h0;obtain ⟨f1, hf1⟩ : ∃ f1, fuse - 1 = f1 := ⟨_, rfl⟩
     rw [hf1] at HC hw ⊢;clear HDO;go_wp2_with fail
     refine HC.out.mono ?_;rintro e u hs';have hd := hs'.from (keeps_set w p 2 _) (fun k hk => by rw [hk]; exact HO.out.sp)
     obtain ⟨rfl, hst⟩ := hd;have HST := hid hst;clear hst hs' HC;go_wp2_with fail
     go_ret;exact ⟨rfl, HST.out⟩
   · have hdd : deed ⟨fs, room, fuse, false⟩ = ⟨fs, room, fuse, false⟩ := by unfold deed; rw [if_neg (by rw [hfl]; decide), if_neg hp]
     have b1 : decide (0 < fuse) = false := decide_eq_false hp;rw [hdd] at HDO ⊢;have hc := HDO.out w ⟨m, hs, HO.out⟩ (Keeps.refl _ w);have HC := hid hc;clear hc hfl hdd h0 HDO;go_wp2_with fail
     refine HC.out.mono ?_;rintro e u ⟨rfl, hst⟩;have HST := hid hst;clear hst HC;go_wp2_with fail
     go_ret;exact ⟨rfl, HST.out⟩
end Go.Proofs.YtkejjdoaljoooaaGreatDoor.Dsk
/- The program's deedOn: a deed on a file that there must be. -/
namespace Go.Proofs.YtkejjdoaljoooaaGreatDoor.Dsk
open Lib (hid)
open Go.RowKit Mem Go.Maps
set_option maxRecDepth 20000 in
set_option maxHeartbeats 4000000 in
theorem on1_sync (p : Nat) (S : Nat → Prop) (d : Dk) (f : Dk → Nat × Dk) (s : ByteArray) (b0 b1 b2 : Nat) (w : World) (h : DI w S p d) (hs : s.size ≤ 9223372036854775807)
 (k0 : Blk w b0 25 #[.pointer (some ⟨p, 0, none⟩)]) (k1 : Blk w b1 9 #[.string s]) (k2 : Blk w b2 149 #[.func (.func 85) #[] #[]])
 (hnone : place d.fs s = none → f d = (8, d))
 (hdo : ∀ m hs i x w1, Own w1 S p m d hs → hs[i]? = some x → x.f.nm = s → place d.fs s = some i → Below w.heap.size w w1 → Calls Tryz.prog 85 #[.pointer (some ⟨x.b, 0, none⟩)] w1 (Does DI p S (f d) w1)) :
 Calls Tryz.prog 129 #[.pointer (some ⟨b0, 0, none⟩), .pointer (some ⟨b1, 0, none⟩), .pointer (some ⟨b2, 0, none⟩)] w (Does DI p S (f d) w) := by
 obtain ⟨m, hl, ho⟩ := h;have c0 := ho.cells.1;have q0 := k0.cell 0;have q1 := k1.cell 0;have q2 := k2.cell 0;simp only [List.getElem?_toArray, List.getElem?_cons_zero] at q0 q1 q2;have hfind := fun (q : Nat) => (ho.below (below_drewN (Below.refl w.heap.size w) q)).find (s := s) (by unfold maxLen; omega);obtain ⟨o, hlook⟩ : ∃ o, look hl s = o := ⟨_, rfl⟩
 have hlp := look_place hl s;rw [ho.fs] at hlp;rw [hlook] at hlp hfind;have HO := hid ho;have HN := hid hnone;have HDO := hid hdo;have HLP := hid hlp;clear ho hnone hdo hlp hlook k0 k1 k2;go_enter Tryz.func129, Tryz.ntmps129
 cases o with
 | none =>
   unfold pv at hfind
   have hres : place d.fs s = none := by
    rcases HLP.out with ⟨_, h⟩ | ⟨i, x, h, _⟩
    · exact h
    · cases h
   rw [HN.out hres];clear HLP HDO hres;go_upto_region 1 with fail
   go_quiet (fail)
   go_wp2_with fail
   go_ret;exact Does.stay (di_below ⟨m, hl, HO.out⟩ (below_drewN (Below.refl w.heap.size w) nq)) (Keeps.ofBelow (below_drewN (Below.refl w.heap.size w) nq))
 | some x =>
   unfold pv at hfind
   obtain ⟨i, hres, hi, hnm⟩ : ∃ i, place d.fs s = some i ∧ hl[i]? = some x ∧ x.f.nm = s := by
    rcases HLP.out with ⟨h, _⟩ | ⟨i, y, h, h1, h2, h3⟩
    · cases h
    · injection h with h
      subst h;exact ⟨i, h1, h2, h3⟩
   have HC := hid (fun (q : Nat) => HDO.out m hl i x (w.drewN q) (HO.out.below (below_drewN (Below.refl w.heap.size w) q)) hi hnm hres (below_drewN (Below.refl w.heap.size w) q));clear HLP HDO hres hi hnm HN;go_upto_region 1 with fail
   go_quiet (fail)
   go_wp2_with fail
   refine (HC.out nq).mono ?_;rintro e u hd;obtain ⟨rfl, hst⟩ := hd.from (Keeps.ofBelow (S := S) (below_drewN (Below.refl w.heap.size w) nq)) (fun k hk => hk)
   have HST := hid hst;clear hst hd HC;go_wp2_with fail
   go_ret;exact ⟨rfl, HST.out⟩
set_option maxRecDepth 20000 in
set_option maxHeartbeats 4000000 in
theorem on_sync (p : Nat) (S : Nat → Prop) (d : Dk) (f : Dk → Nat × Dk) (s : ByteArray) (w : World) (h : DI w S p d) (hf : Fine d) (hs : s.size ≤ 9223372036854775807)
 (hnone : ∀ d, place d.fs s = none → f d = (8, d))
 (hdo : ∀ m hs i x w1, Own w1 S p m (deed d) hs → hs[i]? = some x → x.f.nm = s → place (deed d).fs s = some i → (∀ b, b < w.heap.size → ¬ S b → w1.heap[b]? = w.heap[b]?) → w.heap.size ≤ w1.heap.size → Calls Tryz.prog 85 #[.pointer (some ⟨x.b, 0, none⟩)] w1 (Does DI p S (f (deed d)) w1)) :
 Calls Tryz.prog 75 #[.pointer (some ⟨p, 0, none⟩), .string s, .func (.func 85) #[] #[]] w (Does DI p S (whole f d) w) := by
 have hlt := di_lt h
 have hsp : S p := by
  obtain ⟨m, hl, ho⟩ := h;exact ho.sp
 have hb1 := bel_alloc (Below.refl w.heap.size w) (.cells #[.pointer (some ⟨p, 0, none⟩)] 25);have a0 := Blk.new w 25 #[.pointer (some ⟨p, 0, none⟩)];obtain ⟨w1, hw1⟩ : ∃ v, w.alloc (.cells #[.pointer (some ⟨p, 0, none⟩)] 25) = v := ⟨_, rfl⟩
 have z1 : w1.heap.size = w.heap.size + 1 := by rw [← hw1]; simp
 have a1 := Blk.new w1 9 #[.string s];have hb2 := bel_alloc (Below.refl w1.heap.size w1) (.cells #[.string s] 9);obtain ⟨w2, hw2⟩ : ∃ v, w1.alloc (.cells #[.string s] 9) = v := ⟨_, rfl⟩
 have z2 : w2.heap.size = w1.heap.size + 1 := by rw [← hw2]; simp
 have a2 := Blk.new w2 149 #[.func (.func 85) #[] #[]];have hb3 := bel_alloc (Below.refl w2.heap.size w2) (.cells #[.func (.func 85) #[] #[]] 149);obtain ⟨w3, hw3⟩ : ∃ v, w2.alloc (.cells #[.func (.func 85) #[] #[]] 149) = v := ⟨_, rfl⟩
 have z3 : w3.heap.size = w2.heap.size + 1 := by rw [← hw3]; simp
 rw [hw1] at hb1 a0;rw [hw2] at hb2 a1;rw [hw3] at hb3 a2;have a1' := a1.bel hb3;have a0' := (a0.bel hb2).bel hb3;have hb : Below w.heap.size w w3 := (hb1.trans (hb2.mono (by omega))).trans (hb3.mono (by omega))
 have hcall := deed_on p S d f (.pointer (some ⟨w.heap.size, 0, none⟩)) (.pointer (some ⟨w1.heap.size, 0, none⟩)) (.pointer (some ⟨w2.heap.size, 0, none⟩)) w3 (di_below h hb) hf (fun w4 hi hk => by
  have hne : ∀ b, w.heap.size ≤ b → b ≠ p := fun b hb' e => by have := hlt p hsp; omega
  refine on1_sync p S (deed d) f s  w.heap.size w1.heap.size w2.heap.size w4 hi hs ((hk.block _ (by omega) (hne _ (by omega))).trans a0') ((hk.block _ (by omega) (hne _ (by omega))).trans a1') ((hk.block _ (by omega) (hne _ (by omega))).trans a2) (hnone _) fun m hl i x w5 ho h1 h2 h3 hb5 => ?_;have s1 := hk.size;have s2 := hb5.size;refine hdo m hl i x w5 ho h1 h2 h3 (fun b hb' hS => ?_) (by omega);exact ((hb5.block b (by omega)).trans (hk.block b (by omega) fun e => hS (by rw [e]; exact hsp))).trans (hb.block b hb'))
 rw [z2, z1] at hcall;have HC := hid hcall;have HB := hid hb;have HW1 := hid hw1;have HW2 := hid hw2;have HW3 := hid hw3;have q0 := a0'.cell 0;simp only [List.getElem?_toArray, List.getElem?_cons_zero] at q0;clear hcall hb hb1 hb2 hb3 a0 a1 a2 a0' a1' hw1 hw2 hw3 hdo hnone h z1 z2 z3 hlt hsp;go_enter Tryz.func75, Tryz.ntmps75
 go_upto_region 1 with fail
 rw [HW1.out, HW2.out, HW3.out];go_wp2_with fail
 with_reducible refine HC.out.mono ?_
 rintro e u hd;obtain ⟨rfl, hst⟩ := hd.from (Keeps.ofBelow (S := S) HB.out) (fun k hk => hk)
 have HST := hid hst;clear hst hd HC;go_wp2_with fail
 go_ret;exact ⟨rfl, HST.out⟩
set_option maxRecDepth 20000 in
set_option maxHeartbeats 4000000 in
theorem on1_move (p : Nat) (S : Nat → Prop) (d : Dk) (f : Dk → Nat × Dk) (s : ByteArray) (v1 v2 v3 : Value) (b0 b1 b2 : Nat) (w : World) (h : DI w S p d) (hs : s.size ≤ 9223372036854775807)
 (k0 : Blk w b0 25 #[.pointer (some ⟨p, 0, none⟩)]) (k1 : Blk w b1 9 #[.string s]) (k2 : Blk w b2 149 #[.func (.func 191) #[] #[v1, v2, v3]])
 (hnone : place d.fs s = none → f d = (8, d))
 (hdo : ∀ m hs i x w1, Own w1 S p m d hs → hs[i]? = some x → x.f.nm = s → place d.fs s = some i → Below w.heap.size w w1 → Calls Tryz.prog 191 #[.pointer (some ⟨x.b, 0, none⟩), v1, v2, v3] w1 (Does DI p S (f d) w1)) :
 Calls Tryz.prog 129 #[.pointer (some ⟨b0, 0, none⟩), .pointer (some ⟨b1, 0, none⟩), .pointer (some ⟨b2, 0, none⟩)] w (Does DI p S (f d) w) := by
 obtain ⟨m, hl, ho⟩ := h;have c0 := ho.cells.1;have q0 := k0.cell 0;have q1 := k1.cell 0;have q2 := k2.cell 0;simp only [List.getElem?_toArray, List.getElem?_cons_zero] at q0 q1 q2;have hfind := fun (q : Nat) => (ho.below (below_drewN (Below.refl w.heap.size w) q)).find (s := s) (by unfold maxLen; omega);obtain ⟨o, hlook⟩ : ∃ o, look hl s = o := ⟨_, rfl⟩
 have hlp := look_place hl s;rw [ho.fs] at hlp;rw [hlook] at hlp hfind;have HO := hid ho;have HN := hid hnone;have HDO := hid hdo;have HLP := hid hlp;clear ho hnone hdo hlp hlook k0 k1 k2;go_enter Tryz.func129, Tryz.ntmps129
 cases o with
 | none =>
   unfold pv at hfind
   have hres : place d.fs s = none := by
    rcases HLP.out with ⟨_, h⟩ | ⟨i, x, h, _⟩
    · exact h
    · cases h
   rw [HN.out hres];clear HLP HDO hres;go_upto_region 1 with fail
   go_quiet (fail)
   go_wp2_with fail
   go_ret;exact Does.stay (di_below ⟨m, hl, HO.out⟩ (below_drewN (Below.refl w.heap.size w) nq)) (Keeps.ofBelow (below_drewN (Below.refl w.heap.size w) nq))
 | some x =>
   unfold pv at hfind
   obtain ⟨i, hres, hi, hnm⟩ : ∃ i, place d.fs s = some i ∧ hl[i]? = some x ∧ x.f.nm = s := by
    rcases HLP.out with ⟨h, _⟩ | ⟨i, y, h, h1, h2, h3⟩
    · cases h
    · injection h with h
      subst h;exact ⟨i, h1, h2, h3⟩
   have HC := hid (fun (q : Nat) => HDO.out m hl i x (w.drewN q) (HO.out.below (below_drewN (Below.refl w.heap.size w) q)) hi hnm hres (below_drewN (Below.refl w.heap.size w) q));clear HLP HDO hres hi hnm HN;go_upto_region 1 with fail
   go_quiet (fail)
   go_wp2_with fail
   refine (HC.out nq).mono ?_;rintro e u hd;obtain ⟨rfl, hst⟩ := hd.from (Keeps.ofBelow (S := S) (below_drewN (Below.refl w.heap.size w) nq)) (fun k hk => hk)
   have HST := hid hst;clear hst hd HC;go_wp2_with fail
   go_ret;exact ⟨rfl, HST.out⟩
set_option maxRecDepth 20000 in
set_option maxHeartbeats 4000000 in
theorem on_move (p : Nat) (S : Nat → Prop) (d : Dk) (f : Dk → Nat × Dk) (s : ByteArray) (v1 v2 v3 : Value) (w : World) (h : DI w S p d) (hf : Fine d) (hs : s.size ≤ 9223372036854775807)
 (hnone : ∀ d, place d.fs s = none → f d = (8, d))
 (hdo : ∀ m hs i x w1, Own w1 S p m (deed d) hs → hs[i]? = some x → x.f.nm = s → place (deed d).fs s = some i → (∀ b, b < w.heap.size → ¬ S b → w1.heap[b]? = w.heap[b]?) → w.heap.size ≤ w1.heap.size → Calls Tryz.prog 191 #[.pointer (some ⟨x.b, 0, none⟩), v1, v2, v3] w1 (Does DI p S (f (deed d)) w1)) :
 Calls Tryz.prog 75 #[.pointer (some ⟨p, 0, none⟩), .string s, .func (.func 191) #[] #[v1, v2, v3]] w (Does DI p S (whole f d) w) := by
 have hlt := di_lt h
 have hsp : S p := by
  obtain ⟨m, hl, ho⟩ := h;exact ho.sp
 have hb1 := bel_alloc (Below.refl w.heap.size w) (.cells #[.pointer (some ⟨p, 0, none⟩)] 25);have a0 := Blk.new w 25 #[.pointer (some ⟨p, 0, none⟩)];obtain ⟨w1, hw1⟩ : ∃ v, w.alloc (.cells #[.pointer (some ⟨p, 0, none⟩)] 25) = v := ⟨_, rfl⟩
 have z1 : w1.heap.size = w.heap.size + 1 := by rw [← hw1]; simp
 have a1 := Blk.new w1 9 #[.string s];have hb2 := bel_alloc (Below.refl w1.heap.size w1) (.cells #[.string s] 9);obtain ⟨w2, hw2⟩ : ∃ v, w1.alloc (.cells #[.string s] 9) = v := ⟨_, rfl⟩
 have z2 : w2.heap.size = w1.heap.size + 1 := by rw [← hw2]; simp
 have a2 := Blk.new w2 149 #[.func (.func 191) #[] #[v1, v2, v3]];have hb3 := bel_alloc (Below.refl w2.heap.size w2) (.cells #[.func (.func 191) #[] #[v1, v2, v3]] 149);obtain ⟨w3, hw3⟩ : ∃ v, w2.alloc (.cells #[.func (.func 191) #[] #[v1, v2, v3]] 149) = v := ⟨_, rfl⟩
 have z3 : w3.heap.size = w2.heap.size + 1 := by rw [← hw3]; simp
 rw [hw1] at hb1 a0;rw [hw2] at hb2 a1;rw [hw3] at hb3 a2;have a1' := a1.bel hb3;have a0' := (a0.bel hb2).bel hb3;have hb : Below w.heap.size w w3 := (hb1.trans (hb2.mono (by omega))).trans (hb3.mono (by omega))
 have hcall := deed_on p S d f (.pointer (some ⟨w.heap.size, 0, none⟩)) (.pointer (some ⟨w1.heap.size, 0, none⟩)) (.pointer (some ⟨w2.heap.size, 0, none⟩)) w3 (di_below h hb) hf (fun w4 hi hk => by
  have hne : ∀ b, w.heap.size ≤ b → b ≠ p := fun b hb' e => by have := hlt p hsp; omega
  refine on1_move p S (deed d) f s v1 v2 v3 w.heap.size w1.heap.size w2.heap.size w4 hi hs ((hk.block _ (by omega) (hne _ (by omega))).trans a0') ((hk.block _ (by omega) (hne _ (by omega))).trans a1') ((hk.block _ (by omega) (hne _ (by omega))).trans a2) (hnone _) fun m hl i x w5 ho h1 h2 h3 hb5 => ?_;have s1 := hk.size;have s2 := hb5.size;refine hdo m hl i x w5 ho h1 h2 h3 (fun b hb' hS => ?_) (by omega);exact ((hb5.block b (by omega)).trans (hk.block b (by omega) fun e => hS (by rw [e]; exact hsp))).trans (hb.block b hb'))
 rw [z2, z1] at hcall;have HC := hid hcall;have HB := hid hb;have HW1 := hid hw1;have HW2 := hid hw2;have HW3 := hid hw3;have q0 := a0'.cell 0;simp only [List.getElem?_toArray, List.getElem?_cons_zero] at q0;clear hcall hb hb1 hb2 hb3 a0 a1 a2 a0' a1' hw1 hw2 hw3 hdo hnone h z1 z2 z3 hlt hsp;go_enter Tryz.func75, Tryz.ntmps75
 go_upto_region 1 with fail
 rw [HW1.out, HW2.out, HW3.out];go_wp2_with fail
 with_reducible refine HC.out.mono ?_
 rintro e u hd;obtain ⟨rfl, hst⟩ := hd.from (Keeps.ofBelow (S := S) HB.out) (fun k hk => hk)
 have HST := hid hst;clear hst hd HC;go_wp2_with fail
 go_ret;exact ⟨rfl, HST.out⟩
set_option maxRecDepth 20000 in
set_option maxHeartbeats 4000000 in
theorem on1_cut (p : Nat) (S : Nat → Prop) (d : Dk) (f : Dk → Nat × Dk) (s : ByteArray) (v1 : Value) (b0 b1 b2 : Nat) (w : World) (h : DI w S p d) (hs : s.size ≤ 9223372036854775807)
 (k0 : Blk w b0 25 #[.pointer (some ⟨p, 0, none⟩)]) (k1 : Blk w b1 9 #[.string s]) (k2 : Blk w b2 149 #[.func (.func 76) #[] #[v1]])
 (hnone : place d.fs s = none → f d = (8, d))
 (hdo : ∀ m hs i x w1, Own w1 S p m d hs → hs[i]? = some x → x.f.nm = s → place d.fs s = some i → Below w.heap.size w w1 → Calls Tryz.prog 76 #[.pointer (some ⟨x.b, 0, none⟩), v1] w1 (Does DI p S (f d) w1)) :
 Calls Tryz.prog 129 #[.pointer (some ⟨b0, 0, none⟩), .pointer (some ⟨b1, 0, none⟩), .pointer (some ⟨b2, 0, none⟩)] w (Does DI p S (f d) w) := by
 obtain ⟨m, hl, ho⟩ := h;have c0 := ho.cells.1;have q0 := k0.cell 0;have q1 := k1.cell 0;have q2 := k2.cell 0;simp only [List.getElem?_toArray, List.getElem?_cons_zero] at q0 q1 q2;have hfind := fun (q : Nat) => (ho.below (below_drewN (Below.refl w.heap.size w) q)).find (s := s) (by unfold maxLen; omega);obtain ⟨o, hlook⟩ : ∃ o, look hl s = o := ⟨_, rfl⟩
 have hlp := look_place hl s;rw [ho.fs] at hlp;rw [hlook] at hlp hfind;have HO := hid ho;have HN := hid hnone;have HDO := hid hdo;have HLP := hid hlp;clear ho hnone hdo hlp hlook k0 k1 k2;go_enter Tryz.func129, Tryz.ntmps129
 cases o with
 | none =>
   unfold pv at hfind
   have hres : place d.fs s = none := by
    rcases HLP.out with ⟨_, h⟩ | ⟨i, x, h, _⟩
    · exact h
    · cases h
   rw [HN.out hres];clear HLP HDO hres;go_upto_region 1 with fail
   go_quiet (fail)
   go_wp2_with fail
   go_ret;exact Does.stay (di_below ⟨m, hl, HO.out⟩ (below_drewN (Below.refl w.heap.size w) nq)) (Keeps.ofBelow (below_drewN (Below.refl w.heap.size w) nq))
 | some x =>
   unfold pv at hfind
   obtain ⟨i, hres, hi, hnm⟩ : ∃ i, place d.fs s = some i ∧ hl[i]? = some x ∧ x.f.nm = s := by
    rcases HLP.out with ⟨h, _⟩ | ⟨i, y, h, h1, h2, h3⟩
    · cases h
    · injection h with h
      subst h;exact ⟨i, h1, h2, h3⟩
   have HC := hid (fun (q : Nat) => HDO.out m hl i x (w.drewN q) (HO.out.below (below_drewN (Below.refl w.heap.size w) q)) hi hnm hres (below_drewN (Below.refl w.heap.size w) q));clear HLP HDO hres hi hnm HN;go_upto_region 1 with fail
   go_quiet (fail)
   go_wp2_with fail
   refine (HC.out nq).mono ?_;rintro e u hd;obtain ⟨rfl, hst⟩ := hd.from (Keeps.ofBelow (S := S) (below_drewN (Below.refl w.heap.size w) nq)) (fun k hk => hk)
   have HST := hid hst;clear hst hd HC;go_wp2_with fail
   go_ret;exact ⟨rfl, HST.out⟩
set_option maxRecDepth 20000 in
set_option maxHeartbeats 4000000 in
theorem on_cut (p : Nat) (S : Nat → Prop) (d : Dk) (f : Dk → Nat × Dk) (s : ByteArray) (v1 : Value) (w : World) (h : DI w S p d) (hf : Fine d) (hs : s.size ≤ 9223372036854775807)
 (hnone : ∀ d, place d.fs s = none → f d = (8, d))
 (hdo : ∀ m hs i x w1, Own w1 S p m (deed d) hs → hs[i]? = some x → x.f.nm = s → place (deed d).fs s = some i → (∀ b, b < w.heap.size → ¬ S b → w1.heap[b]? = w.heap[b]?) → w.heap.size ≤ w1.heap.size → Calls Tryz.prog 76 #[.pointer (some ⟨x.b, 0, none⟩), v1] w1 (Does DI p S (f (deed d)) w1)) :
 Calls Tryz.prog 75 #[.pointer (some ⟨p, 0, none⟩), .string s, .func (.func 76) #[] #[v1]] w (Does DI p S (whole f d) w) := by
 have hlt := di_lt h
 have hsp : S p := by
  obtain ⟨m, hl, ho⟩ := h;exact ho.sp
 have hb1 := bel_alloc (Below.refl w.heap.size w) (.cells #[.pointer (some ⟨p, 0, none⟩)] 25);have a0 := Blk.new w 25 #[.pointer (some ⟨p, 0, none⟩)];obtain ⟨w1, hw1⟩ : ∃ v, w.alloc (.cells #[.pointer (some ⟨p, 0, none⟩)] 25) = v := ⟨_, rfl⟩
 have z1 : w1.heap.size = w.heap.size + 1 := by rw [← hw1]; simp
 have a1 := Blk.new w1 9 #[.string s];have hb2 := bel_alloc (Below.refl w1.heap.size w1) (.cells #[.string s] 9);obtain ⟨w2, hw2⟩ : ∃ v, w1.alloc (.cells #[.string s] 9) = v := ⟨_, rfl⟩
 have z2 : w2.heap.size = w1.heap.size + 1 := by rw [← hw2]; simp
 have a2 := Blk.new w2 149 #[.func (.func 76) #[] #[v1]];have hb3 := bel_alloc (Below.refl w2.heap.size w2) (.cells #[.func (.func 76) #[] #[v1]] 149);obtain ⟨w3, hw3⟩ : ∃ v, w2.alloc (.cells #[.func (.func 76) #[] #[v1]] 149) = v := ⟨_, rfl⟩
 have z3 : w3.heap.size = w2.heap.size + 1 := by rw [← hw3]; simp
 rw [hw1] at hb1 a0;rw [hw2] at hb2 a1;rw [hw3] at hb3 a2;have a1' := a1.bel hb3;have a0' := (a0.bel hb2).bel hb3;have hb : Below w.heap.size w w3 := (hb1.trans (hb2.mono (by omega))).trans (hb3.mono (by omega))
 have hcall := deed_on p S d f (.pointer (some ⟨w.heap.size, 0, none⟩)) (.pointer (some ⟨w1.heap.size, 0, none⟩)) (.pointer (some ⟨w2.heap.size, 0, none⟩)) w3 (di_below h hb) hf (fun w4 hi hk => by
  have hne : ∀ b, w.heap.size ≤ b → b ≠ p := fun b hb' e => by have := hlt p hsp; omega
  refine on1_cut p S (deed d) f s v1 w.heap.size w1.heap.size w2.heap.size w4 hi hs ((hk.block _ (by omega) (hne _ (by omega))).trans a0') ((hk.block _ (by omega) (hne _ (by omega))).trans a1') ((hk.block _ (by omega) (hne _ (by omega))).trans a2) (hnone _) fun m hl i x w5 ho h1 h2 h3 hb5 => ?_;have s1 := hk.size;have s2 := hb5.size;refine hdo m hl i x w5 ho h1 h2 h3 (fun b hb' hS => ?_) (by omega);exact ((hb5.block b (by omega)).trans (hk.block b (by omega) fun e => hS (by rw [e]; exact hsp))).trans (hb.block b hb'))
 rw [z2, z1] at hcall;have HC := hid hcall;have HB := hid hb;have HW1 := hid hw1;have HW2 := hid hw2;have HW3 := hid hw3;have q0 := a0'.cell 0;simp only [List.getElem?_toArray, List.getElem?_cons_zero] at q0;clear hcall hb hb1 hb2 hb3 a0 a1 a2 a0' a1' hw1 hw2 hw3 hdo hnone h z1 z2 z3 hlt hsp;go_enter Tryz.func75, Tryz.ntmps75
 go_upto_region 1 with fail
 rw [HW1.out, HW2.out, HW3.out];go_wp2_with fail
 with_reducible refine HC.out.mono ?_
 rintro e u hd;obtain ⟨rfl, hst⟩ := hd.from (Keeps.ofBelow (S := S) HB.out) (fun k hk => hk)
 have HST := hid hst;clear hst hd HC;go_wp2_with fail
 go_ret;exact ⟨rfl, HST.out⟩
set_option maxRecDepth 20000 in
set_option maxHeartbeats 4000000 in
theorem on1_remove (p : Nat) (S : Nat → Prop) (d : Dk) (f : Dk → Nat × Dk) (s : ByteArray) (v1 v2 : Value) (b0 b1 b2 : Nat) (w : World) (h : DI w S p d) (hs : s.size ≤ 9223372036854775807)
 (k0 : Blk w b0 25 #[.pointer (some ⟨p, 0, none⟩)]) (k1 : Blk w b1 9 #[.string s]) (k2 : Blk w b2 149 #[.func (.func 190) #[] #[v1, v2]])
 (hnone : place d.fs s = none → f d = (8, d))
 (hdo : ∀ m hs i x w1, Own w1 S p m d hs → hs[i]? = some x → x.f.nm = s → place d.fs s = some i → Below w.heap.size w w1 → Calls Tryz.prog 190 #[.pointer (some ⟨x.b, 0, none⟩), v1, v2] w1 (Does DI p S (f d) w1)) :
 Calls Tryz.prog 129 #[.pointer (some ⟨b0, 0, none⟩), .pointer (some ⟨b1, 0, none⟩), .pointer (some ⟨b2, 0, none⟩)] w (Does DI p S (f d) w) := by
 obtain ⟨m, hl, ho⟩ := h;have c0 := ho.cells.1;have q0 := k0.cell 0;have q1 := k1.cell 0;have q2 := k2.cell 0;simp only [List.getElem?_toArray, List.getElem?_cons_zero] at q0 q1 q2;have hfind := fun (q : Nat) => (ho.below (below_drewN (Below.refl w.heap.size w) q)).find (s := s) (by unfold maxLen; omega);obtain ⟨o, hlook⟩ : ∃ o, look hl s = o := ⟨_, rfl⟩
 have hlp := look_place hl s;rw [ho.fs] at hlp;rw [hlook] at hlp hfind;have HO := hid ho;have HN := hid hnone;have HDO := hid hdo;have HLP := hid hlp;clear ho hnone hdo hlp hlook k0 k1 k2;go_enter Tryz.func129, Tryz.ntmps129
 cases o with
 | none =>
   unfold pv at hfind
   have hres : place d.fs s = none := by
    rcases HLP.out with ⟨_, h⟩ | ⟨i, x, h, _⟩
    · exact h
    · cases h
   rw [HN.out hres];clear HLP HDO hres;go_upto_region 1 with fail
   go_quiet (fail)
   go_wp2_with fail
   go_ret;exact Does.stay (di_below ⟨m, hl, HO.out⟩ (below_drewN (Below.refl w.heap.size w) nq)) (Keeps.ofBelow (below_drewN (Below.refl w.heap.size w) nq))
 | some x =>
   unfold pv at hfind
   obtain ⟨i, hres, hi, hnm⟩ : ∃ i, place d.fs s = some i ∧ hl[i]? = some x ∧ x.f.nm = s := by
    rcases HLP.out with ⟨h, _⟩ | ⟨i, y, h, h1, h2, h3⟩
    · cases h
    · injection h with h
      subst h;exact ⟨i, h1, h2, h3⟩
   have HC := hid (fun (q : Nat) => HDO.out m hl i x (w.drewN q) (HO.out.below (below_drewN (Below.refl w.heap.size w) q)) hi hnm hres (below_drewN (Below.refl w.heap.size w) q));clear HLP HDO hres hi hnm HN;go_upto_region 1 with fail
   go_quiet (fail)
   go_wp2_with fail
   refine (HC.out nq).mono ?_;rintro e u hd;obtain ⟨rfl, hst⟩ := hd.from (Keeps.ofBelow (S := S) (below_drewN (Below.refl w.heap.size w) nq)) (fun k hk => hk)
   have HST := hid hst;clear hst hd HC;go_wp2_with fail
   go_ret;exact ⟨rfl, HST.out⟩
set_option maxRecDepth 20000 in
set_option maxHeartbeats 4000000 in
theorem on_remove (p : Nat) (S : Nat → Prop) (d : Dk) (f : Dk → Nat × Dk) (s : ByteArray) (v1 v2 : Value) (w : World) (h : DI w S p d) (hf : Fine d) (hs : s.size ≤ 9223372036854775807)
 (hnone : ∀ d, place d.fs s = none → f d = (8, d))
 (hdo : ∀ m hs i x w1, Own w1 S p m (deed d) hs → hs[i]? = some x → x.f.nm = s → place (deed d).fs s = some i → (∀ b, b < w.heap.size → ¬ S b → w1.heap[b]? = w.heap[b]?) → w.heap.size ≤ w1.heap.size → Calls Tryz.prog 190 #[.pointer (some ⟨x.b, 0, none⟩), v1, v2] w1 (Does DI p S (f (deed d)) w1)) :
 Calls Tryz.prog 75 #[.pointer (some ⟨p, 0, none⟩), .string s, .func (.func 190) #[] #[v1, v2]] w (Does DI p S (whole f d) w) := by
 have hlt := di_lt h
 have hsp : S p := by
  obtain ⟨m, hl, ho⟩ := h;exact ho.sp
 have hb1 := bel_alloc (Below.refl w.heap.size w) (.cells #[.pointer (some ⟨p, 0, none⟩)] 25);have a0 := Blk.new w 25 #[.pointer (some ⟨p, 0, none⟩)];obtain ⟨w1, hw1⟩ : ∃ v, w.alloc (.cells #[.pointer (some ⟨p, 0, none⟩)] 25) = v := ⟨_, rfl⟩
 have z1 : w1.heap.size = w.heap.size + 1 := by rw [← hw1]; simp
 have a1 := Blk.new w1 9 #[.string s];have hb2 := bel_alloc (Below.refl w1.heap.size w1) (.cells #[.string s] 9);obtain ⟨w2, hw2⟩ : ∃ v, w1.alloc (.cells #[.string s] 9) = v := ⟨_, rfl⟩
 have z2 : w2.heap.size = w1.heap.size + 1 := by rw [← hw2]; simp
 have a2 := Blk.new w2 149 #[.func (.func 190) #[] #[v1, v2]];have hb3 := bel_alloc (Below.refl w2.heap.size w2) (.cells #[.func (.func 190) #[] #[v1, v2]] 149);obtain ⟨w3, hw3⟩ : ∃ v, w2.alloc (.cells #[.func (.func 190) #[] #[v1, v2]] 149) = v := ⟨_, rfl⟩
 have z3 : w3.heap.size = w2.heap.size + 1 := by rw [← hw3]; simp
 rw [hw1] at hb1 a0;rw [hw2] at hb2 a1;rw [hw3] at hb3 a2;have a1' := a1.bel hb3;have a0' := (a0.bel hb2).bel hb3;have hb : Below w.heap.size w w3 := (hb1.trans (hb2.mono (by omega))).trans (hb3.mono (by omega))
 have hcall := deed_on p S d f (.pointer (some ⟨w.heap.size, 0, none⟩)) (.pointer (some ⟨w1.heap.size, 0, none⟩)) (.pointer (some ⟨w2.heap.size, 0, none⟩)) w3 (di_below h hb) hf (fun w4 hi hk => by
  have hne : ∀ b, w.heap.size ≤ b → b ≠ p := fun b hb' e => by have := hlt p hsp; omega
  refine on1_remove p S (deed d) f s v1 v2 w.heap.size w1.heap.size w2.heap.size w4 hi hs ((hk.block _ (by omega) (hne _ (by omega))).trans a0') ((hk.block _ (by omega) (hne _ (by omega))).trans a1') ((hk.block _ (by omega) (hne _ (by omega))).trans a2) (hnone _) fun m hl i x w5 ho h1 h2 h3 hb5 => ?_;have s1 := hk.size;have s2 := hb5.size;refine hdo m hl i x w5 ho h1 h2 h3 (fun b hb' hS => ?_) (by omega);exact ((hb5.block b (by omega)).trans (hk.block b (by omega) fun e => hS (by rw [e]; exact hsp))).trans (hb.block b hb'))
 rw [z2, z1] at hcall;have HC := hid hcall;have HB := hid hb;have HW1 := hid hw1;have HW2 := hid hw2;have HW3 := hid hw3;have q0 := a0'.cell 0;simp only [List.getElem?_toArray, List.getElem?_cons_zero] at q0;clear hcall hb hb1 hb2 hb3 a0 a1 a2 a0' a1' hw1 hw2 hw3 hdo hnone h z1 z2 z3 hlt hsp;go_enter Tryz.func75, Tryz.ntmps75
 go_upto_region 1 with fail
 rw [HW1.out, HW2.out, HW3.out];go_wp2_with fail
 with_reducible refine HC.out.mono ?_
 rintro e u hd;obtain ⟨rfl, hst⟩ := hd.from (Keeps.ofBelow (S := S) HB.out) (fun k hk => hk)
 have HST := hid hst;clear hst hd HC;go_wp2_with fail
 go_ret;exact ⟨rfl, HST.out⟩
end Go.Proofs.YtkejjdoaljoooaaGreatDoor.Dsk
/- The program's Sync, Cut. -/
namespace Go.Proofs.YtkejjdoaljoooaaGreatDoor.Dsk
open Lib (hid)
open Go.RowKit Mem Go.Maps
theorem turn_does {w w' : World} {S : Nat → Prop} {p m i : Nat} {d : Dk} {hs : List Pf} {x : Pf} {g : Fl} (h : Own w S p m d hs) (hx : hs[i]? = some x) (ht : Turned x g w w') (hn : g.nm = x.f.nm) :
 Does DI p S (0, { d with fs := d.fs.set i g }) w (.returned (.int .i64 ((0 : Nat) : Int))) w' := by
 obtain ⟨x', rfl, hb, hin, hr, hk⟩ := ht;have hmx : x ∈ hs := List.mem_of_getElem? hx;exact ⟨rfl, Plus S w w', ⟨m, hs.set i x', h.setf hx hk hb hn hin hr rfl⟩, plus_grew, ⟨hk.os, hk.tape, hk.output, hk.size, fun k hk' hS => hk.block k hk' fun hh => hS (h.out x hmx k hh).2.2⟩⟩
theorem fs_at {w : World} {S : Nat → Prop} {p m i : Nat} {d : Dk} {hs : List Pf} {x : Pf} (h : Own w S p m d hs) (hx : hs[i]? = some x) : d.fs[i]? = some x.f := by rw [← h.fs, List.getElem?_map, hx]; rfl
theorem Turned.drewN {x : Pf} {g : Fl} {w w' : World} {q : Nat} (h : Turned x g (w.drewN q) w') : Turned x g w w' := by
 obtain ⟨x', a, b, c, d, e⟩ := h;exact ⟨x', a, b, c, d, ⟨e.os, e.tape, e.output, e.size, e.block⟩⟩
set_option maxRecDepth 20000 in
set_option maxHeartbeats 4000000 in
theorem sync1_any (p m i : Nat) (S : Nat → Prop) (d : Dk) (hs : List Pf) (x : Pf) (s : ByteArray) (w : World) (h : Own w S p m d hs) (hx : hs[i]? = some x) (hp : place d.fs s = some i) :
 Calls Tryz.prog 85 #[.pointer (some ⟨x.b, 0, none⟩)] w (Does DI p S (doSync s d) w) := by
 have hin := h.file x (List.mem_of_getElem? hx)
 have e : doSync s d = (0, { d with fs := d.fs.set i ⟨x.f.nm, x.f.all, []⟩ }) := by
  unfold doSync;rw [hp];simp only;rw [modify_set _ (fs_at h hx)]
 rw [e];have hm := hin.mark (g := ⟨x.f.nm, x.f.all, []⟩) (List.append_nil _);have hk : Keeps x.has w (w.setCell ⟨x.b, 1, none⟩ (.int .i64 (x.f.all.length : Int))) := Keeps.ofGrown hm.2 (.inl rfl)
 have hv : ({ x with f := ⟨x.f.nm, x.f.all, []⟩ } : Pf).val = x.val := by
  unfold Pf.val;show Value.slice x.A (x.f.all ++ []).length x.c = _;rw [List.append_nil]
 have ht : Turned x ⟨x.f.nm, x.f.all, []⟩ w (w.setCell ⟨x.b, 1, none⟩ (.int .i64 (x.f.all.length : Int))) := ⟨{ x with f := ⟨x.f.nm, x.f.all, []⟩ }, rfl, rfl, hm.1, fun k hk => .inl (by rw [hv] at hk; exact hk), hk⟩
 have hd := turn_does h hx ht rfl;obtain ⟨c0, c1⟩ := hin.cells;have f1 := hin.box.soft 1;obtain ⟨n, hn⟩ : ∃ n, x.f.all.length = n := ⟨_, rfl⟩
 rw [hn] at c0 hd;have HD := hid hd;clear hd ht hv hk hm e hin h hn hx hp;go_enter Tryz.func85, Tryz.ntmps85
 go_wp2_with fail
 go_ret;exact HD.out
set_option maxRecDepth 20000 in
set_option maxHeartbeats 4000000 in
theorem cut1_any (p m i bn : Nat) (S : Nat → Prop) (d : Dk) (hs : List Pf) (x : Pf) (s : ByteArray) (z : Int) (w : World) (h : Own w S p m d hs) (hx : hs[i]? = some x) (hp : place d.fs s = some i) (hl : x.f.all.length ≤ 1099511627776) (hb : Blk w bn 3 #[.int .i64 z]) :
 Calls Tryz.prog 76 #[.pointer (some ⟨x.b, 0, none⟩), .pointer (some ⟨bn, 0, none⟩)] w (Does DI p S (doCut s z d) w) := by
 have hin := h.file x (List.mem_of_getElem? hx);have hga : d.fs.getD i ⟨s, [], []⟩ = x.f := by rw [List.getD_eq_getElem?_getD, fs_at h hx]; rfl
 have q0 := hb.cell 0;simp only [List.getElem?_toArray, List.getElem?_cons_zero] at q0;obtain ⟨c0, c1⟩ := hin.cells;obtain ⟨n, hn⟩ : ∃ n, x.f.all.length = n := ⟨_, rfl⟩
 by_cases hbad : z < 0 ∨ (n : Int) < z
 · have e : doCut s z d = (6, d) := by
    unfold doCut;rw [hp];simp only;rw [hga, hn, if_pos hbad]
   rw [e];have HD := hid (fun (q : Nat) => show Does DI p S (6, d) w (.returned (.int .i64 ((6 : Nat) : Int))) (w.drewN q) from Does.stay (di_below ⟨m, hs, h⟩ (below_drewN (Below.refl w.heap.size w) q)) (Keeps.ofBelow (below_drewN (Below.refl w.heap.size w) q)));rw [hn] at c0;clear h hx hp hl hb hin hga e hn c1;go_enter Tryz.func76, Tryz.ntmps76
   by_cases hz : z < 0
   · have b0 : decide (z < 0) = true := decide_eq_true hz
     clear hbad hz;go_upto_region 1 with fail
     go_quiet (fail)
     go_wp2_with fail
     go_ret;exact HD.out _
   · have b0 : decide (z < 0) = false := decide_eq_false hz
     have b1 : decide ((n : Int) < z) = true := decide_eq_true (hbad.resolve_left hz);clear hbad hz;go_upto_region 1 with fail
     go_quiet (fail)
     go_wp2_with fail
     go_ret;exact HD.out _
 · have hz0 : 0 ≤ z := by omega
   obtain ⟨k, rfl⟩ := Int.eq_ofNat_of_zero_le hz0
   have e : doCut s (k : Int) d = (0, { d with fs := d.fs.set i ⟨x.f.nm, x.f.all.take k, []⟩ }) := by
    unfold doCut;rw [hp];simp only;rw [hga, hn, if_neg hbad, modify_set _ (fs_at h hx)];rfl
   rw [e];have HC := hid (fun (q : Nat) => fcut_any x k (w.drewN q) (hin.keep fun _ _ => rfl) (by omega) hl);have HT := hid (fun (w' : World) (ht : Turned x ⟨x.f.nm, x.f.all.take k, []⟩ w w') => turn_does h hx ht rfl);have b0 : decide ((k : Int) < 0) = false := decide_eq_false (by omega);have b1 : decide ((n : Int) < (k : Int)) = false := decide_eq_false (by omega);have b2 : ¬ n < k := (by omega);rw [hn] at c0;clear h hx hp hl hb hin hga e hn c1 hbad hz0;go_enter Tryz.func76, Tryz.ntmps76
   go_upto_region 1 with fail
   go_quiet (fail)
   go_wp2_with fail
   refine (HC.out nq).mono ?_;rintro e u ⟨rfl, ht⟩;have HD := hid (HT.out u ht.drewN);clear ht HC HT;go_wp2_with fail
   go_ret;exact HD.out
set_option maxRecDepth 20000 in
set_option maxHeartbeats 4000000 in
theorem dsync_any (p : Nat) (S : Nat → Prop) (d : Dk) (s : ByteArray) (w : World) (h : DI w S p d) (hf : Fine d) (hs : s.size ≤ 9223372036854775807) :
 Calls Tryz.prog 46 #[ptr p, .string s] w (Does DI p S (whole (doSync s) d) w) := by
 have HC := hid (on_sync p S d (doSync s) s w h hf hs (fun d hn => by unfold doSync; rw [hn]) fun m hl i x w1 ho hx hnm hp _ _ => sync1_any p m i S (deed d) hl x s w1 ho hx hp);clear h;unfold ptr;go_enter Tryz.func46, Tryz.ntmps46
 go_wp2_with fail
 refine HC.out.mono ?_;rintro e u ⟨rfl, hst⟩;have HST := hid hst;clear hst HC;go_wp2_with fail
 go_ret;exact ⟨rfl, HST.out⟩
set_option maxRecDepth 20000 in
set_option maxHeartbeats 4000000 in
theorem dcut_any (p : Nat) (S : Nat → Prop) (d : Dk) (s : ByteArray) (z : Int) (w : World) (h : DI w S p d) (hf : Fine d) (hs : s.size ≤ 9223372036854775807) :
 Calls Tryz.prog 42 #[ptr p, .string s, .int .i64 z] w (Does DI p S (whole (doCut s z) d) w) := by
 have hlt := di_lt h;have hb := bel_alloc (Below.refl w.heap.size w) (.cells #[.int .i64 z] 3);have hk := Blk.new w 3 #[.int .i64 z];obtain ⟨w0, hw0⟩ : ∃ v, w.alloc (.cells #[.int .i64 z] 3) = v := ⟨_, rfl⟩
 have z0 : w0.heap.size = w.heap.size + 1 := by rw [← hw0]; simp
 rw [hw0] at hb hk
 have hc := on_cut p S d (doCut s z) s (.pointer (some ⟨w.heap.size, 0, none⟩)) w0 (di_below h hb) hf hs (fun d hn => by unfold doCut; rw [hn]) fun m hl i x w1 ho hx hnm hp hkp hz => by
  refine cut1_any p m i w.heap.size S (deed d) hl x s z w1 ho hx hp ?_ ((hkp _ (by omega) fun hS => by have := hlt _ hS; omega).trans hk);have := len_used (fs_at ho hx);have h2 := hf.deed.used;rw [x.f.len_all];unfold Fl.len;omega
 have HC := hid hc;have HB := hid hb;have HW := hid hw0;clear hc hb hk hw0 h hlt z0;unfold ptr;go_enter Tryz.func42, Tryz.ntmps42
 go_upto_region 1 with fail
 rw [HW.out];go_wp2_with fail
 refine HC.out.mono ?_;rintro e u hd;obtain ⟨rfl, hst⟩ := hd.from (Keeps.ofBelow (S := S) HB.out) (fun k hk => hk)
 have HST := hid hst;clear hst hd HC;go_wp2_with fail
 go_ret;exact ⟨rfl, HST.out⟩
end Go.Proofs.YtkejjdoaljoooaaGreatDoor.Dsk
/- The program's Remove, Move. -/
namespace Go.Proofs.YtkejjdoaljoooaaGreatDoor.Dsk
open Lib (hid)
open Go.RowKit Mem Go.Maps
set_option maxRecDepth 20000 in
set_option maxHeartbeats 4000000 in
theorem remove1_any (p m i bd bs : Nat) (S : Nat → Prop) (d : Dk) (hs : List Pf) (x : Pf) (s : ByteArray) (w : World) (h : Own w S p m d hs) (hsz : s.size ≤ 9223372036854775807) (hp : place d.fs s = some i)
 (hb : Blk w bd 25 #[(.pointer (some ⟨p, 0, none⟩))]) (hc : Blk w bs 9 #[.string s]) (hbS : ¬ S bd) (hcS : ¬ S bs) :
 Calls Tryz.prog 190 #[.pointer (some ⟨x.b, 0, none⟩), .pointer (some ⟨bd, 0, none⟩), .pointer (some ⟨bs, 0, none⟩)] w (Does DI p S (doRemove s d) w) := by
 have e : doRemove s d = (0, { d with fs := drop s d.fs }) := by
  unfold doRemove;rw [hp]
 rw [e];have q0 := hb.cell 0;have q1 := hc.cell 0;simp only [List.getElem?_toArray, List.getElem?_cons_zero] at q0 q1;have HS0 := hid (show w.drew.cell? ⟨bd, 0, none⟩ = some (.pointer (some ⟨p, 0, none⟩)) ∧ w.drew.cell? ⟨bs, 0, none⟩ = some (.string s) ∧ w.drew.cell? ⟨p, 0, none⟩ = some (.map (some m)) from ⟨q0, q1, h.cells.1⟩);have HH := hid (show Own w.drew S p m d hs from h.below (Below.drew (Below.refl _ _)));have HSZ := hid hsz;have HBM := hid (show bd ≠ m from fun e => hbS (e ▸ h.sm));have HSM := hid (show bs ≠ m from fun e => hcS (e ▸ h.sm));have HPM := hid h.pm;clear h hsz hp hb hc hbS hcS e q0 q1;go_enter Tryz.func190, Tryz.ntmps190
 go_upto_region 1 with fail
 refine wp_region_held_drew (S := (fun w' => w'.cell? ⟨bd, 0, none⟩ = some (.pointer (some ⟨p, 0, none⟩)) ∧ w'.cell? ⟨bs, 0, none⟩ = some (.string s) ∧ w'.cell? ⟨p, 0, none⟩ = some (.map (some m)))) (by kernel_rfl) (by first | (with_reducible exact HS2.out) | (with_reducible exact HS0.out)) (fun hHeld => ?_);refine hs_take 0 5 (.pointer (some ⟨p, 0, none⟩)) rfl rfl (by kernel_rfl) (fun _ _ _ h => h) (fun w hSw => by (obtain ⟨hS0, hS1, hS2⟩ := hSw); go_simp) hHeld ?_;try simp only [n0, n1, n2]
 refine hs_take 1 6 (.pointer (some ⟨p, 0, none⟩)) rfl rfl (by kernel_rfl) (fun _ _ _ h => h) (fun w hSw => by (obtain ⟨hS0, hS1, hS2⟩ := hSw); go_simp) hHeld ?_;try simp only [n0, n1, n2]
 refine hs_take 2 7 (.pointer (some ⟨p, 0, none⟩)) rfl rfl (by kernel_rfl) (fun _ _ _ h => h) (fun w hSw => by (obtain ⟨hS0, hS1, hS2⟩ := hSw); go_simp) hHeld ?_;try simp only [n0, n1, n2]
 refine hs_take 3 8 (.map (some m)) rfl rfl (by kernel_rfl) (fun _ _ _ h => h) (fun w hSw => by (obtain ⟨hS0, hS1, hS2⟩ := hSw); go_simp) hHeld ?_;try simp only [n0, n1, n2]
 refine hs_take 4 9 (.string s) rfl rfl (by kernel_rfl) (fun _ _ _ h => h) (fun w hSw => by (obtain ⟨hS0, hS1, hS2⟩ := hSw); go_simp) hHeld ?_;try simp only [n0, n1, n2]
 refine wpAnyH_ready (rs := [5]) (by kernel_rfl) (by simp) ?_;refine AllReadyH.cons rfl (fun K hK => ?_) AllReadyH.nil;obtain ⟨u2, hrun, hown, hgr0⟩ := HH.out.map.drop (t := 55) (e := 82) (string_keyed Tryz.underlying9) Tryz.underlying55 (WideMaps.keyOf_string_mk Tryz.underlying9 (s := s) (by have := HSZ.out; unfold maxLen; omega)) 0;have hgr := hgr0.grown;go_simp;have HS2 := hid (show u2.cell? ⟨bd, 0, none⟩ = some (.pointer (some ⟨p, 0, none⟩)) ∧ u2.cell? ⟨bs, 0, none⟩ = some (.string s) ∧ u2.cell? ⟨p, 0, none⟩ = some (.map (some m)) from ⟨hgr.cell HS0.out.1 (fun e => HBM.out (by injection e)), hgr.cell HS0.out.2.1 (fun e => HSM.out (by injection e)), hgr.cell HS0.out.2.2 (fun e => HPM.out (by injection e))⟩);have HO := hid hown;have HG := hid hgr;clear hrun hown hgr hgr0;refine hK.out _ _ (by first | (with_reducible exact HS2.out) | (with_reducible exact HS0.out)) (fun hHeld => ?_);clear hK K;refine wpAnyH_done (by kernel_rfl) ?_ _;go_wp2_with fail
 go_ret;have hd := HH.out.dropf (s := s) HG.out (by have h := HO.out; rw [show Lit.string s.data.toList = key s from rfl, del_ent] at h; exact h);have hg := HG.out;exact ⟨rfl, S, ⟨m, dropP s hs, hd⟩, Grew.refl S w, ⟨hg.os, hg.tape, hg.output, hg.size, fun k hk hS => hg.block k hk fun e => hS (by injection e with e; rw [e]; exact HH.out.sm)⟩⟩
set_option maxRecDepth 20000 in
set_option maxHeartbeats 4000000 in
theorem move1_any (p m i bt bd bs : Nat) (S : Nat → Prop) (d : Dk) (hs : List Pf) (x : Pf) (s t : ByteArray) (w : World) (h : Own w S p m d hs) (hl : hs.length ≤ 16) (hsz : s.size ≤ 9223372036854775807) (htz : t.size ≤ 9223372036854775807) (hx : hs[i]? = some x) (hxn : x.f.nm = s) (hp : place d.fs s = some i)
 (ha : Blk w bt 9 #[.string t]) (hb : Blk w bd 25 #[(.pointer (some ⟨p, 0, none⟩))]) (hc : Blk w bs 9 #[.string s]) (haS : ¬ S bt) (hbS : ¬ S bd) (hcS : ¬ S bs) :
 Calls Tryz.prog 191 #[.pointer (some ⟨x.b, 0, none⟩), .pointer (some ⟨bt, 0, none⟩), .pointer (some ⟨bd, 0, none⟩), .pointer (some ⟨bs, 0, none⟩)] w (Does DI p S (doMove s t d) w) := by
 have hmx := List.mem_of_getElem? hx;have hin := h.file x hmx;have hga : d.fs.getD i ⟨s, [], []⟩ = x.f := by rw [List.getD_eq_getElem?_getD, fs_at h hx]; rfl
 have q0 := hb.cell 0;have q1 := hc.cell 0;have q2 := ha.cell 0;simp only [List.getElem?_toArray, List.getElem?_cons_zero] at q0 q1 q2;have HN := hid (isname_any t w htz);obtain ⟨y, hy⟩ : ∃ y, isName t = y := ⟨_, rfl⟩
 rw [hy] at HN;go_enter Tryz.func191, Tryz.ntmps191
 cases y with
 | false =>
   have e : doMove s t d = (1, d) := by
    unfold doMove;rw [hp];simp only;rw [if_pos hy]
   rw [e];have HD := hid (show Does DI p S (1, d) w (.returned (.int .i64 ((1 : Nat) : Int))) w from Does.stay ⟨m, hs, h⟩ (Keeps.refl S w));clear h hx hxn hp ha hb hc haS hbS hcS hmx hin hga hy e q0 q1;go_wp2_with fail
   refine HN.out.mono ?_;rintro e u ⟨rfl, hu⟩;replace hu := hu.symm;subst hu;clear HN;go_wp2_with fail
   go_ret;exact HD.out
 | true =>
 have e : doMove s t d = (0, { d with fs := put ⟨t, x.f.all, []⟩ (drop t (drop s d.fs)) }) := by
  unfold doMove;rw [hp];simp only;rw [if_neg (by rw [hy]; decide), hga]
 rw [e]
 have ht16 : t.size ≤ 16 := by
  unfold isName at hy;simp only [Bool.and_eq_true, decide_eq_true_eq] at hy;exact hy.2.2
 have HS0 := hid (show w.drew.cell? ⟨bd, 0, none⟩ = some (.pointer (some ⟨p, 0, none⟩)) ∧ w.drew.cell? ⟨bs, 0, none⟩ = some (.string s) ∧ w.drew.cell? ⟨p, 0, none⟩ = some (.map (some m)) from ⟨q0, q1, h.cells.1⟩);have HH := hid (show Own w.drew S p m d hs from h.below (Below.drew (Below.refl _ _)));have HSZ := hid hsz;have HTZ := hid ht16;have HBM := hid (show bd ≠ m from fun e => hbS (e ▸ h.sm));have HSM := hid (show bs ≠ m from fun e => hcS (e ▸ h.sm));have HPM := hid h.pm;have HBD := hid (show Blk w.drew bd _ _ from hb);have HBT := hid (show Blk w.drew bt _ _ from ha);have HAS := hid haS;have HBS := hid hbS;have HMX := hid hmx;have HXN := hid hxn;have HL := hid hl;clear h hx hxn hp ha hb hc haS hbS hcS hmx hin hga hy e hl hsz htz ht16 q0 q1;go_upto_region 3 with (go_at_call 83; refine HN.out.mono ?_; rintro e u ⟨rfl, hu⟩; replace hu := hu.symm; subst hu; clear HN)
 refine wp_region_held_drew (S := (fun w' => w'.cell? ⟨bd, 0, none⟩ = some (.pointer (some ⟨p, 0, none⟩)) ∧ w'.cell? ⟨bs, 0, none⟩ = some (.string s) ∧ w'.cell? ⟨p, 0, none⟩ = some (.map (some m)))) (by kernel_rfl) (by first | (with_reducible exact HS2.out) | (with_reducible exact HS0.out)) (fun hHeld => ?_);refine hs_take 0 9 (.pointer (some ⟨p, 0, none⟩)) rfl rfl (by kernel_rfl) (fun _ _ _ h => h) (fun w hSw => by (obtain ⟨hS0, hS1, hS2⟩ := hSw); go_simp) hHeld ?_;try simp only [n0, n1, n2]
 refine hs_take 1 10 (.pointer (some ⟨p, 0, none⟩)) rfl rfl (by kernel_rfl) (fun _ _ _ h => h) (fun w hSw => by (obtain ⟨hS0, hS1, hS2⟩ := hSw); go_simp) hHeld ?_;try simp only [n0, n1, n2]
 refine hs_take 2 11 (.pointer (some ⟨p, 0, none⟩)) rfl rfl (by kernel_rfl) (fun _ _ _ h => h) (fun w hSw => by (obtain ⟨hS0, hS1, hS2⟩ := hSw); go_simp) hHeld ?_;try simp only [n0, n1, n2]
 refine hs_take 3 12 (.map (some m)) rfl rfl (by kernel_rfl) (fun _ _ _ h => h) (fun w hSw => by (obtain ⟨hS0, hS1, hS2⟩ := hSw); go_simp) hHeld ?_;try simp only [n0, n1, n2]
 refine hs_take 4 13 (.string s) rfl rfl (by kernel_rfl) (fun _ _ _ h => h) (fun w hSw => by (obtain ⟨hS0, hS1, hS2⟩ := hSw); go_simp) hHeld ?_;try simp only [n0, n1, n2]
 refine wpAnyH_ready (rs := [5]) (by kernel_rfl) (by simp) ?_;refine AllReadyH.cons rfl (fun K hK => ?_) AllReadyH.nil;obtain ⟨u2, hrun, hown, hgr0⟩ := HH.out.map.drop (t := 55) (e := 82) (string_keyed Tryz.underlying9) Tryz.underlying55 (WideMaps.keyOf_string_mk Tryz.underlying9 (s := s) (by have := HSZ.out; unfold maxLen; omega)) 0;have hgr := hgr0.grown;go_simp;have HS2 := hid (show u2.cell? ⟨bd, 0, none⟩ = some (.pointer (some ⟨p, 0, none⟩)) ∧ u2.cell? ⟨bs, 0, none⟩ = some (.string s) ∧ u2.cell? ⟨p, 0, none⟩ = some (.map (some m)) from ⟨hgr.cell HS0.out.1 (fun e => HBM.out (by injection e)), hgr.cell HS0.out.2.1 (fun e => HSM.out (by injection e)), hgr.cell HS0.out.2.2 (fun e => HPM.out (by injection e))⟩);have HO := hid hown;have HG := hid hgr;clear hrun hown hgr hgr0;refine hK.out _ _ (by first | (with_reducible exact HS2.out) | (with_reducible exact HS0.out)) (fun hHeld => ?_);clear hK K;refine wpAnyH_done (by kernel_rfl) ?_ _;skip;have hh := HH.out;have hg := HG.out;have hx := hh.file x HMX.out;have hout := hh.out x HMX.out;have hd := hh.dropf (s := s) hg (by have h := HO.out; rw [show Lit.string s.data.toList = key s from rfl, del_ent] at h; exact h);have hx2 : PfIn u2 x := hx.keep fun k hk => hg.block k (hx.lt hk) fun e => (hout k hk).2.1 (by injection e);have hnot : ∀ y ∈ dropP s hs, ∀ k, y.has k → ¬ x.has k := fun y hy k hyk => hh.off y (mem_dropP.1 hy).1 x HMX.out (fun e => (mem_dropP.1 hy).2 (e.trans HXN.out)) k hyk;have hm := hx2.mark (g := ⟨t, x.f.all, []⟩) (List.append_nil _)
 have hv : ({ x with f := ⟨t, x.f.all, []⟩ } : Pf).val = x.val := by
  unfold Pf.val;show Value.slice x.A (x.f.all ++ []).length x.c = _;rw [List.append_nil]
 have hhas : ∀ k, ({ x with f := ⟨t, x.f.all, []⟩ } : Pf).has k ↔ x.has k := fun k => by unfold Pf.has; rw [hv]
 obtain ⟨w3, hw3⟩ : ∃ v, u2.setCell ⟨x.b, 1, none⟩ (.int .i64 (((⟨t, x.f.all, []⟩ : Fl).sure.length : Nat) : Int)) = v := ⟨_, rfl⟩
 rw [hw3] at hm
 have hown3 : Own w3 S p m { d with fs := drop s d.fs } (dropP s hs) := hd.same hm.2.size fun k hk => hm.2.block k (hd.lt k (hd.inS hk)) fun e => by
  injection e with e;subst e;rcases hk with hk | hk | ⟨y, hy, hk⟩
  · exact (hout _ (.inl rfl)).1 hk
  · exact (hout _ (.inl rfl)).2.1 hk
  · exact hnot y hy _ hk (.inl rfl)
 have hS3 : S x.b := (hout _ (.inl rfl)).2.2;have hb3 : Blk w3 bd 25 #[(.pointer (some ⟨p, 0, none⟩))] := (hm.2.block bd (by have := HBD.out.lt; have := hg.size; omega) fun e => HBS.out (by injection e with e; rw [e]; exact hS3)).trans ((hg.block bd HBD.out.lt fun e => HBM.out (by injection e)).trans HBD.out);have ht3 : Blk w3 bt 9 #[.string t] := (hm.2.block bt (by have := HBT.out.lt; have := hg.size; omega) fun e => HAS.out (by injection e with e; rw [e]; exact hS3)).trans ((hg.block bt HBT.out.lt fun e => HAS.out (by injection e with e; rw [e]; exact hh.sm)).trans HBT.out)
 have hput := dput_any p m S { d with fs := drop s d.fs } (dropP s hs) { x with f := ⟨t, x.f.all, []⟩ } t w3 hown3 (by have h1 := HL.out; have h2 := List.length_filter_le (fun h : Pf => !eqn h.f.nm s) hs; unfold dropP; omega) (by have := HTZ.out; omega) rfl hm.1
  (fun k hk => hout k ((hhas k).1 hk)) (fun y hy _ k hyk hk => hnot y hy k hyk ((hhas k).1 hk))
 have HPUT := hid hput;have HK3 := hid (show Keeps S w w3 from ⟨hm.2.os.trans hg.os, hm.2.tape.trans hg.tape, hm.2.output.trans hg.output, Nat.le_trans hg.size hm.2.size, fun k hk hS => (hm.2.block k (Nat.lt_of_lt_of_le hk hg.size) fun e => hS (by injection e with e; rw [e]; exact hS3)).trans (hg.block k hk fun e => hS (by injection e with e; rw [e]; exact hh.sm))⟩);have HSM2 := hid hh.sm;obtain ⟨c0, c1⟩ := hx2.cells;have f1 := hx2.box.soft 1;obtain ⟨n, hn⟩ : ∃ n, x.f.all.length = n := ⟨_, rfl⟩
 have hw4 : u2.setCell ⟨x.b, 1, none⟩ (.int .i64 (n : Int)) = w3 := by rw [← hw3]; show _ = u2.setCell _ (.int .i64 (x.f.all.length : Int)); rw [hn]
 rw [hn] at c0;have HW4 := hid hw4;have t0 := ht3.cell 0;have t1 := hb3.cell 0;simp only [List.getElem?_toArray, List.getElem?_cons_zero] at t0 t1;clear hh hg hx hout hd hx2 hnot hm hv hhas hw3 hw4 hown3 hS3 hb3 ht3 hput hn HH HG HO HS0 HS2 HBD HBT;go_upto_region 5 with fail
 rw [HW4.out];go_wp2_with fail
 with_reducible refine HPUT.out.mono ?_
 rintro e u5 ⟨rfl, ho5, hk5⟩
 have HD := hid (show Does DI p S (0, { d with fs := put ⟨t, x.f.all, []⟩ (drop t (drop s d.fs)) }) w (.returned (.int .i64 ((0 : Nat) : Int))) u5 from by
  have hk3 := HK3.out;refine ⟨rfl, S, ⟨m, _, ho5⟩, Grew.refl S w, ⟨hk5.os.trans hk3.os, hk5.tape.trans hk3.tape, hk5.output.trans hk3.output, Nat.le_trans hk3.size hk5.size, fun k hk hS => ?_⟩⟩;exact (hk5.block k (Nat.lt_of_lt_of_le hk hk3.size) fun e => hS (by rw [e]; exact HSM2.out)).trans (hk3.block k hk hS))
 clear ho5 hk5 HPUT;go_wp2_with fail
 go_ret;exact HD.out
end Go.Proofs.YtkejjdoaljoooaaGreatDoor.Dsk
/- The program's Append. -/
namespace Go.Proofs.YtkejjdoaljoooaaGreatDoor.Dsk
open Lib (hid)
open Go.RowKit Mem Go.Maps
theorem append_at {w : World} {V : Option Addr} {n cv : Nat} {xs : List Value} (hown : w.ownsRow 0 5 1 (.slice V n cv) n xs) {A : Option Addr} {k c : Nat} {news : List Value} (hr : Rd w A k c news) (h1 : ∀ u ∈ news, u.oneCell' = true)
 (h63 : n + k ≤ maxLen) (hb : n + k ≤ 140737488355328) (ty : TypeId) :
 ∃ V' c' w', (Builtin.append_ #[71, 71] ty #[.slice V n cv, .slice A k c]).run Tryz.prog w = .ok (.slice V' (n + k) c') w' ∧ w'.ownsRow 0 5 1 (.slice V' (n + k) c') (n + k) (xs ++ news) ∧ w.grownBy w' (Value.slice V n cv).ownBlock ∧
  ((Value.slice V' (n + k) c').ownBlock = (Value.slice V n cv).ownBlock ∨ (Value.slice V' (n + k) c').ownBlock = some w.heap.size) := by
 obtain ⟨i0, hi, hz0, hz1, hz2⟩ := info_parts info5;rcases A with _ | ad
 · have hc : c = 0 := hr.nil rfl
   have hm : k = 0 := (by have := hr.le; omega);subst hc;subst hm;have hn : news = [] := List.eq_nil_of_length_eq_zero hr.len;subst hn;exact ⟨V, cv, w, run_append_owned_none (P := Tryz.prog) (w := w) 0 71 ty 5 i0 1 Tryz.underlying71 hi _ n xs hown, by simpa using hown, ⟨rfl, rfl, rfl, Nat.le_refl _, fun _ _ _ => rfl⟩, .inl rfl⟩
 · obtain ⟨v', w', hrun, ho, hg, hnil, hloc⟩ := run_append_own_at (P := Tryz.prog) w 0 71 ty 5 i0 _ 1 1 Tryz.underlying71 hi hz0 hz1 hz2 rfl (by omega) _ n xs hown ad k c news (by rw [hr.len, Nat.mul_one]) (hr.cells _ rfl) h1 h63 (by omega) (Nat.zero_le _)
   obtain ⟨V', c', rfl, _⟩ := Rd.of_own ho;exact ⟨V', c', w', hrun, ho, hg, hloc⟩
theorem step_append_at {w : World} {ops : Array Oper} {o : Oper} {a : Act} {K : Act → World → Prop} {Q : Exit → Act → World → Prop} {E : Prop} (hgd : o.guard = none) (s x : Operand)
 (ho : o.op = .call { callee := .builtin .append, args := #[s, x], argTypes := #[71, 71] })
 {V : Option Addr} {n cv : Nat} {xs : List Value} (hs : a.eval s = .slice V n cv) (hown : w.ownsRow 0 5 1 (.slice V n cv) n xs)
 {A : Option Addr} {m c : Nat} {news : List Value} (hx : a.eval x = .slice A m c) (hr : Rd w A m c news) (h1 : ∀ u ∈ news, u.oneCell' = true) (h63 : n + m ≤ maxLen) (hb : n + m ≤ 140737488355328)
 (h : ∀ V' c' w', w'.ownsRow 0 5 1 (.slice V' (n + m) c') (n + m) (xs ++ news) → w.grownBy w' (Value.slice V n cv).ownBlock → ((Value.slice V' (n + m) c').ownBlock = (Value.slice V n cv).ownBlock ∨ (Value.slice V' (n + m) c').ownBlock = some w.heap.size) → K (a.put o.dst (.slice V' (n + m) c')) w') :
 if Region.wanted o (yielded ops a.tmps) = true then Oper.wp Tryz.prog o a w K Q else E := by
 have hw : Region.wanted o (yielded ops a.tmps) = true := by simp [Region.wanted, hgd]
 rw [if_pos hw];obtain ⟨V', c', w', hrun, ho', hg, hl⟩ := append_at hown hr h1 h63 hb o.type;unfold Oper.wp;simp [execOp, ho, resolve, invoke, builtin, hs, hx, hrun, Result.andThen];exact h V' c' w' ho' hg hl
theorem grow_turned {w u : World} {x : Pf} {n bn c' : Nat} {V' : Option Addr} {bs : List Nat} (hin : PfIn w x) (hn : x.f.all.length = n) (hown : u.ownsRow 0 5 1 (.slice V' (n + bn) c') (n + bn) (cs x.f.all ++ cs bs))
 (hgr : w.grownBy u (Value.slice x.A n x.c).ownBlock) (hloc : (Value.slice V' (n + bn) c').ownBlock = (Value.slice x.A n x.c).ownBlock ∨ (Value.slice V' (n + bn) c').ownBlock = some w.heap.size) :
 Turned x ⟨x.f.nm, x.f.sure, x.f.tail ++ bs⟩ w (u.setCell ⟨x.b, 0, none⟩ (.slice V' (n + bn) c')) := by
 have hval : x.val = .slice x.A n x.c := by unfold Pf.val; rw [hn]
 rw [← hval] at hgr hloc;have hall : (⟨x.f.nm, x.f.sure, x.f.tail ++ bs⟩ : Fl).all = x.f.all ++ bs := (List.append_assoc _ _ _).symm
 have hlen : (x.f.all ++ bs).length = n + bn := by
  have h1 := hown.1;rw [List.length_append, length_cs, length_cs, Nat.mul_one] at h1;rw [List.length_append, h1]
 have hv : (⟨⟨x.f.nm, x.f.sure, x.f.tail ++ bs⟩, x.b, V', c'⟩ : Pf).val = .slice V' (n + bn) c' := by
  unfold Pf.val;rw [hall, hlen]
 have hxl := hin.box.lt;have hbu : Blk u x.b 84 #[x.val, .int .i64 (x.f.sure.length : Int)] := hin.box.grown hgr fun e => hin.self e.symm
 have hne : ∀ j, (Value.slice V' (n + bn) c').ownBlock = some j → j ≠ x.b := by
  intro j hj e;rcases hloc with h | h
  · rw [h] at hj
    exact hin.self (by rw [hj, e])
  · rw [h] at hj
    injection hj with hj;omega
 have hset : ∀ j, j ≠ x.b → (u.setCell ⟨x.b, 0, none⟩ (.slice V' (n + bn) c')).heap[j]? = u.heap[j]? := fun j hj => Below.heap_setCell u ⟨x.b, 0, none⟩ _ j hj;refine ⟨⟨⟨x.f.nm, x.f.sure, x.f.tail ++ bs⟩, x.b, V', c'⟩, rfl, rfl, ⟨?_, ?_, ?_⟩, ?_, ⟨hgr.os, hgr.tape, hgr.output, by simpa using hgr.size, fun k hk hn' => ?_⟩⟩
 · rw [hv]
   exact hbu.put 0 (.slice V' (n + bn) c')
 · rw [hv]
   show World.ownsRow _ 0 _ 1 _ (⟨x.f.nm, x.f.sure, x.f.tail ++ bs⟩ : Fl).all.length (cs (⟨x.f.nm, x.f.sure, x.f.tail ++ bs⟩ : Fl).all);rw [hall, hlen, cs_append];exact row_keep hown fun j hj => hset j (hne j hj)
 · rw [hv]
   exact fun e => hne _ e rfl
 · rw [hv]
   intro k hk;rcases hloc with h | h
   · exact .inl (by rw [← h, hk])
   · rw [h] at hk
     injection hk with hk;exact .inr (by omega)
 · exact (hset k fun e => hn' (.inl e)).trans (hgr.block k hk fun e => hn' (.inr e.symm))
theorem Does.step {S S1 : Nat → Prop} {p : Nat} {r : Nat × Dk} {w w1 w' : World} {e : Ending} (h : Does DI p S1 r w1 e w') (hk : Keeps S w w1) (hg : Grew S S1 w) : Does DI p S r w e w' := by
 obtain ⟨he, S', h1, h2, h3⟩ := h;have hz := hk.size;refine ⟨he, S', h1, fun k hk' => ?_, ⟨h3.os.trans hk.os, h3.tape.trans hk.tape, h3.output.trans hk.output, Nat.le_trans hz h3.size, fun k hk' hn => ?_⟩⟩
 · rcases h2 k hk' with h | h
   · exact hg k h
   · exact .inr (by omega)
 · refine (h3.block k (by omega) fun hs => ?_).trans (hk.block k hk' hn)
   rcases hg k hs with h | h
   · exact hn h
   · omega
theorem put_set {f g : Fl} {l : List Fl} {i : Nat} {y : Fl} (hn : ∀ x ∈ l, x.nm ≠ f.nm) (hg : g.nm = f.nm) (hi : (put f l)[i]? = some y) (hy : y.nm = f.nm) : (put f l).set i g = put g l := by
 induction l generalizing i with
 | nil =>
   cases i with
   | zero => rfl
   | succ i => simp [put] at hi
 | cons a r ih =>
   unfold put at hi ⊢;rw [hg];split
   · rename_i hgt
     rw [if_pos hgt] at hi;cases i with
     | zero => rfl
     | succ i =>
       have : y ∈ a :: r := List.mem_of_getElem? hi;exact absurd hy (hn y this)
   · rename_i hgt
     rw [if_neg hgt] at hi;cases i with
     | zero =>
       injection hi with hi;exact absurd (by rw [hi]; exact hy) (hn a (by simp))
     | succ i =>
       rw [List.set_cons_succ, ih (fun x hx => hn x (by simp [hx])) hi]
set_option maxRecDepth 20000 in
set_option maxHeartbeats 4000000 in
theorem append1_any (p m b0 b1 b2 : Nat) (S : Nat → Prop) (d : Dk) (hs : List Pf) (s : ByteArray) (BA : Option Addr) (bn bc : Nat) (bs : List Nat) (w : World) (h : Own w S p m d hs) (hf : Fine d) (hsz : s.size ≤ 9223372036854775807) (hbn : bn ≤ 1099511627776)
 (k0 : Blk w b0 25 #[(.pointer (some ⟨p, 0, none⟩))]) (k1 : Blk w b1 9 #[.string s]) (k2 : Blk w b2 71 #[.slice BA bn bc]) (n0 : ¬ S b0) (n1 : ¬ S b1) (n2 : ¬ S b2) (hr : Rd w BA bn bc (cs bs)) (ho : Outs S bn BA) :
 Calls Tryz.prog 82 #[.pointer (some ⟨b0, 0, none⟩), .pointer (some ⟨b1, 0, none⟩), .pointer (some ⟨b2, 0, none⟩)] w (Does DI p S (doAppend s bs d) w) := by
 have c0 := h.cells.1;have q0 := k0.cell 0;have q1 := k1.cell 0;simp only [List.getElem?_toArray, List.getElem?_cons_zero] at q0 q1;have hbl : bs.length = bn := by have := hr.len; rwa [length_cs] at this
 have hfind := fun (q : Nat) => (h.below (below_drewN (Below.refl w.heap.size w) q)).find (s := s) (by unfold maxLen; omega);obtain ⟨o, hlook⟩ : ∃ o, look hs s = o := ⟨_, rfl⟩
 rw [hlook] at hfind;obtain ⟨t0, ht0⟩ : ∃ t0, isName s = t0 := ⟨_, rfl⟩
 have HN := hid (fun (u : World) => isname_any s u hsz);rw [ht0] at HN;have HH := hid h;have HF := hid hf;have HK0 := hid k0;have HK1 := hid k1;have HK2 := hid k2;have HN0 := hid n0;have HN1 := hid n1;have HN2 := hid n2;have HR := hid hr;have HOU := hid ho;have HBN := hid hbn;have HBL := hid hbl;have HLK := hid hlook;have HT0 := hid ht0;clear h hf k0 k1 k2 n0 n1 n2 hr ho hbn hbl hlook ht0 hsz;go_enter Tryz.func82, Tryz.ntmps82
 go_upto_region 1 with fail
 go_quiet (fail)
 go_upto_region 2 with fail
 obtain ⟨w1, hw1⟩ : ∃ v, w.drewN nq = v := ⟨_, rfl⟩
 have hb1 : Below w.heap.size w w1 := by rw [← hw1]; exact below_drewN (Below.refl _ _) nq
 have hz1 : w1.heap.size = w.heap.size := by rw [← hw1]; rfl
 have HH1 := hid (HH.out.below hb1);have HB1 := hid hb1;have HZ1 := hid hz1;have q0 := (HK0.out.bel hb1).cell 0;have q1 := (HK1.out.bel hb1).cell 0;simp only [List.getElem?_toArray, List.getElem?_cons_zero] at q0 q1;rw [hw1];clear hfind c0 hb1 hz1 hw1;cases t0 with
 | false =>
   have e : doAppend s bs d = (1, d) := by
    unfold doAppend;rw [if_pos HT0.out]
   have HE := hid e;have HD := hid (show Does DI p S (1, d) w (.returned (.int .i64 ((1 : Nat) : Int))) w1 from Does.stay ⟨m, hs, HH1.out⟩ (Keeps.ofBelow HB1.out));clear e;go_wp2_with fail
   refine (HN.out _).mono ?_;rintro e u ⟨rfl, hu⟩;replace hu := hu.symm;subst hu;clear HN;go_wp2_with fail
   go_ret;rw [HE.out];exact HD.out
 | true =>
   have hu := HF.out.used;have hroom := HF.out.1.2.1;have hroom2 := HF.out.2.1;obtain ⟨U, hU⟩ : ∃ v, used d.fs = v := ⟨_, rfl⟩
   obtain ⟨room, hrm⟩ : ∃ v, d.room = v := ⟨_, rfl⟩
   have hsi := size_any p m S d hs w1.drew (HH1.out.below (Below.drew (Below.refl _ _))) (by omega);rw [hU] at hsi hu hroom;rw [hrm] at hroom hroom2;obtain ⟨t, ht⟩ : ∃ t, decide (room - (U : Int) < (bn : Int)) = t := ⟨_, rfl⟩
   have hwr : IntKind.i64.wrap (room - (U : Int)) = room - (U : Int) := wrap64 (by omega) (by omega);have hr1 := HH1.out.cells.2.1;rw [hrm] at hr1;have q2 := (HK2.out.bel HB1.out).cell 0;simp only [List.getElem?_toArray, List.getElem?_cons_zero] at q2;have HSI := hid hsi;have HS1 := hid (show w1.drew.cell? ⟨b2, 0, none⟩ = some (.slice BA bn bc) ∧ w1.drew.cell? ⟨b0, 0, none⟩ = some (.pointer (some ⟨p, 0, none⟩)) ∧ w1.drew.cell? ⟨p, 1, none⟩ = some (.int .i64 room) from ⟨q2, q0, hr1⟩);have HL := hid (show b2 < w1.drew.heap.size ∧ b0 < w1.drew.heap.size ∧ p < w1.drew.heap.size from ⟨(HK2.out.bel HB1.out).lt, (HK0.out.bel HB1.out).lt, HH1.out.box.lt⟩);have HT := hid ht;have HUU := hid hU;have HRM := hid hrm;have HROOM := hid hroom;have HROOM2 := hid hroom2;have HUB := hid hu;clear hsi hr1 q2 hU hrm hroom hroom2 hu;go_upto_region 4 with (go_at_call 83; refine (HN.out _).mono ?_; rintro e u ⟨rfl, hu⟩; replace hu := hu.symm; subst hu; clear HN)
   refine wp_region_held_drew (S := (fun w' => w'.cell? ⟨b2, 0, none⟩ = some (.slice BA bn bc) ∧ w'.cell? ⟨b0, 0, none⟩ = some (.pointer (some ⟨p, 0, none⟩)) ∧ w'.cell? ⟨p, 1, none⟩ = some (.int .i64 room))) (by kernel_rfl) (by first | (with_reducible exact HS2.out) | (with_reducible exact HS1.out)) (fun hHeld => ?_);refine hs_take 0 16 (.slice BA bn bc) rfl rfl (by kernel_rfl) (fun _ _ _ h => h) (fun w hSw => by (obtain ⟨hS0, hS1, hS2⟩ := hSw); go_simp) hHeld ?_;try simp only [n0, n1, n2]
   refine hs_take 1 17 (.int .i64 (bn : Int)) rfl rfl (by kernel_rfl) (fun _ _ _ h => h) (fun w hSw => by (obtain ⟨hS0, hS1, hS2⟩ := hSw); go_simp) hHeld ?_;try simp only [n0, n1, n2]
   refine hs_take 2 18 (.pointer (some ⟨p, 0, none⟩)) rfl rfl (by kernel_rfl) (fun _ _ _ h => h) (fun w hSw => by (obtain ⟨hS0, hS1, hS2⟩ := hSw); go_simp) hHeld ?_;try simp only [n0, n1, n2]
   refine hs_take 3 19 (.pointer (some ⟨p, 0, none⟩)) rfl rfl (by kernel_rfl) (fun _ _ _ h => h) (fun w hSw => by (obtain ⟨hS0, hS1, hS2⟩ := hSw); go_simp) hHeld ?_;try simp only [n0, n1, n2]
   refine hs_take 4 20 (.pointer (some ⟨p, 1, none⟩)) rfl rfl (by kernel_rfl) (fun _ _ _ h => h) (fun w hSw => by (obtain ⟨hS0, hS1, hS2⟩ := hSw); go_simp) hHeld ?_;try simp only [n0, n1, n2]
   refine hs_take 5 21 (.int .i64 room) rfl rfl (by kernel_rfl) (fun _ _ _ h => h) (fun w hSw => by (obtain ⟨hS0, hS1, hS2⟩ := hSw); go_simp) hHeld ?_;try simp only [n0, n1, n2]
   refine hs_take 6 22 (.pointer (some ⟨p, 0, none⟩)) rfl rfl (by kernel_rfl) (fun _ _ _ h => h) (fun w hSw => by (obtain ⟨hS0, hS1, hS2⟩ := hSw); go_simp) hHeld ?_;try simp only [n0, n1, n2]
   refine wpAnyH_ready (rs := [7]) (by kernel_rfl) (by simp) ?_;refine AllReadyH.cons rfl (fun K hK => ?_) AllReadyH.nil;go_simp;go_at_call 29
   refine HSI.out.mono ?_;rintro e u2 ⟨rfl, hb2⟩;have HS2 := hid (show u2.cell? ⟨b2, 0, none⟩ = some (.slice BA bn bc) ∧ u2.cell? ⟨b0, 0, none⟩ = some (.pointer (some ⟨p, 0, none⟩)) ∧ u2.cell? ⟨p, 1, none⟩ = some (.int .i64 room) from ⟨(hb2.cell (p := ⟨b2, 0, none⟩) HL.out.1).trans HS1.out.1, (hb2.cell (p := ⟨b0, 0, none⟩) HL.out.2.1).trans HS1.out.2.1, (hb2.cell (p := ⟨p, 1, none⟩) HL.out.2.2).trans HS1.out.2.2⟩);have HB2 := hid (show Below w1.heap.size w1 u2 from (Below.drew (Below.refl w1.heap.size w1)).trans hb2);clear hb2 HSI;refine hK.out _ _ (by first | (with_reducible exact HS2.out) | (with_reducible exact HS1.out)) (fun hHeld => ?_);clear hK K;refine hs_take 8 24 (.int .i64 (room - (U : Int))) rfl rfl (by kernel_rfl) (fun _ _ _ h => h) (fun w hSw => by (obtain ⟨hS0, hS1, hS2⟩ := hSw); go_simp) hHeld ?_;try simp only [n0, n1, n2]
   refine hs_take 9 25 (.bool t) rfl rfl (by kernel_rfl) (fun _ _ _ h => h) (fun w hSw => by (obtain ⟨hS0, hS1, hS2⟩ := hSw); go_simp) hHeld ?_;try simp only [n0, n1, n2]
   refine hs_take 10 15 (.bool t) rfl rfl (by kernel_rfl) (fun _ _ _ h => h) (fun w hSw => by (obtain ⟨hS0, hS1, hS2⟩ := hSw); go_simp) hHeld ?_;try simp only [n0, n1, n2]
   refine wpAnyH_done (by kernel_rfl) ?_ _;skip;have HTN := hid (show (t = true → room < (U : Int) + bn) ∧ (t = false → ¬ room < (U : Int) + bn) from ⟨fun e => by have h := HT.out; rw [e] at h; have := of_decide_eq_true h; omega, fun e => by have h := HT.out; rw [e] at h; have := of_decide_eq_false h; omega⟩);clear ht hwr HT HL;have hown2 := HH1.out.below HB2.out
   have hb02 : Below w.heap.size w u2 := by
    have h1 := HB1.out;have h2 : Below w1.heap.size w1 u2 := HB2.out;exact h1.trans (h2.mono h1.size)
   have HB02 := hid hb02;have HOW2 := hid hown2;cases t with
   | true =>
     have e : doAppend s bs d = (7, d) := by
      unfold doAppend;rw [if_neg (by rw [HT0.out]; decide), if_pos (by rw [HUU.out, HBL.out, HRM.out]; exact HTN.out.1 rfl)]
     have HE := hid e;have HD := hid (show Does DI p S (7, d) w (.returned (.int .i64 ((7 : Nat) : Int))) u2 from Does.stay ⟨m, hs, hown2⟩ (Keeps.ofBelow hb02));clear e hown2 hb02 q0 q1;go_wp2_with fail
     go_ret;rw [HE.out];exact HD.out
   | false =>
   have hroom3 := HTN.out.2 rfl;have q0 := (HK0.out.bel hb02).cell 0;have q1 := (HK1.out.bel hb02).cell 0;simp only [List.getElem?_toArray, List.getElem?_cons_zero] at q0 q1;have c0 := hown2.cells.1;have hlp := look_place hs s;rw [HH.out.fs, HLK.out] at hlp;have HLP := hid hlp;have HR3 := hid hroom3;clear hlp hroom3;cases o with
   | some x =>
     obtain ⟨i, hres, hi, hnm⟩ : ∃ i, place d.fs s = some i ∧ hs[i]? = some x ∧ x.f.nm = s := by
      rcases HLP.out with ⟨h, _⟩ | ⟨i, y, h, h1, h2, h3⟩
      · cases h
      · injection h with h
        subst h;exact ⟨i, h1, h2, h3⟩
     have e : doAppend s bs d = (0, { d with fs := d.fs.set i ⟨x.f.nm, x.f.sure, x.f.tail ++ bs⟩ }) := by
      unfold doAppend;rw [if_neg (by rw [HT0.out]; decide), if_neg (by rw [HUU.out, HBL.out, HRM.out]; have := HR3.out; omega), hres];simp only;rw [modify_set _ (fs_at HH.out hi)]
     have HE := hid e;unfold pv;go_upto_region 11 with fail
     have HOW := hid hown2;have HI := hid hi;have HBB := hid (HK2.out.bel hb02);have HRD := hid (HR.out.below hb02);have HNS2 := hid HN2.out;have HU1 := hid (show Dsk.used d.fs ≤ 1099511627776 from by rw [HUU.out]; exact HUB.out);clear e hown2 q0 q1 c0 hres hi hnm;have hx4 := (HOW.out.file x (List.mem_of_getElem? HI.out))
     have hx4d : PfIn u2.drew x := hx4.keep fun _ _ => rfl;obtain ⟨xb, hxb⟩ : ∃ v, x.b = v := ⟨_, rfl⟩
     obtain ⟨n, hn⟩ : ∃ v, x.f.all.length = v := ⟨_, rfl⟩
     have hc4 := hx4d.cells.1;have hz4 := hx4d.box.soft 0;have hle4 := len_used (fs_at HOW.out HI.out);have hrw4 := hx4d.row;have hself4 := hx4d.self;have hxl4 := hx4d.box.lt;have hS4 := (HOW.out.out x (List.mem_of_getElem? HI.out) x.b (.inl rfl)).2.2;have hR4 : ∀ k, x.val.ownBlock = some k → S k := fun k hk => (HOW.out.out x (List.mem_of_getElem? HI.out) k (.inr hk)).2.2;have hal4 := x.f.len_all;have hfu2 := HU1.out;unfold Fl.len at hal4;rw [hn] at hal4;have HNN := hid (show n ≤ 1099511627776 ∧ bn ≤ 1099511627776 from ⟨by omega, HBN.out⟩);have HBX := hid (show b2 ≠ xb from fun e => HNS2.out (by rw [e, ← hxb]; exact hS4));have hvl4 : x.val = .slice x.A n x.c := (by unfold Pf.val; rw [hn]);rw [hvl4] at hR4 hself4 hrw4;have HB2R := hid (show (Value.slice x.A n x.c).ownBlock ≠ some b2 from fun e => HNS2.out (hR4 b2 e));have HIN := hid hx4d;have HXL := hid hn;rw [hn] at hrw4;rw [hxb] at hc4 hz4 hxl4;rw [hn] at hc4;have HC0 := hid hc4;have HZ0 := hid hz4;have HXBL := hid hxl4;have HRW := hid hrw4;have HSELF := hid (show (Value.slice x.A n x.c).ownBlock ≠ some xb from by rw [← hxb]; exact hself4);have HRB := hid (show Rd u2.drew BA bn bc (cs bs) from HRD.out.drew);have q4 := HBB.out.cell 0;simp only [List.getElem?_toArray, List.getElem?_cons_zero] at q4;have HS5 := hid (show u2.drew.cell? ⟨b2, 0, none⟩ = some (.slice BA bn bc) from q4);have HTD := hid (fun (g : Fl) (u : World) (ht : Turned x g u2.drew u) (hg : g.nm = x.f.nm) => turn_does HOW.out HI.out (show Turned x g u2 u from Turned.drewN (q := 1) ht) hg);rw [hxb];have HXBE := hid hxb;clear hx4 hx4d hc4 hz4 hle4 hrw4 hself4 hxl4 hS4 hR4 hal4 hfu2 q4 hvl4 hxb hn;refine wp_region_held_drew (S := (fun w' => w'.cell? ⟨b2, 0, none⟩ = some (.slice BA bn bc))) (by kernel_rfl) (by first | (with_reducible exact HS7.out) | (with_reducible exact HS6.out) | (with_reducible exact HS5.out)) (fun hHeld => ?_);refine hs_take 0 46 (.pointer (some ⟨xb, 0, none⟩)) rfl rfl (by kernel_rfl) (fun _ _ _ h => h) (fun w hS => by go_simp) hHeld ?_;try simp only [n0, n1, n2]
     refine hs_take 1 47 (.pointer (some ⟨xb, 0, none⟩)) rfl rfl (by kernel_rfl) (fun _ _ _ h => h) (fun w hS => by go_simp) hHeld ?_;try simp only [n0, n1, n2]
     refine hs_take 2 48 (.pointer (some ⟨xb, 0, none⟩)) rfl rfl (by kernel_rfl) (fun _ _ _ h => h) (fun w hS => by go_simp) hHeld ?_;try simp only [n0, n1, n2]
     refine hs_take 3 49 (.pointer (some ⟨xb, 0, none⟩)) rfl rfl (by kernel_rfl) (fun _ _ _ h => h) (fun w hS => by go_simp) hHeld ?_;try simp only [n0, n1, n2]
     refine hs_take 5 51 (.slice BA bn bc) rfl rfl (by kernel_rfl) (fun _ _ _ h => h) (fun w hS => by go_simp) hHeld ?_;try simp only [n0, n1, n2]
     refine wpAnyH_ready (rs := [4]) (by kernel_rfl) (by simp) ?_;refine AllReadyH.cons rfl (fun K hK => ?_) AllReadyH.nil;have c0 := HC0.out;go_simp;clear c0;refine hK.out _ _ (by first | (with_reducible exact HS7.out) | (with_reducible exact HS6.out) | (with_reducible exact HS5.out)) (fun hHeld => ?_);clear hK K;refine wpAnyH_ready (rs := [6]) (by kernel_rfl) (by simp) ?_;refine AllReadyH.cons rfl (fun K hK => ?_) AllReadyH.nil;refine step_append_at rfl (.tmp 50) (.tmp 51) rfl (by rfl) HRW.out (by rfl) HRB.out (cs_one _) (by have := HNN.out; unfold maxLen; omega) (by have := HNN.out; omega) ?_;intro V' c' u6 hown hgr hloc;have HS6 := hid (hgr.cell HS5.out (fun e => HB2R.out e.symm));have ht7 := grow_turned HIN.out HXL.out hown hgr hloc;rw [HXBE.out] at ht7;have HT := hid ht7;clear ht7;have hc6 := hgr.cell HC0.out (fun e => HSELF.out e.symm);have hz6 := (World.frozen?_of_block (a := ⟨xb, 0, none⟩) (hgr.block xb HXBL.out (fun e => HSELF.out e.symm))).trans HZ0.out;clear hown hgr hloc;show K (Act.put _ (some 52) _) _;try simp only [Act.put]
     refine hK.out _ _ (by first | (with_reducible exact HS7.out) | (with_reducible exact HS6.out) | (with_reducible exact HS5.out)) (fun hHeld => ?_);clear hK K;refine hs_take 7 53 (.pointer (some ⟨xb, 0, none⟩)) rfl rfl (by kernel_rfl) (fun _ _ _ h => h) (fun w hS => by go_simp) hHeld ?_;try simp only [List.setIfInBounds_toArray]
     refine hs_take 8 54 (.pointer (some ⟨xb, 0, none⟩)) rfl rfl (by kernel_rfl) (fun _ _ _ h => h) (fun w hS => by go_simp) hHeld ?_;try simp only [List.setIfInBounds_toArray]
     refine wpAnyH_ready (rs := [9]) (by kernel_rfl) (by simp) ?_;refine AllReadyH.cons rfl (fun K hK => ?_) AllReadyH.nil;go_simp;have hs7 := (Below.heap_setCell u6 ⟨xb, 0, none⟩ (.slice V' (n + bn) c') b2 HBX.out)
     have HS7 := hid ((World.cell?_of_block (a := ⟨b2, 0, none⟩) hs7).trans HS6.out);obtain ⟨u7, hu7⟩ : ∃ v, u6.setCell ⟨xb, 0, none⟩ (.slice V' (n + bn) c') = v := ⟨_, rfl⟩
     rw [hu7] at HS7 HT ⊢;clear hs7 hu7 hc6 hz6;refine hK.out _ _ (by first | (with_reducible exact HS7.out) | (with_reducible exact HS6.out) | (with_reducible exact HS5.out)) (fun hHeld => ?_);clear hK K;refine wpAnyH_done (by kernel_rfl) ?_ _;skip;go_wp2_with fail
     go_ret;rw [HE.out];exact (HTD.out _ _ HT.out rfl).step (Keeps.ofBelow HB02.out) (Grew.refl S w)
   | none =>
     have hres : place d.fs s = none := by
      rcases HLP.out with ⟨_, h⟩ | ⟨i, x, h, _⟩
      · exact h
      · cases h
     have hlen := hown2.map.len (t := 55) (e := 82) Tryz.underlying55 3;rw [size_ent] at hlen;have hl16 := HF.out.length;rw [← HH.out.length] at hl16;obtain ⟨L, hL⟩ : ∃ v, hs.length = v := ⟨_, rfl⟩
     rw [hL] at hlen hl16;have HLE := hid hL;clear hL;by_cases h16 : L = 16
     · have e : doAppend s bs d = (12, d) := by
        unfold doAppend;rw [if_neg (by rw [HT0.out]; decide), if_neg (by rw [HUU.out, HBL.out, HRM.out]; have := HR3.out; omega), hres];simp only;rw [if_pos (by rw [← HH.out.length, HLE.out]; omega)]
       have b3 : ((L : Int) == 16) = true := (by rw [h16]; rfl);have HE := hid e;have HD := hid (show Does DI p S (12, d) w (.returned (.int .i64 ((12 : Nat) : Int))) u2 from Does.stay ⟨m, hs, hown2⟩ (Keeps.ofBelow hb02));clear e hown2 hb02 q0 q1 h16 hres;unfold pv;go_wp2_with fail
       go_ret;rw [HE.out];exact HD.out
     have b3 : ((L : Int) == 16) = false := by
      cases e : ((L : Int) == 16)
      · rfl
      · simp at e; omega
     have HL15 := hid (show L < 16 by omega);unfold pv;go_upto_region 10 with fail
     obtain ⟨u3, hu3⟩ : ∃ v, u2.alloc (.cells #[.slice none 0 0, .int .i64 0] 84) = v := ⟨_, rfl⟩
     have hz3 : u3.heap.size = u2.heap.size + 1 := (by rw [← hu3]; simp);have hbk3 := Blk.new u2 84 #[.slice none 0 0, .int .i64 0];have hbe3 := bel_alloc (Below.refl u2.heap.size u2) (.cells #[.slice none 0 0, .int .i64 0] 84);rw [hu3] at hbk3 hbe3;obtain ⟨x, hx⟩ : ∃ v : Pf, v = ⟨⟨s, [], []⟩, u2.heap.size, none, 0⟩ := ⟨_, rfl⟩
     have hxb0 : u2.heap.size = x.b := (by rw [hx]);have hxn : x.f.nm = s := (by rw [hx]);have hxf : x.f = ⟨s, [], []⟩ := by rw [hx]
     have hxh : ∀ k, x.has k → k = u2.heap.size := by
      rintro k (hk | hk)
      · rw [hk, hx]
      · rw [hx] at hk
        cases hk
     have hin3 : PfIn u3 x := by
      rw [hx];exact ⟨hbk3, World.ownsRow_nil _ _ _ _, fun e => by cases e⟩
     have hown3 : Own u3 (Plus S u2 u3) p m d hs := (hown2.below hbe3).more (fun k hk => .inl hk) (plus_lt hown2.lt (by omega))
     have hnm3 : ∀ f ∈ d.fs, f.nm ≠ s := fun f hf e => by
      have := place_none hres f hf;rw [e, eqn_self] at this;cases this
     have hdrop : drop s d.fs = d.fs := by
      unfold drop;exact List.filter_eq_self.2 fun f hf => by rw [place_none hres f hf]; rfl
     have hput := dput_any p m (Plus S u2 u3) d hs x s u3 hown3 (by rw [HLE.out]; omega) (by have h := HT0.out; unfold isName at h; simp only [Bool.and_eq_true, decide_eq_true_eq] at h; omega) hxn hin3
      (fun k hk => by rw [hxh k hk]; have h1 := hown2.lt p hown2.sp; have h2 := hown2.lt m hown2.sm; exact ⟨by omega, by omega, .inr ⟨by omega, by omega⟩⟩)
      (fun y hy _ k hyk hk => by have h1 := (hown2.file y hy).lt hyk; have h2 := hxh k hk; omega)
     rw [hdrop, hxf, dropP_none (show look hs s = none from HLK.out)] at hput;have HPUT := hid hput;have HU3 := hid hu3;have HXF := hid hxf;have HRES := hid hres;have HNM := hid hnm3;have q03 := (hbe3.cell (p := ⟨b0, 0, none⟩) (HK0.out.bel hb02).lt).trans q0;have q13 := (hbe3.cell (p := ⟨b1, 0, none⟩) (HK1.out.bel hb02).lt).trans q1;have hB3 : Below w.heap.size w u3 := hb02.trans (hbe3.mono hb02.size);have HB3 := hid hB3;have HMS := hid hown2.sm;have HOLT := hid hown2.lt;have HZ3 := hid hz3;have HLM := hid (show Plus S u2 u3 m from .inl hown2.sm);have HBB3 := hid (HK2.out.bel hB3);have hzz := hb02.size;have HNP := hid (show ¬ Plus S u2 u3 b2 from fun h => h.elim HN2.out fun h => by have := HK2.out.lt; omega);have hb23 : b2 < u3.heap.size := HBB3.out.lt;have hbm : b2 ≠ m := fun e => HN2.out (by rw [e]; exact hown2.sm);have HB23 := hid hb23;have HBM := hid hbm;rw [hu3, hxb0];clear hput hu3 hxf hres hnm3 hdrop hown3 hin3 hxh hxn hx hbk3 hbe3 hz3 hown2 hb02 hB3 q0 q1 hlen c0 hl16 h16 hzz b3 hb23 hbm;go_upto_region 11 with (go_at_call 84; with_reducible refine HPUT.out.mono ?_; rintro e u4 ⟨rfl, ho4, hk4⟩)
     have HOW := hid ho4;obtain ⟨i, hi⟩ : ∃ i, (putP x hs)[i]? = some x := List.getElem?_of_mem (mem_putP.2 (.inl rfl));have HI := hid hi;have HBB := hid (show Blk u4 b2 71 #[.slice BA bn bc] from (hk4.block b2 HB23.out HBM.out).trans HBB3.out)
     have hkw : Keeps S w u4 := by
      have h3 := HB3.out;refine ⟨hk4.os.trans h3.os, hk4.tape.trans h3.tape, hk4.output.trans h3.output, Nat.le_trans h3.size hk4.size, fun k hk hS => ?_⟩;exact (hk4.block k (Nat.lt_of_lt_of_le hk h3.size) fun e => hS (by rw [e]; exact HMS.out)).trans (h3.block k hk)
     have hgw : Grew S (Plus S u2 u3) w := fun k hk => hk.imp id fun h => (by have := HB02.out.size; omega);have HKW := hid hkw;have HGW := hid hgw;have HRD := hid ((frame_rd BA bn bc (cs bs)).go ⟨HR.out, HOU.out⟩ hkw (Grew.refl S w)).1;have HNS2 := hid HNP.out;have HU1 := hid (show Dsk.used ({ d with fs := put ⟨s, [], []⟩ d.fs } : Dk).fs ≤ 1099511627776 from by show Dsk.used (put ⟨s, [], []⟩ d.fs) ≤ _; rw [used_put, HUU.out]; have := HUB.out; show 0 + U ≤ _; omega)
     have e : doAppend s bs d = (0, { d with fs := (put ⟨s, [], []⟩ d.fs).set i ⟨x.f.nm, x.f.sure, x.f.tail ++ bs⟩ }) := by
      unfold doAppend;rw [if_neg (by rw [HT0.out]; decide), if_neg (by rw [HUU.out, HBL.out, HRM.out]; have := HR3.out; omega), HRES.out];simp only;rw [if_neg (by rw [← HH.out.length, HLE.out]; have h := HL15.out; omega)];have hat := fs_at ho4 hi;rw [HXF.out] at hat ⊢;rw [put_set (f := ⟨s, [], []⟩) (g := ⟨s, [], [] ++ bs⟩) HNM.out rfl hat rfl];rfl
     have HE := hid e;clear ho4 hk4 hi hkw hgw e q03 q13;have hx4 := (HOW.out.file x (List.mem_of_getElem? HI.out))
     have hx4d : PfIn u4.drew x := hx4.keep fun _ _ => rfl;obtain ⟨xb, hxb⟩ : ∃ v, x.b = v := ⟨_, rfl⟩
     obtain ⟨n, hn⟩ : ∃ v, x.f.all.length = v := ⟨_, rfl⟩
     have hc4 := hx4d.cells.1;have hz4 := hx4d.box.soft 0;have hle4 := len_used (fs_at HOW.out HI.out);have hrw4 := hx4d.row;have hself4 := hx4d.self;have hxl4 := hx4d.box.lt;have hS4 := (HOW.out.out x (List.mem_of_getElem? HI.out) x.b (.inl rfl)).2.2;have hR4 : ∀ k, x.val.ownBlock = some k → Plus S u2 u3 k := fun k hk => (HOW.out.out x (List.mem_of_getElem? HI.out) k (.inr hk)).2.2;have hal4 := x.f.len_all;have hfu4 := HU1.out;unfold Fl.len at hal4;rw [hn] at hal4;have HNN := hid (show n ≤ 1099511627776 ∧ bn ≤ 1099511627776 from ⟨by omega, HBN.out⟩);have HBX := hid (show b2 ≠ xb from fun e => HNS2.out (by rw [e, ← hxb]; exact hS4));have hvl4 : x.val = .slice x.A n x.c := (by unfold Pf.val; rw [hn]);rw [hvl4] at hR4 hself4 hrw4;have HB2R := hid (show (Value.slice x.A n x.c).ownBlock ≠ some b2 from fun e => HNS2.out (hR4 b2 e));have HIN := hid hx4d;have HXL := hid hn;rw [hn] at hrw4;rw [hxb] at hc4 hz4 hxl4;rw [hn] at hc4;have HC0 := hid hc4;have HZ0 := hid hz4;have HXBL := hid hxl4;have HRW := hid hrw4;have HSELF := hid (show (Value.slice x.A n x.c).ownBlock ≠ some xb from by rw [← hxb]; exact hself4);have HRB := hid (show Rd u4.drew BA bn bc (cs bs) from HRD.out.drew);have q4 := HBB.out.cell 0;simp only [List.getElem?_toArray, List.getElem?_cons_zero] at q4;have HS5 := hid (show u4.drew.cell? ⟨b2, 0, none⟩ = some (.slice BA bn bc) from q4);have HTD := hid (fun (g : Fl) (u : World) (ht : Turned x g u4.drew u) (hg : g.nm = x.f.nm) => turn_does HOW.out HI.out (show Turned x g u4 u from Turned.drewN (q := 1) ht) hg);rw [hxb];have HXBE := hid hxb;clear hx4 hx4d hc4 hz4 hle4 hrw4 hself4 hxl4 hS4 hR4 hal4 hfu4 q4 hvl4 hxb hn;refine wp_region_held_drew (S := (fun w' => w'.cell? ⟨b2, 0, none⟩ = some (.slice BA bn bc))) (by kernel_rfl) (by first | (with_reducible exact HS7.out) | (with_reducible exact HS6.out) | (with_reducible exact HS5.out)) (fun hHeld => ?_);refine hs_take 0 46 (.pointer (some ⟨xb, 0, none⟩)) rfl rfl (by kernel_rfl) (fun _ _ _ h => h) (fun w hS => by go_simp) hHeld ?_;try simp only [n0, n1, n2]
     refine hs_take 1 47 (.pointer (some ⟨xb, 0, none⟩)) rfl rfl (by kernel_rfl) (fun _ _ _ h => h) (fun w hS => by go_simp) hHeld ?_;try simp only [n0, n1, n2]
     refine hs_take 2 48 (.pointer (some ⟨xb, 0, none⟩)) rfl rfl (by kernel_rfl) (fun _ _ _ h => h) (fun w hS => by go_simp) hHeld ?_;try simp only [n0, n1, n2]
     refine hs_take 3 49 (.pointer (some ⟨xb, 0, none⟩)) rfl rfl (by kernel_rfl) (fun _ _ _ h => h) (fun w hS => by go_simp) hHeld ?_;try simp only [n0, n1, n2]
     refine hs_take 5 51 (.slice BA bn bc) rfl rfl (by kernel_rfl) (fun _ _ _ h => h) (fun w hS => by go_simp) hHeld ?_;try simp only [n0, n1, n2]
     refine wpAnyH_ready (rs := [4]) (by kernel_rfl) (by simp) ?_;refine AllReadyH.cons rfl (fun K hK => ?_) AllReadyH.nil;have c0 := HC0.out;go_simp;clear c0;refine hK.out _ _ (by first | (with_reducible exact HS7.out) | (with_reducible exact HS6.out) | (with_reducible exact HS5.out)) (fun hHeld => ?_);clear hK K;refine wpAnyH_ready (rs := [6]) (by kernel_rfl) (by simp) ?_;refine AllReadyH.cons rfl (fun K hK => ?_) AllReadyH.nil;refine step_append_at rfl (.tmp 50) (.tmp 51) rfl (by rfl) HRW.out (by rfl) HRB.out (cs_one _) (by have := HNN.out; unfold maxLen; omega) (by have := HNN.out; omega) ?_;intro V' c' u6 hown hgr hloc;have HS6 := hid (hgr.cell HS5.out (fun e => HB2R.out e.symm));have ht7 := grow_turned HIN.out HXL.out hown hgr hloc;rw [HXBE.out] at ht7;have HT := hid ht7;clear ht7;have hc6 := hgr.cell HC0.out (fun e => HSELF.out e.symm);have hz6 := (World.frozen?_of_block (a := ⟨xb, 0, none⟩) (hgr.block xb HXBL.out (fun e => HSELF.out e.symm))).trans HZ0.out;clear hown hgr hloc;show K (Act.put _ (some 52) _) _;try simp only [Act.put]
     refine hK.out _ _ (by first | (with_reducible exact HS7.out) | (with_reducible exact HS6.out) | (with_reducible exact HS5.out)) (fun hHeld => ?_);clear hK K;refine hs_take 7 53 (.pointer (some ⟨xb, 0, none⟩)) rfl rfl (by kernel_rfl) (fun _ _ _ h => h) (fun w hS => by go_simp) hHeld ?_;try simp only [List.setIfInBounds_toArray]
     refine hs_take 8 54 (.pointer (some ⟨xb, 0, none⟩)) rfl rfl (by kernel_rfl) (fun _ _ _ h => h) (fun w hS => by go_simp) hHeld ?_;try simp only [List.setIfInBounds_toArray]
     refine wpAnyH_ready (rs := [9]) (by kernel_rfl) (by simp) ?_;refine AllReadyH.cons rfl (fun K hK => ?_) AllReadyH.nil;go_simp;have hs7 := (Below.heap_setCell u6 ⟨xb, 0, none⟩ (.slice V' (n + bn) c') b2 HBX.out)
     have HS7 := hid ((World.cell?_of_block (a := ⟨b2, 0, none⟩) hs7).trans HS6.out);obtain ⟨u7, hu7⟩ : ∃ v, u6.setCell ⟨xb, 0, none⟩ (.slice V' (n + bn) c') = v := ⟨_, rfl⟩
     rw [hu7] at HS7 HT ⊢;clear hs7 hu7 hc6 hz6;refine hK.out _ _ (by first | (with_reducible exact HS7.out) | (with_reducible exact HS6.out) | (with_reducible exact HS5.out)) (fun hHeld => ?_);clear hK K;refine wpAnyH_done (by kernel_rfl) ?_ _;skip;go_wp2_with fail
     go_ret;rw [HE.out];exact (HTD.out _ _ HT.out rfl).step HKW.out HGW.out
end Go.Proofs.YtkejjdoaljoooaaGreatDoor.Dsk
/- The program's Append, Remove, Move. -/
namespace Go.Proofs.YtkejjdoaljoooaaGreatDoor.Dsk
open Lib (hid)
open Go.RowKit Mem Go.Maps
set_option maxRecDepth 20000 in
set_option maxHeartbeats 4000000 in
theorem dappend_any (p : Nat) (S : Nat → Prop) (d : Dk) (s : ByteArray) (BA : Option Addr) (bn bc : Nat) (bs : List Nat) (w : World) (h : DI w S p d) (hf : Fine d) (hr : Rd w BA bn bc (cs bs)) (ho : Outs S bn BA) (hsz : s.size ≤ 9223372036854775807) (hbn : bn ≤ 1099511627776) :
 Calls Tryz.prog 45 #[ptr p, .string s, .slice BA bn bc] w (Does DI p S (whole (doAppend s bs) d) w) := by
 have hlt := di_lt h;have a0 := Blk.new w 25 #[.pointer (some ⟨p, 0, none⟩)];have hb1 := bel_alloc (Below.refl w.heap.size w) (.cells #[.pointer (some ⟨p, 0, none⟩)] 25);obtain ⟨w1, hw1⟩ : ∃ v, w.alloc (.cells #[.pointer (some ⟨p, 0, none⟩)] 25) = v := ⟨_, rfl⟩
 have z1 : w1.heap.size = w.heap.size + 1 := by rw [← hw1]; simp
 rw [hw1] at a0 hb1;have a1 := Blk.new w1 9 #[.string s];have hb2 := bel_alloc (Below.refl w1.heap.size w1) (.cells #[.string s] 9);obtain ⟨w2, hw2⟩ : ∃ v, w1.alloc (.cells #[.string s] 9) = v := ⟨_, rfl⟩
 have z2 : w2.heap.size = w1.heap.size + 1 := by rw [← hw2]; simp
 rw [hw2] at a1 hb2;have a2 := Blk.new w2 71 #[.slice BA bn bc];have hb3 := bel_alloc (Below.refl w2.heap.size w2) (.cells #[.slice BA bn bc] 71);obtain ⟨w3, hw3⟩ : ∃ v, w2.alloc (.cells #[.slice BA bn bc] 71) = v := ⟨_, rfl⟩
 have z3 : w3.heap.size = w2.heap.size + 1 := by rw [← hw3]; simp
 rw [hw3] at a2 hb3;have a0' := ((a0.bel hb2).bel hb3)
 have a1' := (a1.bel hb3)
 have a2' := a2;have hb : Below w.heap.size w w3 := ((hb1.trans (hb2.mono (by omega))).trans (hb3.mono (by omega)))
 have hcall := deed_append p S d (doAppend s bs) (.pointer (some ⟨w.heap.size, 0, none⟩)) (.pointer (some ⟨w1.heap.size, 0, none⟩)) (.pointer (some ⟨w2.heap.size, 0, none⟩)) w3 (di_below h hb) hf fun w4 hi hk => by
  obtain ⟨m, hs, ho4⟩ := hi;have hsp := ho4.sp;have nP : ∀ b, w.heap.size ≤ b → b ≠ p := fun b hb' e => by have := hlt p hsp; omega
  have nS : ∀ b, w.heap.size ≤ b → ¬ S b := fun b hb' hS => by have := hlt b hS; omega
  have hk2 : Keeps S w w4 := (Keeps.ofBelow hb).trans (Keeps.trans hk (Keeps.refl _ w4) (Grew.refl _ _)) (fun k hk' => .inl (by rw [show k = p from hk']; exact hsp));have hrd := (frame_rd BA bn bc (cs bs)).go ⟨hr, ho⟩ hk2 (Grew.refl S w);exact append1_any p m w.heap.size w1.heap.size w2.heap.size S (deed d) hs s BA bn bc bs w4 ho4 hf.deed hsz hbn ((hk.block _ (by omega) (nP _ (by omega))).trans a0') ((hk.block _ (by omega) (nP _ (by omega))).trans a1') ((hk.block _ (by omega) (nP _ (by omega))).trans a2') (nS _ (by omega)) (nS _ (by omega)) (nS _ (by omega)) hrd.1 hrd.2
 rw [z2, z1] at hcall;have HC := hid hcall;have HB := hid hb;have HW1 := hid hw1;have HW2 := hid hw2;have HW3 := hid hw3;have q0 := a0'.cell 0;have q1 := a1'.cell 0;have q2 := a2'.cell 0;simp only [List.getElem?_toArray, List.getElem?_cons_zero] at q0 q1 q2;rw [z1] at q1;rw [z2, z1] at q2;clear hcall hb h hlt a0 a0' hb1 hw1 z1 a1 a1' hb2 hw2 z2 a2 a2' hb3 hw3 z3;unfold ptr;go_enter Tryz.func45, Tryz.ntmps45
 go_upto_region 1 with fail
 rw [HW1.out, HW2.out, HW3.out];go_wp2_with fail
 with_reducible refine HC.out.mono ?_
 rintro e u hd;obtain ⟨rfl, hst⟩ := hd.from (Keeps.ofBelow (S := S) HB.out) (fun k hk => hk)
 have HST := hid hst;clear hst hd HC;go_wp2_with fail
 go_ret;exact ⟨rfl, HST.out⟩
set_option maxRecDepth 20000 in
set_option maxHeartbeats 4000000 in
theorem dremove_any (p : Nat) (S : Nat → Prop) (d : Dk) (s : ByteArray) (w : World) (h : DI w S p d) (hf : Fine d) (hsz : s.size ≤ 9223372036854775807) :
 Calls Tryz.prog 165 #[ptr p, .string s] w (Does DI p S (whole (doRemove s) d) w) := by
 have hlt := di_lt h;have a0 := Blk.new w 25 #[.pointer (some ⟨p, 0, none⟩)];have hb1 := bel_alloc (Below.refl w.heap.size w) (.cells #[.pointer (some ⟨p, 0, none⟩)] 25);obtain ⟨w1, hw1⟩ : ∃ v, w.alloc (.cells #[.pointer (some ⟨p, 0, none⟩)] 25) = v := ⟨_, rfl⟩
 have z1 : w1.heap.size = w.heap.size + 1 := by rw [← hw1]; simp
 rw [hw1] at a0 hb1;have a1 := Blk.new w1 9 #[.string s];have hb2 := bel_alloc (Below.refl w1.heap.size w1) (.cells #[.string s] 9);obtain ⟨w2, hw2⟩ : ∃ v, w1.alloc (.cells #[.string s] 9) = v := ⟨_, rfl⟩
 have z2 : w2.heap.size = w1.heap.size + 1 := by rw [← hw2]; simp
 rw [hw2] at a1 hb2;have a0' := (a0.bel hb2)
 have a1' := a1;have hb : Below w.heap.size w w2 := (hb1.trans (hb2.mono (by omega)))
 have hcall := on_remove p S d (doRemove s) s (.pointer (some ⟨w.heap.size, 0, none⟩)) (.pointer (some ⟨w1.heap.size, 0, none⟩)) w2 (di_below h hb) hf hsz (fun d hn => by unfold doRemove; rw [hn]) fun m hs i x w4 ho4 hx hnm hp hkp hz4 => by
  have nS : ∀ b, w.heap.size ≤ b → ¬ S b := fun b hb' hS => by have := hlt b hS; omega
  exact remove1_any p m i w.heap.size w1.heap.size S (deed d) hs x s w4 ho4 hsz hp ((hkp _ (by omega) (nS _ (by omega))).trans a0') ((hkp _ (by omega) (nS _ (by omega))).trans a1') (nS _ (by omega)) (nS _ (by omega))
 rw [z1] at hcall;have HC := hid hcall;have HB := hid hb;have HW1 := hid hw1;have HW2 := hid hw2;have q0 := a0'.cell 0;have q1 := a1'.cell 0;simp only [List.getElem?_toArray, List.getElem?_cons_zero] at q0 q1;rw [z1] at q1;clear hcall hb h hlt a0 a0' hb1 hw1 z1 a1 a1' hb2 hw2 z2;unfold ptr;go_enter Tryz.func165, Tryz.ntmps165
 go_upto_region 1 with fail
 rw [HW1.out, HW2.out];go_wp2_with fail
 with_reducible refine HC.out.mono ?_
 rintro e u hd;obtain ⟨rfl, hst⟩ := hd.from (Keeps.ofBelow (S := S) HB.out) (fun k hk => hk)
 have HST := hid hst;clear hst hd HC;go_wp2_with fail
 go_ret;exact ⟨rfl, HST.out⟩
set_option maxRecDepth 20000 in
set_option maxHeartbeats 4000000 in
theorem dmove_any (p : Nat) (S : Nat → Prop) (d : Dk) (s t : ByteArray) (w : World) (h : DI w S p d) (hf : Fine d) (hsz : s.size ≤ 9223372036854775807) (htz : t.size ≤ 9223372036854775807) :
 Calls Tryz.prog 166 #[ptr p, .string s, .string t] w (Does DI p S (whole (doMove s t) d) w) := by
 have hlt := di_lt h;have a0 := Blk.new w 25 #[.pointer (some ⟨p, 0, none⟩)];have hb1 := bel_alloc (Below.refl w.heap.size w) (.cells #[.pointer (some ⟨p, 0, none⟩)] 25);obtain ⟨w1, hw1⟩ : ∃ v, w.alloc (.cells #[.pointer (some ⟨p, 0, none⟩)] 25) = v := ⟨_, rfl⟩
 have z1 : w1.heap.size = w.heap.size + 1 := by rw [← hw1]; simp
 rw [hw1] at a0 hb1;have a1 := Blk.new w1 9 #[.string s];have hb2 := bel_alloc (Below.refl w1.heap.size w1) (.cells #[.string s] 9);obtain ⟨w2, hw2⟩ : ∃ v, w1.alloc (.cells #[.string s] 9) = v := ⟨_, rfl⟩
 have z2 : w2.heap.size = w1.heap.size + 1 := by rw [← hw2]; simp
 rw [hw2] at a1 hb2;have a2 := Blk.new w2 9 #[.string t];have hb3 := bel_alloc (Below.refl w2.heap.size w2) (.cells #[.string t] 9);obtain ⟨w3, hw3⟩ : ∃ v, w2.alloc (.cells #[.string t] 9) = v := ⟨_, rfl⟩
 have z3 : w3.heap.size = w2.heap.size + 1 := by rw [← hw3]; simp
 rw [hw3] at a2 hb3;have a0' := ((a0.bel hb2).bel hb3)
 have a1' := (a1.bel hb3)
 have a2' := a2;have hb : Below w.heap.size w w3 := ((hb1.trans (hb2.mono (by omega))).trans (hb3.mono (by omega)))
 have hcall := on_move p S d (doMove s t) s (.pointer (some ⟨w2.heap.size, 0, none⟩)) (.pointer (some ⟨w.heap.size, 0, none⟩)) (.pointer (some ⟨w1.heap.size, 0, none⟩)) w3 (di_below h hb) hf hsz (fun d hn => by unfold doMove; rw [hn]) fun m hs i x w4 ho4 hx hnm hp hkp hz4 => by
  have nS : ∀ b, w.heap.size ≤ b → ¬ S b := fun b hb' hS => by have := hlt b hS; omega
  exact move1_any p m i w2.heap.size w.heap.size w1.heap.size S (deed d) hs x s t w4 ho4 (by rw [ho4.length]; exact hf.deed.length) hsz htz hx hnm hp ((hkp _ (by omega) (nS _ (by omega))).trans a2') ((hkp _ (by omega) (nS _ (by omega))).trans a0') ((hkp _ (by omega) (nS _ (by omega))).trans a1') (nS _ (by omega)) (nS _ (by omega)) (nS _ (by omega))
 rw [z2, z1] at hcall;have HC := hid hcall;have HB := hid hb;have HW1 := hid hw1;have HW2 := hid hw2;have HW3 := hid hw3;have q0 := a0'.cell 0;have q1 := a1'.cell 0;have q2 := a2'.cell 0;simp only [List.getElem?_toArray, List.getElem?_cons_zero] at q0 q1 q2;rw [z1] at q1;rw [z2, z1] at q2;clear hcall hb h hlt a0 a0' hb1 hw1 z1 a1 a1' hb2 hw2 z2 a2 a2' hb3 hw3 z3;unfold ptr;go_enter Tryz.func166, Tryz.ntmps166
 go_upto_region 1 with fail
 rw [HW1.out, HW2.out, HW3.out];go_wp2_with fail
 with_reducible refine HC.out.mono ?_
 rintro e u hd;obtain ⟨rfl, hst⟩ := hd.from (Keeps.ofBelow (S := S) HB.out) (fun k hk => hk)
 have HST := hid hst;clear hst hd HC;go_wp2_with fail
 go_ret;exact ⟨rfl, HST.out⟩
end Go.Proofs.YtkejjdoaljoooaaGreatDoor.Dsk
/- The program's New, Read, Used, Names, Fuse, Down. -/
namespace Go.Proofs.YtkejjdoaljoooaaGreatDoor.Dsk
open Lib (hid)
open Go.RowKit Mem Go.Maps
set_option maxRecDepth 20000 in
set_option maxHeartbeats 4000000 in
theorem dnew_any (room : Int) (w : World) : Calls Tryz.prog 7 #[.int .i64 room] w (fun e w' => ∃ p S, e = .returned (ptr p) ∧ DI w' S p (newDk room) ∧ (∀ k, S k → w.heap.size ≤ k) ∧ Below w.heap.size w w') := by
 obtain ⟨M, hM⟩ : ∃ M : Int, max room 0 = M := ⟨_, rfl⟩
 have hn : newDk room = ⟨[], M, -1, false⟩ := by unfold newDk; rw [hM]
 rw [hn];have hmx : ∀ (W : World) (ts : Array TypeId) (ty : TypeId), (Builtin.max_ ts ty #[.int .i64 room, .int .i64 0]).run Tryz.prog W = .ok (.int .i64 M) W := fun W ts ty => by rw [Lib.run_max_ints, hM]
 have hmm := @run_makeMap Tryz.prog;have h1 := World.ownsMap_made (H := Unit) w Tryz.prog 9 ptrElem;have hb1 := bel_alloc (Below.refl w.heap.size w) (.map #[] 0);obtain ⟨w1, hw1⟩ : ∃ v, w.alloc (.map #[] 0) = v := ⟨_, rfl⟩
 have hz1 : w1.heap.size = w.heap.size + 1 := by rw [← hw1]; simp
 rw [hw1] at h1 hb1;have h2 := Blk.new w1 57 #[.map (some w.heap.size), .int .i64 M, .int .i64 (-1), .bool false];have hb2 := bel_alloc (Below.refl w1.heap.size w1) (.cells #[.map (some w.heap.size), .int .i64 M, .int .i64 (-1), .bool false] 57);obtain ⟨w2, hw2⟩ : ∃ v, w1.alloc (.cells #[.map (some w.heap.size), .int .i64 M, .int .i64 (-1), .bool false] 57) = v := ⟨_, rfl⟩
 have hz2 : w2.heap.size = w1.heap.size + 1 := by rw [← hw2]; simp
 rw [hw2] at h2 hb2;have hmap : w2.ownsMap Tryz.prog 9 ptrElem w.heap.size 0 (.map (ent [])) := map_keep h1 (hb2.block _ (by omega))
 have hown : Own w2 (fun k => w.heap.size ≤ k ∧ k < w2.heap.size) w1.heap.size w.heap.size ⟨[], M, -1, false⟩ [] :=
  { box := h2, map := hmap, fs := rfl, up := List.Pairwise.nil, file := fun h hh => (by cases hh), off := fun h hh => (by cases hh), out := fun h hh => (by cases hh), pm := (by omega), sp := ⟨by omega, by omega⟩, sm := ⟨by omega, by omega⟩, lt := fun k hk => hk.2 }
 have hbe : Below w.heap.size w w2 := hb1.trans (hb2.mono (by omega));have HO := hid hown;have HB := hid hbe;have HW1 := hid hw1;have HW2 := hid hw2;have HZ1 := hid hz1;clear hn hM h1 hb1 hw1 hz1 h2 hb2 hw2 hz2 hmap hown hbe;go_enter Tryz.func7, Tryz.ntmps7
 go_wp2_with fail
 go_ret;rw [HW1.out, HW2.out];refine ⟨w1.heap.size, fun k => w.heap.size ≤ k ∧ k < w2.heap.size, ?_, ⟨w.heap.size, [], HO.out⟩, fun k hk => hk.1, HB.out⟩;rw [HZ1.out];rfl
set_option maxRecDepth 20000 in
set_option maxHeartbeats 4000000 in
theorem dread_any (p : Nat) (S : Nat → Prop) (d : Dk) (s : ByteArray) (w : World) (h : DI w S p d) (hf : Fine d) (hsz : s.size ≤ 9223372036854775807) :
 Calls Tryz.prog 39 #[ptr p, .string s] w (fun e w' => ∃ A n c, e = .returned (.tuple #[.slice A n c, .int .i64 ((Dsk.read s d).2 : Int)]) ∧
 w'.ownsRow w.heap.size 5 1 (.slice A n c) n (cs (Dsk.read s d).1) ∧ ∃ S', DI w' S' p d ∧ Grew S S' w ∧ Keeps S w w' ∧ Outs S' n A) := by
 obtain ⟨m, hs, ho⟩ := h;obtain ⟨c0, c1, c2, c3⟩ := ho.cells;have hfind := ho.find (s := s) (by unfold maxLen; omega);have hlp := look_place hs s;rw [ho.fs] at hlp;obtain ⟨o, hlook⟩ : ∃ o, look hs s = o := ⟨_, rfl⟩
 rw [hlook] at hlp hfind;obtain ⟨dn, hdn⟩ : ∃ v, d.dn = v := ⟨_, rfl⟩
 rw [hdn] at c3;have HO := hid ho;have HF := hid hf;have HLP := hid hlp;have HDN := hid hdn
 have HNO := hid (show ∀ (r : Int), ∃ A n c, (Value.tuple #[.slice none 0 0, .int .i64 r] = .tuple #[.slice A n c, .int .i64 r]) ∧ w.ownsRow w.heap.size 5 1 (.slice A n c) n (cs []) ∧ ∃ S', DI w S' p d ∧ Grew S S' w ∧ Keeps S w w ∧ Outs S' n A from
  fun r => ⟨none, 0, 0, rfl, World.ownsRow_nil _ _ _ _, S, ⟨m, hs, ho⟩, Grew.refl S w, Keeps.refl S w, fun h => absurd h (by omega)⟩)
 clear ho hf hlp hlook hdn c1 c2;unfold ptr;go_enter Tryz.func39, Tryz.ntmps39
 cases dn with
 | true =>
   have e : Dsk.read s d = ([], 15) := by
    unfold Dsk.read;rw [if_pos HDN.out]
   have HE := hid e;clear e hfind c0;go_wp2_with fail
   refine bodyPost_ret (v := .tuple #[.slice none 0 0, .int .i64 15]) (by simp [results, Tryz.results39, go_sem]) rfl ?_;rw [HE.out];obtain ⟨A, n, c, h1, h2⟩ := HNO.out 15;exact ⟨A, n, c, congrArg Ending.returned h1, h2⟩
 | false =>
   cases o with
   | none =>
     have e : Dsk.read s d = ([], 8) := by
      have hres : place d.fs s = none := by
       rcases HLP.out with ⟨_, h⟩ | ⟨i, x, h, _⟩
       · exact h
       · cases h
      unfold Dsk.read;rw [if_neg (by rw [HDN.out]; decide), hres]
     have HE := hid e;unfold pv at hfind;clear e;go_wp2_with fail
     refine bodyPost_ret (v := .tuple #[.slice none 0 0, .int .i64 8]) (by simp [results, Tryz.results39, go_sem]) rfl ?_;rw [HE.out];obtain ⟨A, n, c, h1, h2⟩ := HNO.out 8;exact ⟨A, n, c, congrArg Ending.returned h1, h2⟩
   | some x =>
     obtain ⟨i, hres, hi, hnm⟩ : ∃ i, place d.fs s = some i ∧ hs[i]? = some x ∧ x.f.nm = s := by
      rcases HLP.out with ⟨h, _⟩ | ⟨i, y, h, h1, h2, h3⟩
      · cases h
      · injection h with h
        subst h;exact ⟨i, h1, h2, h3⟩
     have hga : d.fs.getD i ⟨s, [], []⟩ = x.f := by rw [List.getD_eq_getElem?_getD, fs_at HO.out hi]; rfl
     have e : Dsk.read s d = (x.f.all, 0) := by
      unfold Dsk.read;rw [if_neg (by rw [HDN.out]; decide), hres];simp only;rw [hga]
     have hin := HO.out.file x (List.mem_of_getElem? hi);have hle := len_used (fs_at HO.out hi);have hu := HF.out.used;have hal : x.f.all.length = x.f.sure.length + x.f.tail.length := x.f.len_all;have hcl := bclone_any x.A x.f.all.length x.c x.f.all w (Rd.own hin.row) (by omega);obtain ⟨k0, k1⟩ := hin.cells;obtain ⟨n, hn⟩ : ∃ n, x.f.all.length = n := ⟨_, rfl⟩
     rw [hn] at k0 hcl;unfold pv at hfind;have HE := hid e;have HC := hid hcl;clear e hcl hn hal hu hle hin hga hres hi hnm k1;go_wp2_with fail
     refine HC.out.mono ?_;rintro e u ⟨A', c', rfl, hown, hb⟩;have HOW := hid hown;have HB := hid hb;clear hown hb HC;go_wp2_with fail
     refine bodyPost_ret (v := .tuple #[.slice A' n c', .int .i64 0]) (by simp [results, Tryz.results39, go_sem]) rfl ?_;rw [HE.out];refine ⟨A', n, c', rfl, HOW.out, S, di_below ⟨m, hs, HO.out⟩ HB.out, Grew.refl S w, Keeps.ofBelow HB.out, fun h0 ad e hS => ?_⟩;subst e;have h1 := (HOW.out.lt ad.block rfl).1;have h2 := HO.out.lt _ hS;omega
set_option maxRecDepth 20000 in
set_option maxHeartbeats 4000000 in
theorem dused_any (p : Nat) (S : Nat → Prop) (d : Dk) (w : World) (h : DI w S p d) (hf : Fine d) :
 Calls Tryz.prog 15 #[ptr p] w (fun e w' => e = .returned (.int .i64 (if d.dn = true then 0 else ((Dsk.used d.fs : Nat) : Int))) ∧ Stays DI p S d w w') := by
 have hi := h;obtain ⟨m, hs, ho⟩ := h;obtain ⟨c0, c1, c2, c3⟩ := ho.cells;have hu := hf.used;have HC := hid (size_any p m S d hs w ho (by omega));obtain ⟨U, hU⟩ : ∃ v, Dsk.used d.fs = v := ⟨_, rfl⟩
 obtain ⟨dn, hdn⟩ : ∃ v, d.dn = v := ⟨_, rfl⟩
 rw [hdn] at c3 ⊢;rw [hU] at HC ⊢;have HI := hid hi;clear ho hu hU hdn c0 c1 c2 hi hf;unfold ptr at HC ⊢;go_enter Tryz.func15, Tryz.ntmps15
 cases dn with
 | true =>
   go_wp2_with fail
   go_ret;exact ⟨rfl, S, HI.out, Grew.refl S w, Keeps.refl S w⟩
 | false =>
   go_wp2_with fail
   refine HC.out.mono ?_;rintro e u ⟨rfl, hb⟩;have HB := hid hb;clear hb HC;go_wp2_with fail
   go_ret;exact ⟨rfl, S, di_below HI.out HB.out, Grew.refl S w, Keeps.ofBelow HB.out⟩
set_option maxRecDepth 20000 in
set_option maxHeartbeats 4000000 in
theorem dfuse_any (p : Nat) (S : Nat → Prop) (d : Dk) (n : Int) (w : World) (h : DI w S p d) :
 Calls Tryz.prog 9 #[ptr p, .int .i64 n] w (fun e w' => e = .returned (.tuple #[]) ∧ Stays DI p S { d with fuse := max n (-1) } w w') := by
 obtain ⟨M, hM⟩ : ∃ M : Int, max n (-1) = M := ⟨_, rfl⟩
 rw [hM];have hmx : ∀ (W : World) (ts : Array TypeId) (ty : TypeId), (Builtin.max_ ts ty #[.int .i64 n, .int .i64 (-1)]).run Tryz.prog W = .ok (.int .i64 M) W := fun W ts ty => by rw [Lib.run_max_ints, hM]
 obtain ⟨m, hs, ho⟩ := h;obtain ⟨c0, c1, c2, c3⟩ := ho.cells;have f2 := ho.box.soft 2;have hb := ho.setp (d' := { d with fuse := M }) (set_grown w p 2 (.int .i64 M)) (ho.box.put 2 (.int .i64 M)) rfl;have HD := hid (show Stays DI p S { d with fuse := M } w (w.setCell ⟨p, 2, none⟩ (.int .i64 M)) from ⟨S, ⟨m, hs, hb⟩, Grew.refl S w, Keeps.ofGrown (set_grown w p 2 (.int .i64 M)) ho.sp⟩);clear hM ho hb c0 c1 c3;unfold ptr;go_enter Tryz.func9, Tryz.ntmps9
 go_wp2_with fail
 go_end0
 exact ⟨rfl, HD.out⟩
set_option maxRecDepth 20000 in
set_option maxHeartbeats 4000000 in
theorem ddown_any (p : Nat) (S : Nat → Prop) (d : Dk) (w : World) (h : DI w S p d) : Calls Tryz.prog 10 #[ptr p] w (fun e w' => e = .returned (.bool d.dn) ∧ Stays DI p S d w w') := by
 have hi := h;obtain ⟨m, hs, ho⟩ := h;obtain ⟨c0, c1, c2, c3⟩ := ho.cells;have HI := hid hi;clear ho hi c0 c1 c2;unfold ptr;go_enter Tryz.func10, Tryz.ntmps10
 go_wp2_with fail
 go_ret;exact ⟨rfl, S, HI.out, Grew.refl S w, Keeps.refl S w⟩
end Go.Proofs.YtkejjdoaljoooaaGreatDoor.Dsk
/- The program's Boot: the power fails, and comes back. -/
namespace Go.Proofs.YtkejjdoaljoooaaGreatDoor.Dsk
open Lib (hid)
open Go.RowKit Mem Go.Maps
theorem look_self {hs : List Pf} (hr : Rising (hs.map (·.f))) {x : Pf} (hx : x ∈ hs) : look hs x.f.nm = some x := by
 cases hl : look hs x.f.nm with
 | none =>
   unfold look at hl;rw [List.find?_eq_none] at hl;exact absurd (eqn_self _) (hl x hx)
 | some z =>
   have hn : z.f.nm = x.f.nm := eqn_same (List.find?_some (p := fun h : Pf => eqn h.f.nm x.f.nm) hl);rw [rising_one hr (List.mem_of_find?_eq_some hl) hx hn]
def StartRel (d : Dk) (ks : List Int) (p m : Nat) (S : Nat → Prop) (w0 : World) (NA : Option Addr) (n c : Nat) (kv i : Value) (wr : World) : Prop :=
 ∃ (k : Nat) (done : List Fl) (ks' : List Int) (S' : Nat → Prop) (hs : List Pf) (KA : Option Addr) (kc : Nat), k ≤ n ∧ i = .int .i64 (k : Int) ∧ kv = .slice KA ks'.length kc ∧ done.length = k ∧ done ++ bootFs (d.fs.drop k) ks' = bootFs d.fs ks ∧
  Own wr S' p m { d with fs := done ++ d.fs.drop k } hs ∧ Grew S S' w0 ∧ Keeps S w0 wr ∧ FRd NA n c (d.fs.map fun f => .string f.nm) wr S' ∧ FRd KA ks'.length kc (vs ks') wr S' ∧ used (done ++ d.fs.drop k) ≤ 1099511627776
theorem cutA_block {A : Option Addr} {c k : Nat} {ad : Addr} (h : cutA A c k = some ad) : ∃ a, A = some a ∧ a.block = ad.block := by
 unfold cutA at h;split at h
 · exact ⟨ad, h, rfl⟩
 · cases A with
   | none => cases h
   | some a =>
     injection h with h;exact ⟨a, rfl, by rw [← h, add_block]⟩
theorem frd_cut {A : Option Addr} {n c : Nat} {z : Int} {ks : List Int} {w : World} {S : Nat → Prop} (h : FRd A (n + 1) c (vs (z :: ks)) w S) : FRd (cutA A c 1) n (c - 1) (vs ks) w S := by
 refine ⟨?_, fun h0 ad e hs => ?_⟩
 · have := h.1.cut (k := 1) (by omega)
   exact this
 · obtain ⟨a, ha, hb⟩ := cutA_block e
   exact h.2 (by omega) a ha (by rw [hb]; exact hs)
theorem boot_keep {f : Fl} {r : List Fl} {ks : List Int} (h : f.tail = []) : bootFs (f :: r) ks = f :: bootFs r ks := by
 obtain ⟨nm, sure, tail⟩ := f;have h : tail = [] := h;subst h;rw [bootFs.eq_def];exact if_pos rfl
theorem boot_all {f : Fl} {r : List Fl} (h : f.tail ≠ []) : bootFs (f :: r) [] = ⟨f.nm, f.all.take (f.sure.length + f.tail.length), []⟩ :: bootFs r [] := by
 have e : f.all.take (f.sure.length + f.tail.length) = f.all := List.take_of_length_le (by rw [f.len_all]; exact Nat.le_refl _);rw [e, bootFs, if_neg h]
theorem boot_some {f : Fl} {r : List Fl} {z : Int} {ks : List Int} (h : f.tail ≠ []) : bootFs (f :: r) (z :: ks) = ⟨f.nm, f.all.take (f.sure.length + (min (max z 0) (f.tail.length : Int)).toNat), []⟩ :: bootFs r ks := by
 have e : (max 0 (min z (f.tail.length : Int))).toNat = (min (max z 0) (f.tail.length : Int)).toNat := by omega
 have e2 : f.all.take (f.sure.length + (min (max z 0) (f.tail.length : Int)).toNat) = f.sure ++ f.tail.take (min (max z 0) (f.tail.length : Int)).toNat := by
  unfold Fl.all;rw [List.take_length_add_append]
 rw [e2, bootFs, if_neg h, e]
theorem start_step {d : Dk} {ks ks1 ks2 : List Int} {done : List Fl} {k : Nat} {f g : Fl} {r : List Fl} (hd : done.length = k) (hr : d.fs.drop k = f :: r) (hb : done ++ bootFs (d.fs.drop k) ks1 = bootFs d.fs ks) (hg : bootFs (f :: r) ks1 = g :: bootFs r ks2) :
 (done ++ d.fs.drop k).set k g = (done ++ [g]) ++ d.fs.drop (k + 1) ∧ (done ++ [g]) ++ bootFs (d.fs.drop (k + 1)) ks2 = bootFs d.fs ks ∧ (done ++ d.fs.drop k)[k]? = some f := by
 have h1 : d.fs.drop (k + 1) = r := by
  have : (d.fs.drop k).drop 1 = d.fs.drop (k + 1) := by rw [List.drop_drop]
  rw [← this, hr];rfl
 subst hd;rw [h1, hr] at *;refine ⟨by simp, ?_, by simp⟩;rw [hg] at hb;rw [← hb, List.append_assoc];rfl
theorem cut_len (f : Fl) (j : Nat) : (⟨f.nm, f.all.take j, []⟩ : Fl).len ≤ f.len := by
 show (f.all.take j).length + 0 ≤ _;rw [List.length_take, ← f.len_all];omega
theorem Own.name_le {w : World} {S : Nat → Prop} {p m : Nat} {d : Dk} {hs : List Pf} (h : Own w S p m d hs) {x : Pf} (hx : x ∈ hs) : x.f.nm.size ≤ maxLen := by
 have h1 := strKeys_le h.map Tryz.underlying9 x.f.nm.data.toList (by
  show _ ∈ (ent hs).map fun p => strOf p.1;unfold ent;rw [List.map_map];exact List.mem_map.2 ⟨x, hx, rfl⟩)
 rwa [Array.length_toList] at h1
theorem start_next {d : Dk} {ks ks1 ks2 : List Int} {done : List Fl} {k n c p m kc2 : Nat} {x : Pf} {g : Fl} {r : List Fl} {S S1 : Nat → Prop} {w wr u : World} {hs1 : List Pf} {NA KA2 : Option Addr} (hk : k < n) (hdl : done.length = k) (hr : d.fs.drop k = x.f :: r)
 (hd : done ++ bootFs (d.fs.drop k) ks1 = bootFs d.fs ks) (hg : bootFs (x.f :: r) ks1 = g :: bootFs r ks2) (hgn : g.nm = x.f.nm) (hgl : g.len ≤ x.f.len) (how : Own wr S1 p m { d with fs := done ++ d.fs.drop k } hs1) (hx : hs1[k]? = some x) (hgrew : Grew S S1 w) (hkeeps : Keeps S w wr)
 (hnames : FRd NA n c (d.fs.map fun f => .string f.nm) wr S1) (hkeys : FRd KA2 ks2.length kc2 (vs ks2) wr S1) (hused : used (done ++ d.fs.drop k) ≤ 1099511627776) (ht : Turned x g wr u) :
 StartRel d ks p m S w NA n c (.slice KA2 ks2.length kc2) (.int .i64 ((k + 1 : Nat) : Int)) u := by
 obtain ⟨e1, e2, e3⟩ := start_step hdl hr hd hg;obtain ⟨x', hxg, hb, hin, hrow, hkx⟩ := ht;have hmx : x ∈ hs1 := List.mem_of_getElem? hx;have hkS : Keeps S1 wr u := ⟨hkx.os, hkx.tape, hkx.output, hkx.size, fun j hj hS => hkx.block j hj fun hh => hS (how.out x hmx j hh).2.2⟩
 have hset := how.setf (x' := x') hx hkx hb (by rw [hxg]; exact hgn) hin hrow rfl;have hgp : Grew S1 (Plus S1 wr u) wr := plus_grew;have hu := used_modify (g := fun _ => g) e3;rw [modify_set _ e3, e1] at hu;refine ⟨k + 1, done ++ [g], ks2, Plus S1 wr u, hs1.set k x', KA2, kc2, by omega, rfl, rfl, by simp [hdl], e2, ?_, hgrew.trans hgp hkeeps.size, hkeeps.trans hkS hgrew, (frame_rd _ _ _ _).go hnames hkS hgp, (frame_rd _ _ _ _).go hkeys hkS hgp, by omega⟩;rw [hxg] at hset;simp only [e1] at hset;exact hset
theorem start_same {d : Dk} {ks ks1 : List Int} {done : List Fl} {k n c p m kc1 : Nat} {f : Fl} {r : List Fl} {S S1 : Nat → Prop} {w wr : World} {hs1 : List Pf} {NA KA1 : Option Addr} (hk : k < n) (hdl : done.length = k) (hr : d.fs.drop k = f :: r)
 (hd : done ++ bootFs (d.fs.drop k) ks1 = bootFs d.fs ks) (ht : f.tail = []) (how : Own wr S1 p m { d with fs := done ++ d.fs.drop k } hs1) (hgrew : Grew S S1 w) (hkeeps : Keeps S w wr)
 (hnames : FRd NA n c (d.fs.map fun f => .string f.nm) wr S1) (hkeys : FRd KA1 ks1.length kc1 (vs ks1) wr S1) (hused : used (done ++ d.fs.drop k) ≤ 1099511627776) (q : Nat) :
 StartRel d ks p m S w NA n c (.slice KA1 ks1.length kc1) (.int .i64 ((k + 1 : Nat) : Int)) (wr.drewN q) := by
 obtain ⟨e1, e2, e3⟩ := start_step hdl hr hd (boot_keep ht)
 have e4 : done ++ d.fs.drop k = (done ++ [f]) ++ d.fs.drop (k + 1) := by
  rw [← e1];apply List.ext_getElem?;intro j;rw [List.getElem?_set];split
  · rename_i e
    subst e;rw [e3];rw [if_pos (List.getElem?_eq_some_iff.1 e3).1]
  · rfl
 have hb := below_drewN (Below.refl wr.heap.size wr) q;have ho := how.below hb;rw [e4] at ho hused;have hkk : Keeps S1 wr (wr.drewN q) := Keeps.ofBelow hb;exact ⟨k + 1, done ++ [f], ks1, S1, hs1, KA1, kc1, by omega, rfl, rfl, by simp [hdl], e2, ho, hgrew, hkeeps.trans hkk hgrew, (frame_rd _ _ _ _).go hnames hkk (Grew.refl _ _), (frame_rd _ _ _ _).go hkeys hkk (Grew.refl _ _), hused⟩
set_option maxRecDepth 20000 in
set_option maxHeartbeats 4000000 in
theorem dboot_any (p : Nat) (S : Nat → Prop) (d : Dk) (KA : Option Addr) (kn kc : Nat) (ks : List Int) (w : World) (h : DI w S p d) (hf : Fine d) (hrk : Rd w KA kn kc (vs ks)) (hko : Outs S kn KA) :
 Calls Tryz.prog 13 #[ptr p, .slice KA kn kc] w (fun e w' => e = .returned (.tuple #[]) ∧ Stays DI p S (Dsk.boot ks d) w w') := by
 obtain ⟨m, hs, ho⟩ := h;have hkl : kn = ks.length := by have := hrk.len; unfold vs at this; rw [List.length_map] at this; omega
 subst hkl;have hkm := hrk.le;have hkx := hrk.cap;unfold maxLen at hkx;have HC := hid (names_any p m S d hs w ho hf.length);have HO := hid ho;have HF := hid hf;have HK := hid (show FRd KA ks.length kc (vs ks) w S from ⟨hrk, hko⟩);clear ho hf hrk hko;unfold ptr at HC ⊢;go_enter Tryz.func13, Tryz.ntmps13
 go_wp2_with fail
 refine HC.out.mono ?_;rintro e w1 ⟨NA, n, c, rfl, hown, hb⟩;have hrd := Rd.own hown;have hnl : d.fs.length = n := by have := hrd.len; rwa [List.length_map] at this
 have hcap := And.intro hrd.le hrd.cap;unfold maxLen at hcap;have hn16 : n ≤ 16 := by rw [← hnl]; exact HF.out.length
 have hstart : StartRel d ks p m S w NA n c (.slice KA ks.length kc) (.int .i64 0) w1 := by
  refine ⟨0, [], ks, S, hs, KA, kc, Nat.zero_le _, rfl, rfl, rfl, rfl, HO.out.below hb, Grew.refl S w, Keeps.ofBelow hb, ⟨hrd, fun h0 ad e hS => ?_⟩, (frame_rd KA ks.length kc (vs ks)).go HK.out (Keeps.ofBelow hb) (Grew.refl S w), HF.out.used⟩;subst e;have h1 := (hown.lt ad.block rfl).1;have h2 := HO.out.lt _ hS;omega
 have HST := hid hstart;have HNL := hid hnl;clear hown hb hrd hnl hstart HC HK;go_wp2_with fail
 go_loopw [1, 11] (StartRel d ks p m S w NA n c) (fun _ i _ => n - (intOf i).toNat)
 case atStart => exact HST.out
 case round =>
  obtain ⟨k, done, ks1, S1, hs1, KA1, kc1, hk, rfl, rfl, hdl, hdone, hown, hgrew, hkeeps, hnames, hkeys, hused⟩ := hrel;have HD1 := hid hdl;have HD2 := hid hdone;have HOW := hid hown;have HG := hid hgrew;have HKP := hid hkeeps;have HNM := hid hnames;have HKY := hid hkeys;have HUS := hid hused;clear hdl hdone hown hgrew hkeeps hnames hkeys hused HST;by_cases hlt : k < n
  · have b0 : decide ((k : Int) < (n : Int)) = true := decide_eq_true (by omega)
    have b1 : decide ((n : Int) ≤ (k : Int)) = false := decide_eq_false (by omega);have b2 : ¬ n ≤ k := (by omega);obtain ⟨f, hfk⟩ : ∃ f, d.fs[k]? = some f := ⟨_, List.getElem?_eq_getElem (by rw [HNL.out]; exact hlt)⟩
    have hdr : d.fs.drop k = f :: d.fs.drop (k + 1) := by
     obtain ⟨hl, rfl⟩ := List.getElem?_eq_some_iff.1 hfk;exact List.drop_eq_getElem_cons hl
    have hat : (done ++ d.fs.drop k)[k]? = some f := by
     have h1 := HD1.out;rw [hdr, ← h1];simp
    obtain ⟨x, hx, hxf⟩ : ∃ x, hs1[k]? = some x ∧ x.f = f := by
     have h1 := HOW.out.fs;have h2 : (hs1.map (·.f))[k]? = some f := (by rw [h1]; exact hat);rw [List.getElem?_map, Option.map_eq_some_iff] at h2;exact h2
    subst hxf;have hmx : x ∈ hs1 := List.mem_of_getElem? hx;have hlk := look_self (by rw [HOW.out.fs]; exact HOW.out.up) hmx;have hfind := HOW.out.find (s := x.f.nm) (HOW.out.name_le hmx);rw [hlk] at hfind;unfold pv at hfind;obtain ⟨ad, uz, rfl, hadl, hz, hcz⟩ := HNM.out.1.at_ hlt
    have huz : uz = .string x.f.nm := by
     rw [List.getElem?_map, hfk] at hz;exact (Option.some.inj hz).symm
    subst huz;have hin := HOW.out.file x hmx;have c0 := HOW.out.cells.1;obtain ⟨k0, k1⟩ := hin.cells;have hal : x.f.all.length = x.f.sure.length + x.f.tail.length := x.f.len_all;have hle := len_used hat;have hle2 := HUS.out;have hcut := fun (q j : Nat) (hj : j ≤ x.f.all.length) => fcut_any x j (wr.drewN q) (hin.keep fun _ _ => rfl) hj (by omega);obtain ⟨s0, hs0⟩ : ∃ v, x.f.sure.length = v := ⟨_, rfl⟩
    obtain ⟨T, hT⟩ : ∃ v, x.f.tail.length = v := ⟨_, rfl⟩
    obtain ⟨L, hL⟩ : ∃ v, x.f.all.length = v := ⟨_, rfl⟩
    rw [hL, hs0, hT] at hal;rw [hs0, hT] at hle;rw [hL] at k0;rw [hs0] at k1;rw [hL] at hcut
    have hwr : IntKind.i64.wrap ((L : Int) - (s0 : Int)) = (T : Int) := by
     rw [wrap64 (by omega) (by omega)];omega
    obtain ⟨nm, hnm⟩ : ∃ v, x.f.nm = v := ⟨_, rfl⟩
    have HCUT := hid hcut;have HX := hid hx;have HDR := hid hdr;have HS0 := hid hs0;have HTL := hid hT;have HAL := hid hal;have HNME := hid hnm;have HLE := hid hle;rw [hnm] at hfind hcz;clear hx hdr hat hfk hmx hlk hz hin hle2 hcut hs0 hT hL hal hnm hle;by_cases hT0 : T = 0
    · have b3 : ((T : Int) == 0) = true := by rw [hT0]; rfl
      have htl : x.f.tail = [] := List.eq_nil_of_length_eq_zero (by rw [HTL.out]; exact hT0);have HTE := hid htl;clear htl hT0;go_upto_region 4 with fail
      go_quiet (fail)
      go_wp2_with fail
      exact ⟨start_same hlt HD1.out HDR.out HD2.out HTE.out HOW.out HG.out HKP.out HNM.out HKY.out HUS.out nq, by simp [intOf]; omega⟩
    · have b3 : ((T : Int) == 0) = false := by
       cases e : ((T : Int) == 0)
       · rfl
       · simp at e; omega
      have htl : x.f.tail ≠ [] := fun e => by
       have := HTL.out;rw [e] at this;simp at this;omega
      have HTE := hid htl;clear htl hT0;go_upto_region 4 with fail
      go_quiet (fail)
      cases ks1 with
      | nil =>
        have HC := hid (HCUT.out nq (s0 + T) (by have := HAL.out; omega))
        have hw2 : IntKind.i64.wrap ((s0 : Int) + (T : Int)) = ((s0 + T : Nat) : Int) := by
         have := HLE.out;have := HUS.out;rw [wrap64 (by omega) (by omega)];omega
        obtain ⟨K, hK⟩ : ∃ v, s0 + T = v := ⟨_, rfl⟩
        rw [hK] at hw2 HC;have HKE := hid hK;clear hK HCUT;go_wp2_with fail
        with_reducible refine HC.out.mono ?_
        rintro e u ⟨rfl, ht⟩;have HT := hid ht.drewN;clear ht HC;go_wp2_with fail
        refine ⟨start_next (ks2 := []) hlt HD1.out HDR.out HD2.out (boot_all HTE.out) rfl (cut_len _ _) HOW.out HX.out HG.out HKP.out HNM.out HKY.out HUS.out (by rw [HS0.out, HTL.out, HKE.out]; exact HT.out), by simp [intOf]; omega⟩
      | cons z ks2 =>
        have hky := HKY.out;obtain ⟨bd, uz, rfl, hbl, hbz, hbc⟩ := hky.1.at_ (k := 0) (by simp);have hbz : uz = .int .i64 z := (Option.some.inj hbz).symm;subst hbz;have hcut1 := frd_cut hky
        have hslc : ∀ u : World, (Instr.slice 46 (.slice (some bd) (z :: ks2).length kc1) (some (.int .i64 1)) none none).run Tryz.prog u = .ok (.slice (cutA (some bd) kc1 1) ks2.length (kc1 - 1)) u := fun u => by
         have hsz : ∀ w, (sizeOf (Tryz.prog.elem 46)).run Tryz.prog w = .ok 1 w := fun w => (by kernel_rfl);exact run_cut (P := Tryz.prog) 46 Tryz.underlying46 hsz (some bd) (ks2.length + 1) kc1 1 (by omega) u
        obtain ⟨q, hq⟩ : ∃ v, (z :: ks2).length = v := ⟨_, rfl⟩
        have hq2 : q = ks2.length + 1 := (by rw [← hq]; rfl);have b5 : decide ((0 : Int) < (q : Int)) = true := decide_eq_true (by omega);have b6 : decide ((q : Int) ≤ 0) = false := decide_eq_false (by omega);have b7 : ¬ q ≤ 0 := (by omega);have b8 : 0 < q := (by omega);have hq1 := hky.1.le;have hq0 := hky.1.cap;unfold maxLen at hq0;obtain ⟨M1, hM1⟩ : ∃ M1 : Int, max z 0 = M1 := ⟨_, rfl⟩
        obtain ⟨M2, hM2⟩ : ∃ M2 : Int, min M1 (T : Int) = M2 := ⟨_, rfl⟩
        have hmx : ∀ (W : World) (ts : Array TypeId) (ty : TypeId), (Builtin.max_ ts ty #[.int .i64 z, .int .i64 0]).run Tryz.prog W = .ok (.int .i64 M1) W := fun W ts ty => (by rw [Lib.run_max_ints, hM1]);have hmn : ∀ (W : World) (ts : Array TypeId) (ty : TypeId), (Builtin.min_ ts ty #[.int .i64 M1, .int .i64 (T : Int)]).run Tryz.prog W = .ok (.int .i64 M2) W := fun W ts ty => (by rw [Lib.run_min_ints, hM2]);have hM0 : 0 ≤ M2 ∧ M2 ≤ T := (by omega);obtain ⟨j, rfl⟩ := Int.eq_ofNat_of_zero_le hM0.1;have hj : (min (max z 0) ((x.f.tail.length : Nat) : Int)).toNat = j := (by rw [HTL.out, hM1, hM2]; rfl);have hjT : j ≤ T := (by omega);have HC := hid (HCUT.out nq (s0 + j) (by have := HAL.out; omega))
        have hw2 : IntKind.i64.wrap ((s0 : Int) + (j : Int)) = ((s0 + j : Nat) : Int) := by
         have := HLE.out;have := HUS.out;rw [wrap64 (by omega) (by omega)];omega
        obtain ⟨K, hK⟩ : ∃ v, s0 + j = v := ⟨_, rfl⟩
        rw [hK] at hw2 HC;rw [hq] at hslc hq1
        have hbc0 : wr.cell? bd = some (.int .i64 z) := by
         have e : bd.add 0 = bd := (by simp [Addr.add]);rw [e] at hbc;exact hbc
        have HKE := hid hK;have HJ := hid hj;have HCU := hid hcut1;rw [hq];clear hK HCUT hky hq hq2 hM1 hM2 hM0 hj hjT hcut1;go_wp2_with fail
        with_reducible refine HC.out.mono ?_
        rintro e u ⟨rfl, ht⟩;have HT := hid ht.drewN;clear ht HC;go_wp2_with fail
        exact ⟨start_next (ks2 := ks2) hlt HD1.out HDR.out HD2.out (boot_some HTE.out) rfl (cut_len _ _) HOW.out HX.out HG.out HKP.out HNM.out HCU.out HUS.out (by rw [HS0.out, HJ.out, HKE.out]; exact HT.out), by simp [intOf]; omega⟩
  · have hkn : k = n := by omega
    subst hkn;have b0 : decide ((k : Int) < (k : Int)) = false := decide_eq_false (by omega);have e0 : d.fs.drop k = [] := List.drop_of_length_le (by rw [HNL.out]; exact Nat.le_refl _)
    have e1 : done = bootFs d.fs ks := by
     have h := HD2.out;rw [e0, bootFs_nil, List.append_nil] at h;exact h
    have ho := HOW.out;rw [e0, List.append_nil, e1] at ho;obtain ⟨c0, c1, c2, c3⟩ := ho.cells;have f2 := ho.box.soft 2;have f3 := ho.box.soft 3;have hb := (ho.box.put 2 (.int .i64 (-1))).put 3 (.bool false);have hg1 := set_grown wr p 2 (.int .i64 (-1));have hg2 := set_grown (wr.setCell ⟨p, 2, none⟩ (.int .i64 (-1))) p 3 (.bool false);have hg : wr.grownBy ((wr.setCell ⟨p, 2, none⟩ (.int .i64 (-1))).setCell ⟨p, 3, none⟩ (.bool false)) (some p) := ⟨hg2.os.trans hg1.os, hg2.tape.trans hg1.tape, hg2.output.trans hg1.output, Nat.le_trans hg1.size hg2.size, fun j hj hn => (hg2.block j (Nat.lt_of_lt_of_le hj hg1.size) hn).trans (hg1.block j hj hn)⟩
    have hend := ho.setp (d' := ⟨bootFs d.fs ks, d.room, -1, false⟩) hg hb rfl;have hkw : Keeps S1 wr ((wr.setCell ⟨p, 2, none⟩ (.int .i64 (-1))).setCell ⟨p, 3, none⟩ (.bool false)) := Keeps.ofGrown hg ho.sp;have HE := hid (show Stays DI p S (Dsk.boot ks d) w ((wr.setCell ⟨p, 2, none⟩ (.int .i64 (-1))).setCell ⟨p, 3, none⟩ (.bool false)) from ⟨S1, ⟨m, hs1, hend⟩, HG.out, HKP.out.trans hkw HG.out⟩);clear hlt ho e0 e1 hb hg1 hg2 hg hend hkw c0 c1;go_wp2_with fail
    go_end0
    exact ⟨rfl, HE.out⟩
end Go.Proofs.YtkejjdoaljoooaaGreatDoor.Dsk
