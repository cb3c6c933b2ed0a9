/-
  Texts of earlier layers, as one.
-/
import Derived.Test.YthlhchaoedcdbaaGreatDoorRCodP
/- codec's reader: left, kind, number: what stands at the place, or a fault that tells the error and its place. -/
namespace Go.Proofs.YthlhchaoedcdbaaGreatDoor.Cp
open Lib (hid)
open Go.RowKit Mem Cod
def Rdr (w : World) (g : Nat) (A : Option Addr) (n c p : Nat) : Prop := Blk w g 121 #[.slice A n c, .int .i64 (p : Int)]
set_option maxRecDepth 20000 in
theorem left_any (g : Nat) (A : Option Addr) (n c p : Nat) (w : World) (h : Rdr w g A n c p) (hp : p ≤ n) (hn : n ≤ 2000000) :
 Calls Tryz.prog 136 #[.pointer (some ⟨g, 0, none⟩)] w fun e w' => e = .returned (.int .u64 ((n : Int) - p)) ∧ ∃ q, w' = w.drewN q := by
 have c0 : w.cell? ⟨g, 0, none⟩ = some (.slice A n c) := Blk.cell h 0;have c1 : w.cell? ⟨g, 1, none⟩ = some (.int .i64 (p : Int)) := Blk.cell h 1;have hw1 : IntKind.i64.wrap ((n : Int) - p) = (n : Int) - p := IntWalk.i64_in _ (by omega);have hw2 : IntKind.u64.wrap ((n : Int) - p) = (n : Int) - p := by rw [IntKind.wrap_u64]; omega
 go_enter Tryz.func136, Tryz.ntmps136
 go_wp2_with fail
 go_quiet (fail)
 go_wp2_with fail
 go_ret;exact ⟨rfl, nq, rfl⟩
theorem fail_2p (p : Nat) (w : World) : Calls Tryz.prog 92 #[.int .i64 2, .int .i64 (p : Int)] w fun en w' => en = .panicked (flt 2 p) ∧ w = w' := fail_any 2 p w
theorem fail_3p (p : Nat) (w : World) : Calls Tryz.prog 92 #[.int .i64 3, .int .i64 (p : Int)] w fun en w' => en = .panicked (flt 3 p) ∧ w = w' := fail_any 3 p w
theorem fail_4p (p : Nat) (w : World) : Calls Tryz.prog 92 #[.int .i64 4, .int .i64 (p : Int)] w fun en w' => en = .panicked (flt 4 p) ∧ w = w' := fail_any 4 p w
theorem fail_12p (p : Nat) (w : World) : Calls Tryz.prog 92 #[.int .i64 12, .int .i64 (p : Int)] w fun en w' => en = .panicked (flt 12 p) ∧ w = w' := fail_any 12 p w
def KindIs (b : List Nat) (d p g : Nat) (A : Option Addr) (n c : Nat) (w : World) (e : Ending) (w' : World) : Prop :=
 w.grownBy w' (some g) ∧ ((p < n ∧ d ≤ 15 ∧ b.getD p 0 ≤ 2 ∧ e = .returned (.int .u8 ((b.getD p 0 : Nat) : Int)) ∧ Rdr w' g A n c (p + 1)) ∨ (n ≤ p ∧ e = .panicked (flt 2 p)) ∨ (p < n ∧ 15 < d ∧ e = .panicked (flt 12 p)) ∨
  (p < n ∧ d ≤ 15 ∧ 2 < b.getD p 0 ∧ e = .panicked (flt 4 p)))
set_option maxRecDepth 20000 in
set_option maxHeartbeats 2000000 in
theorem kind_any (b : List Nat) (d p g : Nat) (A : Option Addr) (n c : Nat) (w : World) (h : Rdr w g A n c p) (hr : Rd w A n c (cs b)) (hb : ∀ x ∈ b, x < 256) (hp : p ≤ n) (hn : n ≤ 2000000) (hd : d ≤ 16) :
 Calls Tryz.prog 134 #[.pointer (some ⟨g, 0, none⟩), .int .i64 (d : Int)] w (KindIs b d p g A n c w) := by
 have H := hid h;have HR := hid hr;have HB := hid hb;clear h hr hb;have hcap := HR.out.le;by_cases h0 : p < n
 · have hz : ((n : Int) - p == 0) = false := by simp; omega
   by_cases h15 : 16 ≤ (d : Int)
   · go_enter Tryz.func134, Tryz.ntmps134
     go_wp2_with fail
     refine (left_any g A n c p w H.out hp hn).mono ?_;rintro e w1 ⟨rfl, q, rfl⟩;have c1 : w.cell? ⟨g, 1, none⟩ = some (.int .i64 (p : Int)) := Blk.cell H.out 1;go_wp2_with fail
     refine (fail_12p p _).mono ?_;rintro e w2 ⟨rfl, rfl⟩;exact ⟨rfl, gr_drewN (gr_refl _ _) _, .inr (.inr (.inl ⟨h0, by omega, rfl⟩))⟩
   · obtain ⟨ad, x, rfl, hx, hcx⟩ := HR.out.byte h0
     have hg : b.getD p 0 = x := (by simp [List.getD, hx]);have hx256 : x < 256 := HB.out x (List.mem_of_getElem? hx);have HG := hid hg;clear hx hg;have c0 : w.cell? ⟨g, 0, none⟩ = some (.slice (some ad) n c) := Blk.cell H.out 0;have c1 : w.cell? ⟨g, 1, none⟩ = some (.int .i64 (p : Int)) := Blk.cell H.out 1;have z1 : w.frozen? ⟨g, 1, none⟩ = false := Blk.soft H.out 1;by_cases h2 : 2 < (x : Int)
     · go_enter Tryz.func134, Tryz.ntmps134
       go_wp2_with fail
       refine (left_any g (some ad) n c p w H.out hp hn).mono ?_;rintro e w1 ⟨rfl, q, rfl⟩;go_wp2_with fail
       go_quiet (fail)
       go_wp2_with fail
       refine (fail_4p p _).mono ?_;rintro e w2 ⟨rfl, rfl⟩;exact ⟨rfl, gr_drewN (gr_refl _ _) _, .inr (.inr (.inr ⟨h0, by omega, by rw [HG.out]; omega, rfl⟩))⟩
     · go_enter Tryz.func134, Tryz.ntmps134
       go_wp2_with fail
       refine (left_any g (some ad) n c p w H.out hp hn).mono ?_;rintro e w1 ⟨rfl, q, rfl⟩;go_wp2_with fail
       go_quiet (fail)
       go_wp2_with fail
       go_ret;refine ⟨gr_set (gr_drewN (gr_refl _ _) _) (.inl rfl) _, .inl ⟨h0, by omega, by rw [HG.out]; omega, by rw [HG.out]; rfl, ?_⟩⟩;have := (H.out.drewN (q + nq)).put 1 (.int .i64 ((p : Int) + 1));simpa [Rdr] using this
 · have hz : ((n : Int) - p == 0) = true := by simp; omega
   have c1 : w.cell? ⟨g, 1, none⟩ = some (.int .i64 (p : Int)) := Blk.cell H.out 1;go_enter Tryz.func134, Tryz.ntmps134
   go_wp2_with fail
   refine (left_any g A n c p w H.out hp hn).mono ?_;rintro e w1 ⟨rfl, q, rfl⟩;go_wp2_with fail
   refine (fail_2p p _).mono ?_;rintro e w2 ⟨rfl, rfl⟩;exact ⟨rfl, gr_drewN (gr_refl _ _) _, .inr (.inl ⟨by omega, rfl⟩)⟩
def NumIs (b : List Nat) (p g : Nat) (A : Option Addr) (n c : Nat) (w : World) (e : Ending) (w' : World) : Prop :=
 w.grownBy w' (some g) ∧ (((Num.take (b.drop p)).2.2 = 0 ∧ e = .returned (.int .u64 (((Num.take (b.drop p)).1 : Nat) : Int)) ∧ Rdr w' g A n c (p + (Num.take (b.drop p)).2.1)) ∨
  ((Num.take (b.drop p)).2.2 ≠ 0 ∧ e = .panicked (flt (Num.take (b.drop p)).2.2 p)))
theorem take_quiet (A : Option Addr) (n c : Nat) (bs : List Nat) (v k e : Nat) (w : World) (q : Nat) (hr : Rd w A n c (cs bs)) (hlt : ∀ x ∈ bs, x < 256) (ht : Num.take bs = (v, k, e)) :
 Calls Tryz.prog 148 #[.slice A n c] (w.drewN q) fun en w'' => en = .returned (.tuple #[.int .u64 (v : Int), .int .i64 (k : Int), .int .i64 (e : Int)]) ∧ ∃ m, w'' = w.drewN m :=
 (take_any A n c bs _ (hr.drewN q) hlt).mono fun en w' ⟨he, hw⟩ => ⟨by rw [he, ht], q, hw.symm⟩
set_option maxRecDepth 20000 in
set_option maxHeartbeats 2000000 in
theorem number_any (b : List Nat) (p g : Nat) (A : Option Addr) (n c : Nat) (w : World) (h : Rdr w g A n c p) (hr : Rd w A n c (cs b)) (hb : ∀ x ∈ b, x < 256) (hp : p ≤ n) (hn : n ≤ 2000000) :
 Calls Tryz.prog 135 #[.pointer (some ⟨g, 0, none⟩)] w (NumIs b p g A n c w) := by
 have hcut := run_cut (P := Tryz.prog) 35 Tryz.underlying35 (fun w => by kernel_rfl) A n c p hp;have hrc := hr.cut hp;rw [cs_drop] at hrc;have hbd : ∀ x ∈ b.drop p, x < 256 := fun x hx => hb x (List.mem_of_mem_drop hx);have hlb := hr.len;rw [length_cs] at hlb;have hok := take_ok (b.drop p) hbd;unfold NumIs;rcases ht : Num.take (b.drop p) with ⟨v, k, e⟩
 rw [ht] at hok;simp only at hok ⊢;have c0 : w.cell? ⟨g, 0, none⟩ = some (.slice A n c) := Blk.cell h 0;have c1 : w.cell? ⟨g, 1, none⟩ = some (.int .i64 (p : Int)) := Blk.cell h 1;have z1 : w.frozen? ⟨g, 1, none⟩ = false := Blk.soft h 1;have hcap := hr.le;have hcm := hr.cap;unfold maxLen at hcm;have H := hid h;have HRC := hid hrc;have HBD := hid hbd;have HT := hid ht;have HOK := hid hok;have HLB := hid hlb;clear h hr hb hrc hbd ht hok hlb;by_cases he : e = 0
 · subst he
   obtain ⟨_, o2, o3, o4⟩ := HOK.out rfl;have hk9 : k ≤ 2000000 := (by rw [List.length_drop] at o3; have := HLB.out; omega);have HO2 := hid o2;have HO3 := hid o3;clear o2 o3 o4;go_enter Tryz.func135, Tryz.ntmps135
   go_wp2_with fail
   go_quiet ((go_at_call 148; exact take_quiet _ _ _ _ v k 0 w _ HRC.out HBD.out HT.out))
   go_wp2_with fail
   go_ret;refine ⟨gr_set (gr_drewN (gr_refl _ _) _) (.inl rfl) _, .inl ⟨trivial, rfl, ?_⟩⟩;have := (H.out.drewN nq).put 1 (.int .i64 ((p : Int) + k));simpa [Rdr] using this
 · have hne : ((e : Int) != 0) = true := by rw [bne_iff_ne]; omega
   have HE := hid he;clear he;go_enter Tryz.func135, Tryz.ntmps135
   go_wp2_with fail
   go_quiet ((go_at_call 148; exact take_quiet _ _ _ _ v k e w _ HRC.out HBD.out HT.out))
   go_wp2_with fail
   refine (fail_any e p _).mono ?_;rintro en w2 ⟨rfl, rfl⟩;exact ⟨rfl, gr_drewN (gr_refl _ _) _, .inr ⟨HE.out, rfl⟩⟩
end Go.Proofs.YthlhchaoedcdbaaGreatDoor.Cp
/- codec's reader: item: the tree of the item that begins at the place, or a fault that tells the error and its place. -/
namespace Go.Proofs.YthlhchaoedcdbaaGreatDoor.Cp
open Lib (hid)
open Go.RowKit Mem Cod
def Itemed (b : List Nat) (r p g : Nat) (A : Option Addr) (n c : Nat) (w : World) (e : Ending) (w' : World) : Prop :=
 w.grownBy w' (some g) ∧ ((∃ x q v, tk b r p = .ok x q ∧ e = .returned v ∧ IsNode w' (fun bl => w.heap.size ≤ bl) x v ∧ Rdr w' g A n c q) ∨ (∃ er q, tk b r p = .bad er q ∧ e = .panicked (flt er q)))
def ItemRel (w : World) (b : List Nat) (r q0 g : Nat) (A : Option Addr) (n c : Nat) (m : Nat) (parts i : Value) (wr : World) : Prop :=
 ∃ (k : Nat) (V : Option Addr) (cv : Nat) (us : List Value) (xs : List It) (q : Nat), k ≤ m ∧ i = .int .u64 k ∧ parts = .slice V k cv ∧ wr.ownsRow w.heap.size 122 1 (.slice V k cv) k us ∧ rows (tk b r) k q0 = .ok xs q ∧
  xs.length = k ∧ q ≤ n ∧ Rdr wr g A n c q ∧ w.grownBy wr (some g) ∧
  ∀ (j : Nat) (y : It) (u : Value), xs[j]? = some y → us[j]? = some u → IsNode wr (fun b => w.heap.size ≤ b ∧ some b ≠ (Value.slice V k cv).ownBlock) y u
theorem tk_end {b : List Nat} {r p : Nat} (h : b.length ≤ p) : tk b r p = .bad 2 p := by
 cases r <;> rw [tk, if_pos h]
theorem tk_deep {b : List Nat} {p : Nat} (h : p < b.length) : tk b 0 p = .bad 12 p := by rw [tk, if_neg (by omega)]
theorem tk_kind {b : List Nat} {r p : Nat} (h : p < b.length) (hk : 2 < b.getD p 0) : tk b (r + 1) p = .bad 4 p := by rw [tk, if_neg (by omega), one, if_pos hk]
theorem tk_num {b : List Nat} {r p : Nat} (h : p < b.length) (hk : b.getD p 0 ≤ 2) (hn : (Num.take (b.drop (p + 1))).2.2 ≠ 0) : tk b (r + 1) p = .bad (Num.take (b.drop (p + 1))).2.2 (p + 1) := by
 rw [tk, if_neg (by omega), one, if_neg (by omega), if_pos hn]
theorem tk_body {b : List Nat} {r p : Nat} (h : p < b.length) (hk : b.getD p 0 ≤ 2) (hn : (Num.take (b.drop (p + 1))).2.2 = 0) :
 tk b (r + 1) p = body b (tk b r) (b.getD p 0) (Num.take (b.drop (p + 1))).1 (p + 1 + (Num.take (b.drop (p + 1))).2.1) := by
 rw [tk, if_neg (by omega), one, if_neg (by omega), if_neg (by simpa using hn)]
theorem rd_grown0 {w w' : World} {A : Option Addr} {n c : Nat} {xs : List Value} {r : Option Nat} (h : Rd w A n c xs) (hg : w.grownBy w' r) (hr : 0 < n → ∀ ad, A = some ad → some ad.block ≠ r) : Rd w' A n c xs :=
 ⟨h.len, h.le, h.cap, h.nil, fun hn => by
  obtain ⟨ad, e, hb, hc⟩ := h.spot hn;exact ⟨ad, e, by have := hg.size; omega, fun j u hu => (World.cell?_of_block (by rw [add_block]; exact hg.block _ hb (hr hn ad e))).trans (hc j u hu)⟩⟩
theorem run_mid {P : Program} (t : TypeId) (ht : P.underlying t = some (.slice (P.elem t))) (hsz : ∀ w : World, (sizeOf (P.elem t)).run P w = .ok 1 w) (A : Option Addr) (n c p q : Nat) (hp : p ≤ q) (hq : q ≤ n) (hn : n ≤ c) (w : World) :
 (Instr.slice t (.slice A n c) (some (.int .i64 (p : Int))) (some (.int .i64 (q : Int))) none).run P w = .ok (.slice (cutA A c p) (q - p) (c - p)) w := by
 rw [run_slice_lh w t A n c ht .i64 .i64 (p : Int) (q : Int) (by omega) (by omega) (by omega), hsz];simp [Result.andThen, sliced, cutA]
set_option maxRecDepth 100000 in
set_option maxHeartbeats 4000000 in
theorem item_step (b : List Nat) (r d p g : Nat) (A : Option Addr) (n c : Nat) (w : World) (hrd : r + d = 16) (h : Rdr w g A n c p) (hr : Rd w A n c (cs b)) (hA : 0 < n → ∀ ad, A = some ad → ad.block ≠ g) (hb : ∀ x ∈ b, x < 256) (hp : p ≤ n) (hn : n ≤ 2000000)
 (ih : ∀ (r' : Nat) (p : Nat) (w : World), r = r' + 1 → Rdr w g A n c p → Rd w A n c (cs b) → p ≤ n →
  Calls Tryz.prog 93 #[.pointer (some ⟨g, 0, none⟩), .int .i64 ((d : Int) + 1)] w (Itemed b r' p g A n c w)) :
 Calls Tryz.prog 93 #[.pointer (some ⟨g, 0, none⟩), .int .i64 (d : Int)] w (Itemed b r p g A n c w) := by
 obtain ⟨i0, hi, hz0, hz1, hz2⟩ := info_parts info54;have hlb := hr.len;rw [length_cs] at hlb;have hcap := hr.le;have hcm := hr.cap;unfold maxLen at hcm;have H := hid h;have HR := hid hr;have HA := hid hA;have HB := hid hb;have IH := hid ih;have HLB := hid hlb;clear h hr hA hb ih hlb;go_enter Tryz.func93, Tryz.ntmps93
 go_wp2_with fail
 refine (kind_any b d p g A n c w H.out HR.out HB.out hp hn (by omega)).mono ?_;rintro e w1 ⟨hg1, ⟨hpn, hd15, hk2, rfl, hr1⟩ | ⟨hnp, rfl⟩ | ⟨hpn, hd, rfl⟩ | ⟨hpn, hd15, hk, rfl⟩⟩
 · obtain ⟨r', rfl⟩ : ∃ r', r = r' + 1 := ⟨r - 1, by omega⟩
   have hrd1 := rd_grown0 HR.out hg1 fun h0 ad e => (by have := HA.out h0 ad e; simpa using this);have HG1 := hid hg1;have HRD1 := hid hrd1;clear hg1 hrd1;have hlen : p < b.length := (by have := HLB.out; omega);have HTN := hid (tk_num (r := r') hlen hk2);have HTB := hid (tk_body (r := r') hlen hk2);generalize b.getD p 0 = kb at hk2 HTB ⊢;have hkk : kb = 0 ∨ kb = 1 ∨ kb = 2 := (by omega);clear hlen;have hok := take_ok (b.drop (p + 1)) (fun x hx => HB.out x (List.mem_of_mem_drop hx));have HOK := hid hok;clear hok;go_wp2_with fail
   refine (number_any b (p + 1) g A n c w1 hr1 HRD1.out HB.out (by omega) hn).mono ?_;rintro e w2 ⟨hg2, hcase⟩;have hgw2 : w.grownBy w2 (some g) := HG1.out.trans hg2;have hrd2 := rd_grown0 HRD1.out hg2 fun h0 ad e => (by have := HA.out h0 ad e; simpa using this);rcases ht : Num.take (b.drop (p + 1)) with ⟨v, m, er⟩
   rw [ht] at hcase;have hok := HOK.out;have htn := HTN.out;have htb := HTB.out;rw [ht] at hok htn htb;simp only at hcase hok htn htb;clear HOK HTN HTB ht HG1 HRD1 hg2;rcases hcase with ⟨rfl, rfl, hr2⟩ | ⟨he, rfl⟩
   · obtain ⟨_, o2, o3, o4⟩ := hok rfl
     have hq : p + 1 + m ≤ n := (by rw [List.length_drop] at o3; have := HLB.out; omega);have htb' := htb rfl;have HTB := hid htb';have HG2 := hid hgw2;have HRD2 := hid hrd2;have HR2 := hid hr2;clear htb htb' htn hok o2 o3 hgw2 hrd2 hr2;generalize p + 1 + m = q at hq HTB HR2;rcases hkk with rfl | rfl | rfl
     · rw [show (((0 : Nat) : Nat) : Int) = 0 by rfl]
       go_wp2_with fail
       go_ret;refine ⟨HG2.out, .inl ⟨.mk 0 v ByteArray.empty [], q, _, by rw [HTB.out, body, if_pos rfl], rfl, ?_, HR2.out⟩⟩;rw [node_eq];exact ⟨.inl ⟨rfl, by show v ≤ _; omega, rfl⟩, fun i hi => by simp [It.kids] at hi⟩
     · rw [show (((1 : Nat) : Nat) : Int) = 1 by rfl]
       go_wp2_with fail
       refine (left_any g A n c q w2 HR2.out hq hn).mono ?_;rintro e w3 ⟨rfl, q3, rfl⟩;have c1 : w2.cell? ⟨g, 1, none⟩ = some (.int .i64 (q : Int)) := Blk.cell HR2.out 1;have c0 : w2.cell? ⟨g, 0, none⟩ = some (.slice A n c) := Blk.cell HR2.out 0;have z1 : w2.frozen? ⟨g, 1, none⟩ = false := Blk.soft HR2.out 1;by_cases hv : (n : Int) - q < v
       · go_wp2_with fail
         refine (fail_2p q _).mono ?_;rintro en w4 ⟨rfl, rfl⟩;refine ⟨rfl, gr_drewN HG2.out _, .inr ⟨2, q, ?_, rfl⟩⟩;rw [HTB.out, body, if_neg (by omega), if_pos (by have := HLB.out; omega)]
       · have hvn : v ≤ 2000000 := by omega
         have hcut := run_mid (P := Tryz.prog) 35 Tryz.underlying35 (fun w => by kernel_rfl) A n c q (q + v) (by omega) (by omega) hcap;rw [show q + v - q = v by omega, show ((q + v : Nat) : Int) = (q : Int) + v by omega] at hcut
         have hrt : Rd w2 (cutA A c q) v (c - q) (cs ((b.drop q).take v)) := by
          have := (HRD2.out.cut hq).take (k := v) (by omega);rwa [cs_drop, cs_take] at this
         have hcv : ∀ k : Nat, (convert 35 164 (.slice (cutA A c q) v (c - q))).run Tryz.prog (w2.drewN k) = .ok (.string (Cod.txt ((b.drop q).take v))) (w2.drewN k) := fun k =>
          Cod.run_text 35 164 5 Tryz.underlying35 Tryz.underlying5 Tryz.underlying164 (hrt.drewN k)
         have hwr : IntKind.i64.wrap ((q : Int) + v) = (q : Int) + v := IntWalk.i64_in _ (by omega);have hwc : IntKind.i64.wrap (v : Int) = (v : Int) := IntWalk.i64_in _ (by omega);clear hrt;go_wp2_with fail
         go_quiet (fail)
         go_wp2_with fail
         go_ret;refine ⟨gr_set (gr_drewN HG2.out _) (.inl rfl) _, .inl ⟨.mk 1 0 (Cod.txt ((b.drop q).take v)) [], q + v, _, ?_, rfl, ?_, ?_⟩⟩
         · rw [HTB.out, body, if_neg (by omega), if_neg (by have := HLB.out; omega), if_pos rfl]
         · rw [node_eq]
           refine ⟨.inr (.inl ⟨rfl, ?_, rfl⟩), fun i hi => by simp [It.kids] at hi⟩;show (Cod.txt ((b.drop q).take v)).size ≤ _;rw [Cod.size_txt, List.length_take];omega
         · have := (HR2.out.drewN (q3 + nq)).put 1 (.int .i64 ((q : Int) + v))
           simpa [Rdr] using this
     · rw [show (((2 : Nat) : Nat) : Int) = 2 by rfl]
       go_wp2_with fail
       refine (left_any g A n c q w2 HR2.out hq hn).mono ?_;rintro e w3 ⟨rfl, q3, rfl⟩;have c1 : w2.cell? ⟨g, 1, none⟩ = some (.int .i64 (q : Int)) := Blk.cell HR2.out 1;by_cases hv : (n : Int) - q < v
       · go_wp2_with fail
         refine (fail_2p q _).mono ?_;rintro en w4 ⟨rfl, rfl⟩;refine ⟨rfl, gr_drewN HG2.out _, .inr ⟨2, q, ?_, rfl⟩⟩;rw [HTB.out, body, if_neg (by omega), if_pos (by have := HLB.out; omega)]
       · have hvn : v ≤ 2000000 := by omega
         have hvb : decide ((n : Int) - q < v) = false := by simpa using hv
         have HBO := hid (show ∀ xs q', rows (tk b r') v q = .ok xs q' → tk b (r' + 1) p = .ok (.mk 2 0 ByteArray.empty xs) q' from fun xs q' hh => by
          rw [HTB.out, body, if_neg (by omega), if_neg (by have := HLB.out; omega), if_neg (by omega), hh])
         have HBN := hid (show ∀ er q', rows (tk b r') v q = .bad er q' → tk b (r' + 1) p = .bad er q' from fun er q' hh => by
          rw [HTB.out, body, if_neg (by omega), if_neg (by have := HLB.out; omega), if_neg (by omega), hh])
         have hgl := Blk.lt H.out;go_wp2_with fail
         have hst : ItemRel w b r' q g A n c v (.slice none 0 0) (.int .u64 0) (w2.drewN q3) :=
          ⟨0, none, 0, [], [], q, Nat.zero_le _, rfl, rfl, ⟨rfl, .inl ⟨rfl, rfl⟩⟩, rfl, rfl, hq, HR2.out.drewN q3, gr_drewN HG2.out q3, fun j y u h => by simp at h⟩
         go_loopw [8, 58] (ItemRel w b r' q g A n c v) (fun _ i _ => v - (intOf i).toNat)
         case atStart => exact hst
         case round =>
          clear hst c1;obtain ⟨k, V, cv, us, xs, q1, hk, rfl, rfl, hown, hrow, hxl, hq1, hrr, hgr, hnod⟩ := hrel;have HO := hid hown;have HROW := hid hrow;have HXL := hid hxl;have HRR := hid hrr;have HGR := hid hgr;have HN := hid hnod;clear hown hrow hxl hrr hgr hnod;by_cases hlt : k < v
          · go_wp2_with fail
            refine (IH.out r' q1 wr rfl HRR.out (rd_grown0 HR.out HGR.out fun h0 ad e => by have := HA.out h0 ad e; simpa using this) hq1).mono ?_;rintro e w5 ⟨hg5, ⟨y, q2, u, hty, rfl, hnu, hru⟩ | ⟨er, qe, hty, rfl⟩⟩
            · have hgood := tk_good HB.out (by have := HLB.out; omega) r' q1 y q2 (by omega) hty
              have hq2 : q2 ≤ n := (by have := hgood.2.2.2.1; have := HLB.out; omega);have HTY := hid hty;have HG5 := hid hg5;obtain ⟨ut, up, rfl⟩ := hnu.iface;have HNU := hid hnu;have HRU := hid hru;clear hty hg5 hnu hru hgood;have hs5 : w.heap.size ≤ w5.heap.size := (by have := HG5.out.size; have := HGR.out.size; omega);have hog : (Value.slice V k cv).ownBlock ≠ some g := fun e => (by have := (HO.out.lt g e).1; omega);have hown5 : w5.ownsRow w.heap.size 122 1 (.slice V k cv) k us := HO.out.kept HG5.out (.inr hog);go_wp2_with (at_builtin; refine wpList_append_lies _ rfl (.tmp 60) (.tmp 65) 166 rfl w.heap.size 122 i0 _ 1 16 Tryz.underlying166 hi hz0 hz1 hz2 rfl (by omega) (.slice V k cv) k us rfl (hown5.alloc _) ⟨w5.heap.size, 0, none⟩ 1 1 [.iface ut up] rfl rfl (cell_one_new _ _ _) (by intro u hu; simp at hu; subst hu; rfl) (by omega) (by unfold maxLen; omega) (by omega) (by rw [size_alloc]; omega) _ rfl ?_; intro g' cap' w7 hown7 hgr7 hat7 hlt7)
              have hsz5 : wr.heap.size ≤ w5.heap.size := HG5.out.size;refine ⟨⟨k + 1, _, cap', us ++ [.iface ut up], xs ++ [y], q2, by omega, by simp, rfl, hown7, by rw [rows, HROW.out]; simp only [HTY.out], by simp [HXL.out], hq2, (HRU.out.alloc _).grown hgr7 (fun e => hog e.symm), ?_, ?_⟩, by simp [intOf]; omega⟩
              · refine gr_step (gr_alloc (HGR.out.trans HG5.out) _) hgr7 fun b hb => .inl (HO.out.lt b hb).1
              · intro j y' u' hy hu
                have hlen := HO.out.1;rw [Nat.mul_one] at hlen;have hxl := HXL.out
                have hg'5 : ∀ b, b < wr.heap.size → some b ≠ (Value.slice V k cv).ownBlock → some b ≠ (Value.slice (some ⟨g', 0, none⟩) (k + 1) cap').ownBlock := by
                 intro b hb hne e;have e' : b = g' := (by simpa [Value.ownBlock] using e);rcases hat7 with h | h
                 · exact hne (by rw [h, e'])
                 · rw [size_alloc] at h; omega
                rcases Nat.lt_or_ge j k with hj | hj
                · rw [List.getElem?_append_left (by omega)] at hu hy
                  have hn' := HN.out j y' u' hy hu;refine IsNode.grown (S' := fun b => w.heap.size ≤ b ∧ b < wr.heap.size ∧ some b ≠ (Value.slice V k cv).ownBlock) hn' HG5.out ?_ |>.keep y' (S' := _) ?_ ?_ ?_
                  · intro b hb hlt'
                    refine ⟨fun e => ?_, hb.1, hlt', hb.2⟩;have : b = g := (by simpa using e);omega
                  · rintro b ⟨h1, h2, h3⟩ _
                    exact ⟨h1, hg'5 b h2 h3⟩
                  · have := hgr7.size
                    rw [size_alloc] at this;omega
                  · rintro b ⟨h1, h2, h3⟩ h4
                    exact (hgr7.block b (by rw [size_alloc]; omega) h3).trans (Below.heap_alloc _ _ b h4)
                · have hj2 : j = k := by
                   have := (List.getElem?_eq_some_iff.1 hu).1;simp at this;omega
                  subst hj2;rw [List.getElem?_append_right (by omega), hlen, Nat.sub_self] at hu;rw [List.getElem?_append_right (by omega), hxl, Nat.sub_self] at hy;simp at hu hy;subst hu;subst hy;refine HNU.out.keep _ ?_ ?_ ?_
                  · intro b hb h4
                    refine ⟨by have := HGR.out.size; omega, fun e => ?_⟩;have e' : b = g' := (by simpa [Value.ownBlock] using e);rcases hat7 with h | h
                    · have := (HO.out.lt _ h).2; omega
                    · rw [size_alloc] at h; omega
                  · have := hgr7.size
                    rw [size_alloc] at this;omega
                  · intro b hb h4
                    exact (hgr7.block b (by rw [size_alloc]; omega) (fun e => by have := (HO.out.lt b e.symm).2; omega)).trans (Below.heap_alloc _ _ b h4)
            · have hfin : ([] : List Deferred) = [] ∧ Itemed b (r' + 1) p g A n c w (.panicked (flt er qe)) w5 := by
               refine ⟨rfl, HGR.out.trans hg5, .inr ⟨er, qe, ?_, rfl⟩⟩;have h1 : rows (tk b r') (k + 1) q = .bad er qe := (by rw [rows, HROW.out]; simp only [hty]);have h2 := rows_bad _ _ _ _ _ h1 (v - (k + 1));rw [show k + 1 + (v - (k + 1)) = v by omega] at h2;exact HBN.out _ _ h2
              exact hfin
          · obtain rfl : k = v := by omega
            go_wp2_with fail
            go_ret;refine ⟨HGR.out, .inl ⟨.mk 2 0 ByteArray.empty xs, q1, _, HBO.out _ _ HROW.out, rfl, ?_, HRR.out⟩⟩;have hxl := HXL.out;subst hxl;obtain ⟨A2, c2, e2, hr2⟩ := Rd.of_own HO.out;cases e2;rw [node_eq];refine ⟨.inr (.inr ⟨rfl, _, _, rfl, hr2.le, hr2.cap, hr2.nil⟩), fun i hi => ?_⟩;simp only [It.kids] at hi ⊢;obtain ⟨ad, u, rfl, hb, hu, hcl⟩ := hr2.at_ hi;refine ⟨ad, _, u, rfl, (HO.out.lt ad.block rfl).1, hb, hcl, ?_⟩;exact (HN.out i _ u (List.getElem?_eq_getElem hi) hu).keep _ (fun b hb _ => hb.1) (Nat.le_refl _) fun _ _ _ => rfl
   · exact ⟨rfl, hgw2, .inr ⟨er, p + 1, htn he, rfl⟩⟩
 · exact ⟨rfl, hg1, .inr ⟨2, p, tk_end (by have := HLB.out; omega), rfl⟩⟩
 · obtain rfl : r = 0 := by omega
   exact ⟨rfl, hg1, .inr ⟨12, p, tk_deep (by have := HLB.out; omega), rfl⟩⟩
 · obtain ⟨r', rfl⟩ : ∃ r', r = r' + 1 := ⟨r - 1, by omega⟩
   exact ⟨rfl, hg1, .inr ⟨4, p, tk_kind (by have := HLB.out; omega) hk, rfl⟩⟩
theorem item_any (b : List Nat) (g : Nat) (A : Option Addr) (n c : Nat) (hA : 0 < n → ∀ ad, A = some ad → ad.block ≠ g) (hb : ∀ x ∈ b, x < 256) (hn : n ≤ 2000000) : ∀ (r d p : Nat) (w : World), r + d = 16 → Rdr w g A n c p → Rd w A n c (cs b) → p ≤ n →
 Calls Tryz.prog 93 #[.pointer (some ⟨g, 0, none⟩), .int .i64 (d : Int)] w (Itemed b r p g A n c w) := by
 intro r;induction r with
 | zero => exact fun d p w hrd h hr hp => item_step b 0 d p g A n c w hrd h hr hA hb hp hn fun r' _ _ e => by omega
 | succ r ih =>
   intro d p w hrd h hr hp;refine item_step b (r + 1) d p g A n c w hrd h hr hA hb hp hn fun r' p w e h hr hp => ?_;obtain rfl : r = r' := (by omega);have := ih (d + 1) p w (by omega) h hr hp;rwa [show ((d + 1 : Nat) : Int) = (d : Int) + 1 by omega] at this
end Go.Proofs.YthlhchaoedcdbaaGreatDoor.Cp
/- codec.harvest: the item of a tree, with lists of its own. -/
namespace Go.Proofs.YthlhchaoedcdbaaGreatDoor.Cp
open Lib (hid)
open Go.RowKit Mem Cod
def Harv (x : It) (w : World) (e : Ending) (w' : World) : Prop :=
 ∃ A c, e = .returned (.agg #[.int .i64 x.kind, .int .u64 (x.num : Int), .string x.str, .slice A x.kids.length c]) ∧ Whole w' w.heap.size x A c ∧ Below w.heap.size w w'
def HarvRel (w : World) (l : List It) (parts i : Value) (wr : World) : Prop :=
 ∃ (k : Nat) (V : Option Addr) (cv : Nat) (hs : List Hung), k ≤ l.length ∧ i = .int .i64 k ∧ parts = .slice V k cv ∧ wr.ownsRow w.heap.size 57 4 (.slice V k cv) k (cells4 hs) ∧ hs.map (·.x) = l.take k ∧ Below w.heap.size w wr ∧
  ∀ h ∈ hs, Lies wr (fun b => w.heap.size ≤ b ∧ some b ≠ (Value.slice V k cv).ownBlock) h.x h.A h.c
theorem blk4_soft {w : World} {g : Nat} {t : TypeId} {a b c d : Value} (h : Blk w g t #[a, b, c, d]) : w.frozen? ⟨g, 0, none⟩ = false ∧ w.frozen? ⟨g, 1, none⟩ = false ∧ w.frozen? ⟨g, 2, none⟩ = false ∧ w.frozen? ⟨g, 3, none⟩ = false :=
 ⟨h.soft 0, h.soft 1, h.soft 2, h.soft 3⟩
theorem item_end {x : It} {w w1 : World} {A : Option Addr} {c : Nat} (hb : Below w.heap.size w w1) (hl : Whole w1 (w.heap.size + 1) x A c) (hk : Blk w1 w.heap.size 57 #[.int .i64 0, .int .u64 0, .string ⟨#[]⟩, .slice none 0 0]) :
 Harv x w (.returned (.agg #[.int .i64 x.kind, .int .u64 (x.num : Int), .string x.str, .slice A x.kids.length c])) ((((w1.setCell ⟨w.heap.size, 0, none⟩ (.int .i64 x.kind)).setCell ⟨w.heap.size, 1, none⟩ (.int .u64 (x.num : Int))).setCell ⟨w.heap.size, 2, none⟩ (.string x.str)).setCell ⟨w.heap.size, 3, none⟩ (.slice A x.kids.length c)) := by
 obtain ⟨_, hg⟩ := blk4_set hk (.int .i64 x.kind) (.int .u64 (x.num : Int)) (.string x.str) (.slice A x.kids.length c);refine ⟨A, c, rfl, (hl.grown hg fun b hb => by simp; omega).more fun b hb _ => by omega, hb.trans (gr_below hg hb.size fun b hb => by cases hb; exact Nat.le_refl _)⟩
theorem own_row4 {w : World} {base : Nat} {V : Option Addr} {n c : Nat} {hs : List Hung} {S : Nat → Prop} (h : w.ownsRow base 57 4 (.slice V n c) n (cells4 hs)) (hS : ∀ b, base ≤ b → S b) (hL : ∀ h ∈ hs, Lies w S h.x h.A h.c) :
 Row w S V n c (hs.map (·.x)) := by
 have hl := h.1;rw [length_cells4] at hl;rcases h.2 with ⟨e, h0⟩ | ⟨g, cap, cur, e, hb, hg, hnc, hm, hs', ht⟩
 · cases e
   exact Row.of_hung (by omega) ⟨Nat.le_refl _, by omega, fun _ => rfl⟩ hL fun h => by omega
 · cases e
   unfold maxLen at hm;exact Row.of_hung (by omega) ⟨hnc, by omega, fun e => by cases e⟩ hL fun _ => ⟨⟨g, 0, none⟩, rfl, hS _ hb, (Array.getElem?_eq_some_iff.1 hg).1, h.cells (g := g) rfl⟩
set_option maxRecDepth 20000 in
theorem harvest_num (n : Nat) (w : World) (hn : n ≤ 18446744073709551615) : Calls Tryz.prog 94 #[.iface 163 (.int .u64 (n : Int))] w (Harv (.mk 0 n ByteArray.empty []) w) := by
 have a1 := as_num_num;go_enter Tryz.func94, Tryz.ntmps94
 go_wp2_with fail
 refine (num_any n _).mono ?_;rintro e w1 ⟨rfl, hb⟩;have hk := (Blk.new w 57 #[.int .i64 0, .int .u64 0, .string ⟨#[]⟩, .slice none 0 0]).bel hb;obtain ⟨c0, c1, c2, c3⟩ := blk4 hk;obtain ⟨z0, z1, z2, z3⟩ := blk4_soft hk;go_wp2_with fail
 refine bodyPost_ret (v := .agg #[.int .i64 0, .int .u64 (n : Int), .string ByteArray.empty, .slice none 0 0]) (by simp [results, Tryz.results94, go_sem, c0, c1, c2, c3]) rfl ?_;exact item_end (x := .mk 0 n ByteArray.empty []) ((bel_alloc (Below.refl _ _) _).trans (hb.mono (by rw [size_alloc]; omega))) (Whole.bare (Row.lies (l := []) (m := 0) ⟨rfl, ⟨by omega, by omega, fun _ => rfl⟩, fun i y h => by simp at h⟩ (by omega) hn (by show (0 : Nat) ≤ _; omega)) rfl) hk
set_option maxRecDepth 20000 in
theorem harvest_text (s : ByteArray) (w : World) (hn : s.size ≤ 140737488355328) : Calls Tryz.prog 94 #[.iface 164 (.string s)] w (Harv (.mk 1 0 s []) w) := by
 have a1 := as_text_num;have a2 := as_text_text;go_enter Tryz.func94, Tryz.ntmps94
 go_wp2_with fail
 refine (text_any s _).mono ?_;rintro e w1 ⟨rfl, hb⟩;have hk := (Blk.new w 57 #[.int .i64 0, .int .u64 0, .string ⟨#[]⟩, .slice none 0 0]).bel hb;obtain ⟨c0, c1, c2, c3⟩ := blk4 hk;obtain ⟨z0, z1, z2, z3⟩ := blk4_soft hk;go_wp2_with fail
 refine bodyPost_ret (v := .agg #[.int .i64 1, .int .u64 0, .string s, .slice none 0 0]) (by simp [results, Tryz.results94, go_sem, c0, c1, c2, c3]) rfl ?_;exact item_end (x := .mk 1 0 s []) ((bel_alloc (Below.refl _ _) _).trans (hb.mono (by rw [size_alloc]; omega))) (Whole.bare (Row.lies (l := []) (m := 0) ⟨rfl, ⟨by omega, by omega, fun _ => rfl⟩, fun i y h => by simp at h⟩ (by omega) (by omega) hn) rfl) hk
set_option maxRecDepth 20000 in
set_option maxHeartbeats 4000000 in
theorem harvest_list (l : List It) (A : Option Addr) (cl : Nat) (S : Nat → Prop) (w : World) (hx : IsNode w S (.mk 2 0 ByteArray.empty l) (.iface 166 (.slice A l.length cl))) (hS : ∀ b, S b → b < w.heap.size) (hlen : l.length ≤ 2000000)
 (ih : ∀ (y : It) (u : Value) (w' : World), y ∈ l → IsNode w' S y u → w.heap.size ≤ w'.heap.size → Calls Tryz.prog 94 #[u] w' (Harv y w')) :
 Calls Tryz.prog 94 #[.iface 166 (.slice A l.length cl)] w (Harv (.mk 2 0 ByteArray.empty l) w) := by
 obtain ⟨i0, hi, hz0, hz1, hz2⟩ := info_parts info25;have HX := hid hx;have HS := hid hS;have IH := hid ih;clear hx hS ih;have a1 := as_list_num;have a2 := as_list_text;have a3 := as_list;go_enter Tryz.func94, Tryz.ntmps94
 go_wp2_with fail
 have hk0 := Blk.new w 57 #[.int .i64 0, .int .u64 0, .string ⟨#[]⟩, .slice none 0 0];have hw0 : Below w.heap.size w (w.alloc (.cells #[.int .i64 0, .int .u64 0, .string ⟨#[]⟩, .slice none 0 0] 57)) := bel_alloc (Below.refl _ _) _;have hsz0 : (w.alloc (.cells #[.int .i64 0, .int .u64 0, .string ⟨#[]⟩, .slice none 0 0] 57)).heap.size = w.heap.size + 1 := size_alloc _ _
 have hst : HarvRel (w.alloc (.cells #[.int .i64 0, .int .u64 0, .string ⟨#[]⟩, .slice none 0 0] 57)) l (.slice none 0 0) (.int .i64 0) (w.alloc (.cells #[.int .i64 0, .int .u64 0, .string ⟨#[]⟩, .slice none 0 0] 57)) :=
  ⟨0, none, 0, [], Nat.zero_le _, rfl, rfl, ⟨rfl, .inl ⟨rfl, rfl⟩⟩, by simp, Below.refl _ _, fun h hh => by simp at hh⟩
 generalize (w.alloc (.cells #[.int .i64 0, .int .u64 0, .string ⟨#[]⟩, .slice none 0 0] 57)) = w0 at hk0 hw0 hsz0 hst ⊢;have HK0 := hid hk0;have HW0 := hid hw0;have HSZ0 := hid hsz0;clear hk0 hw0 hsz0;go_loopw [7, 29] (HarvRel w0 l) (fun _ i _ => l.length - (intOf i).toNat)
 case atStart => exact hst
 case round =>
  clear hst;obtain ⟨k, V, cv, hs, hk, rfl, rfl, hown, hmap, hbw, hlies⟩ := hrel;have HO := hid hown;have HM := hid hmap;have HB := hid hbw;have HLS := hid hlies;clear hown hmap hbw hlies;have hsr : w.heap.size + 1 ≤ wr.heap.size := by have := HB.out.size; have := HSZ0.out; omega
  by_cases hlt : k < l.length
  · obtain ⟨ad, cc, u, e, hSb, hblk, hcell, hnu⟩ := ((node_eq _ _ _ _).1 HX.out).2 k hlt
    simp only [It.kids] at e hnu;injection e with _ e;injection e with e1 _ e2;subst e1;subst e2;have hbw2 : Below w.heap.size w wr := HW0.out.trans (HB.out.mono (by have := HSZ0.out; omega));have hc : wr.cell? (ad.add k) = some u := (hbw2.cell (by rw [add_block]; exact HS.out _ hSb)).trans hcell;have HC := hid hcell;have HNU := hid (hnu.below (S' := S) hbw2 fun b hb _ => ⟨HS.out b hb, hb⟩);clear hcell hnu hbw2;go_wp2_with fail
    refine (IH.out l[k] u wr (List.getElem_mem hlt) HNU.out (by omega)).mono ?_;rintro e w4 ⟨A4, c4, rfl, hl4, hb4⟩;have HL4 := hid hl4.lies;have HB4 := hid hb4;have hs4 : wr.heap.size ≤ w4.heap.size := hb4.size;clear hl4 hb4;generalize hy : l[k] = y at HL4;have HY := hid hy;clear hy HNU;have hown4 : w4.ownsRow w0.heap.size 57 4 (.slice V k cv) k (cells4 hs) := HO.out.kept (below_gr HB4.out none) (by cases (Value.slice V k cv).ownBlock <;> simp);have HNB := hid (World.news_of_block (Blk.new w4 57 #[.int .i64 y.kind, .int .u64 (y.num : Int), .string y.str, .slice A4 y.kids.length c4]));go_wp2_with (at_builtin; refine wpList_append_lies _ rfl (.tmp 33) (.tmp 36) 55 rfl w0.heap.size 57 i0 _ 4 56 Tryz.underlying55 hi hz0 hz1 hz2 rfl (by omega) (.slice V k cv) k (cells4 hs) rfl (hown4.alloc _) ⟨w4.heap.size, 0, none⟩ 1 1 [.int .i64 y.kind, .int .u64 (y.num : Int), .string y.str, .slice A4 y.kids.length c4] rfl rfl HNB.out (by intro u hu; simp at hu; rcases hu with rfl | rfl | rfl | rfl <;> rfl) (by omega) (by unfold maxLen; omega) (by omega) (by rw [size_alloc]; have := HSZ0.out; omega) (w4.heap.size + 1) (by rw [size_alloc]) ?_; intro g' cap' w7 hown7 hgr7 hat7 hlt7)
    have hs7 : w4.heap.size + 1 ≤ w7.heap.size := by have := hgr7.size; rw [size_alloc] at this; exact this
    have hg'5 : ∀ b, b < w4.heap.size → some b ≠ (Value.slice V k cv).ownBlock → some b ≠ (Value.slice (some ⟨g', 0, none⟩) (k + 1) cap').ownBlock := by
     intro b hb hne e;have e' : b = g' := (by simpa [Value.ownBlock] using e);rcases hat7 with h | h
     · exact hne (by rw [h, e'])
     · omega
    have hcell7 : ∀ b, b < w4.heap.size → some b ≠ (Value.slice V k cv).ownBlock → w7.heap[b]? = w4.heap[b]? := fun b hb hne =>
     (hgr7.block b (by rw [size_alloc]; omega) hne).trans (Below.heap_alloc _ _ b hb)
    refine ⟨⟨k + 1, _, cap', hs ++ [⟨y, A4, c4⟩], by omega, by simp, rfl, by rw [show cells4 (hs ++ [⟨y, A4, c4⟩]) = cells4 hs ++ [.int .i64 y.kind, .int .u64 (y.num : Int), .string y.str, .slice A4 y.kids.length c4] by simp [cells4, Hung.cells]]; exact hown7, ?_, ?_, ?_⟩, by simp [intOf]; omega⟩
    · rw [List.map_append, HM.out, List.map_cons, List.map_nil, ← HY.out, List.take_add_one, List.getElem?_eq_getElem hlt]
      rfl
    · refine (HB.out.trans (HB4.out.mono (by have := HSZ0.out; omega))).trans (((bel_alloc (Below.refl _ _) _).mono (by have := HSZ0.out; omega)).trans (gr_below hgr7 (by rw [size_alloc]; have := HSZ0.out; omega) fun b hb => (HO.out.lt b hb).1))
    · intro h hh
      rcases List.mem_append.1 hh with hh | hh
      · refine (HLS.out h hh).keep h.x (fun b hb hlt' => ⟨hb.1, hg'5 b (by omega) hb.2⟩) (by omega) fun p hp hlt' => ?_
        exact World.cell?_of_block ((hcell7 _ (by omega) hp.2).trans (HB4.out.block _ hlt'))
      · have : h = ⟨y, A4, c4⟩ := by simpa using hh
        subst this;refine HL4.out.keep _ (fun b hb hlt' => ⟨by have := HSZ0.out; omega, hg'5 b hlt' fun e => ?_⟩) (by omega) fun p hp hlt' => World.cell?_of_block (hcell7 _ hlt' fun e => ?_)
        · have := (HO.out.lt b e.symm).2; omega
        · have := (HO.out.lt _ e.symm).2; omega
  · obtain rfl : k = l.length := by omega
    have hk1 := HK0.out.below HB.out (by have := HSZ0.out; omega);obtain ⟨c0, c1, c2, c3⟩ := blk4 hk1;obtain ⟨z0, z1, z2, z3⟩ := blk4_soft hk1;go_wp2_with fail
    refine bodyPost_ret (v := .agg #[.int .i64 2, .int .u64 0, .string ByteArray.empty, .slice V l.length cv]) (by simp [results, Tryz.results94, go_sem, c0, c1, c2, c3]; rfl) rfl ?_;have hm := HM.out;rw [List.take_length] at hm;have hr := own_row4 (S := fun b => w.heap.size + 1 ≤ b) HO.out (fun b hb => by have := HSZ0.out; omega) fun h hh => (HLS.out h hh).more fun b hb _ => (by have := HSZ0.out; omega);rw [hm] at hr;exact item_end (x := .mk 2 0 ByteArray.empty l) (HW0.out.trans (HB.out.mono (by have := HSZ0.out; omega))) ⟨hr.lies (by omega) (by omega) (by show (0 : Nat) ≤ _; omega), hs, owns_low HO.out fun b hb _ => by have := HSZ0.out; omega, hm, fun h hh => (HLS.out h hh).more fun b hb _ => ⟨by have := HSZ0.out; omega, hb.2⟩⟩ hk1
theorem harvest_any (x : It) : ∀ (v : Value) (S : Nat → Prop) (w : World), IsNode w S x v → (∀ b, S b → b < w.heap.size) → wt x ≤ 2000000 → Calls Tryz.prog 94 #[v] w (Harv x w) := by
 induction x using It.ind with
 | h x ih =>
 intro v S w hx hS hn;rcases ((node_eq _ _ _ _).1 hx).1 with ⟨e, h1, rfl⟩ | ⟨e, h1, rfl⟩ | ⟨e, A, cl, rfl, h1, h2, h3⟩
 · have := harvest_num x.num w h1
   rwa [← e] at this
 · have := harvest_text x.str w h1
   rwa [← e] at this
 · have hx' := hx
   rw [e] at hx'
   have hlen : x.kids.length ≤ 2000000 := by
    have := wt_eq x;have := length_wts x.kids;omega
   have := harvest_list x.kids A cl S w hx' hS hlen fun y u w' hy hnu hs => ih y hy u S w' hnu (fun b hb => by have := hS b hb; omega) (by
    have := wt_mem hy;have := wt_eq x;omega)
   rwa [← e] at this
end Go.Proofs.YthlhchaoedcdbaaGreatDoor.Cp
/- codec.Get: the item that bytes are, or what is wrong with them, and where; a fault goes up by a panic, and is caught. -/
namespace Go.Proofs.YthlhchaoedcdbaaGreatDoor.Cp
open Lib (hid)
open Go.RowKit Mem Cod
def GetDone (b : List Nat) (bx : Nat) (w : World) (e : Ending) (w' : World) : Prop :=
 (∃ x, get b = .ok x 0 ∧ e = .returned (.tuple #[]) ∧ w.grownBy w' (some bx) ∧ ∃ A c, Blk w' bx 57 #[.int .i64 x.kind, .int .u64 (x.num : Int), .string x.str, .slice A x.kids.length c] ∧ Whole w' w.heap.size x A c) ∨
 (∃ er q, get b = .bad er q ∧ e = .panicked (flt er q) ∧ Below w.heap.size w w')
set_option maxRecDepth 20000 in
set_option maxHeartbeats 2000000 in
theorem get1_any (b : List Nat) (A : Option Addr) (n c bb bx : Nat) (w : World) (hbb : Blk w bb 35 #[.slice A n c]) (hbx : Blk w bx 57 #[.int .i64 0, .int .u64 0, .string ⟨#[]⟩, .slice none 0 0])
 (hr : Rd w A n c (cs b)) (hb : ∀ x ∈ b, x < 256) (hn : n ≤ 1000000) :
 Calls Tryz.prog 91 #[.pointer (some ⟨bb, 0, none⟩), .pointer (some ⟨bx, 0, none⟩)] w (GetDone b bx w) := by
 have hlb := hr.len;rw [length_cs] at hlb;have c0 : w.cell? ⟨bb, 0, none⟩ = some (.slice A n c) := hbb.cell 0;have hltx := hbx.lt;have hltb := hbb.lt;have hgt : decide ((1048576 : Int) < n) = false := by simp; omega
 have hA : 0 < n → ∀ ad, A = some ad → ad.block ≠ w.heap.size := fun h0 ad e => by
  obtain ⟨ad', e', hb', _⟩ := hr.spot h0;cases e.symm.trans e';omega
 have HBB := hid hbb;have HBX := hid hbx;have HR := hid hr;have HB := hid hb;have HA := hid hA;have HLB := hid hlb;clear hbb hbx hr hb hA hlb;go_enter Tryz.func91, Tryz.ntmps91
 go_wp2_with fail
 have hrn : Rdr (w.alloc (.cells #[.slice A n c, .int .i64 0] 121)) w.heap.size A n c 0 := Blk.new w _ _;refine (item_any b w.heap.size A n c HA.out HB.out (by omega) 16 0 0 _ rfl hrn (HR.out.alloc _) (Nat.zero_le _)).mono ?_;rintro e w2 ⟨hg2, ⟨x, q, v, htk, rfl, hnv, hrd⟩ | ⟨er, q, htk, rfl⟩⟩
 · have hgood := tk_good HB.out (by have := HLB.out; omega) 16 0 x q (by omega) htk
   have hq : q ≤ n := by have := hgood.2.2.2.1; have := HLB.out; omega
   have hwt : wt x ≤ 2000000 := by
    have h1 := wt_le_form x _ hgood.1;rw [hgood.2.2.2.2, seg, List.length_take] at h1;omega
   have c1 : w2.cell? ⟨w.heap.size, 1, none⟩ = some (.int .i64 (q : Int)) := Blk.cell hrd 1;have hs2 : w.heap.size + 1 ≤ w2.heap.size := (by have := hg2.size; rw [size_alloc] at this; exact this);have hb2 : Below w.heap.size w w2 := (bel_alloc (Below.refl _ _) _).trans (gr_below hg2 (by rw [size_alloc]; omega) fun b hb => by cases hb; exact Nat.le_refl _);have c2 : w2.cell? ⟨bb, 0, none⟩ = some (.slice A n c) := (hb2.cell hltb).trans c0;have HT := hid htk;have HB2 := hid hb2;have HNV := hid (hnv.keep (S' := fun b => b < w2.heap.size) x (fun b _ h => h) (Nat.le_refl _) fun _ _ _ => rfl);clear hgood htk hb2 hnv hg2;by_cases hlt : q < n
   · have hltb : decide ((q : Int) < n) = true := by simp; omega
     go_wp2_with fail
     refine (fail_3p q _).mono ?_;rintro e w3 ⟨rfl, rfl⟩;refine ⟨rfl, .inr ⟨3, q, ?_, rfl, HB2.out⟩⟩;rw [Cod.get, if_neg (by have := HLB.out; omega), HT.out];simp only;rw [if_pos (by have := HLB.out; omega)]
   · have hltb : decide ((q : Int) < n) = false := by simp; omega
     go_wp2_with fail
     refine (harvest_any x v _ w2 HNV.out (fun b h => h) hwt).mono ?_;rintro e w3 ⟨A3, c3, rfl, hl3, hb3⟩;have hbx3 := HBX.out.below (HB2.out.trans (hb3.mono (by omega))) hltx;obtain ⟨d0, d1, d2, d3⟩ := blk4 hbx3;obtain ⟨z0, z1, z2, z3⟩ := blk4_soft hbx3;have HL3 := hid hl3;have HB3 := hid hb3;clear hl3 hb3;go_wp2_with fail
     go_end0
     obtain ⟨hk, hg⟩ := blk4_set hbx3 (.int .i64 x.kind) (.int .u64 (x.num : Int)) (.string x.str) (.slice A3 x.kids.length c3);refine .inl ⟨x, ?_, rfl, ?_, A3, c3, hk, ?_⟩
     · rw [Cod.get, if_neg (by have := HLB.out; omega), HT.out]
       simp only;rw [if_neg (by have := HLB.out; omega)]
     · exact (below_gr (HB2.out.trans (HB3.out.mono (by omega))) _).trans hg
     · exact (HL3.out.grown hg fun b hb => by simp; omega).more fun b hb _ => by omega
 · refine ⟨rfl, .inr ⟨er, q, ?_, rfl, ?_⟩⟩
   · rw [Cod.get, if_neg (by have := HLB.out; omega), htk]
   · exact (bel_alloc (Below.refl _ _) _).trans (gr_below hg2 (by rw [size_alloc]; omega) fun b hb => by cases hb; exact Nat.le_refl _)
def getX (b : List Nat) : It := match Cod.get b with | .ok x _ => x | .bad _ _ => .mk 0 0 ByteArray.empty []
def getE (b : List Nat) : Nat := match Cod.get b with | .ok _ _ => 0 | .bad e _ => e
def getP (b : List Nat) : Nat := match Cod.get b with | .ok _ _ => 0 | .bad _ p => p
theorem get_parts_ok {b : List Nat} {x : It} {q : Nat} (h : Cod.get b = .ok x q) : getX b = x ∧ getE b = 0 ∧ getP b = 0 := by simp [getX, getE, getP, h]
theorem get_parts_bad {b : List Nat} {e p : Nat} (h : Cod.get b = .bad e p) : getX b = .mk 0 0 ByteArray.empty [] ∧ getE b = e ∧ getP b = p := by simp [getX, getE, getP, h]
def GetIs (b : List Nat) (w : World) (e : Ending) (w' : World) : Prop :=
 ∃ A c, e = .returned (.tuple #[.agg #[.int .i64 (getX b).kind, .int .u64 ((getX b).num : Int), .string (getX b).str, .slice A (getX b).kids.length c], .int .i64 (getE b : Int), .int .i64 (getP b : Int)]) ∧ Lies w' (fun b => w.heap.size ≤ b) (getX b) A c ∧ Below w.heap.size w w'
def GetsW (b : List Nat) (w : World) (e : Ending) (w' : World) : Prop :=
 ∃ A c, e = .returned (.tuple #[.agg #[.int .i64 (getX b).kind, .int .u64 ((getX b).num : Int), .string (getX b).str, .slice A (getX b).kids.length c], .int .i64 (getE b : Int), .int .i64 (getP b : Int)]) ∧ Whole w' w.heap.size (getX b) A c ∧ Below w.heap.size w w'
def GetOk (b : List Nat) (w : World) (w' : World) : Prop :=
 ∃ x, Cod.get b = .ok x 0 ∧ Below w.heap.size w w' ∧ w.heap.size + 2 < w'.heap.size ∧ ∃ A c, Blk w' (w.heap.size + 1) 57 #[.int .i64 x.kind, .int .u64 (x.num : Int), .string x.str, .slice A x.kids.length c] ∧ Whole w' (w.heap.size + 3) x A c
def GetNo (b : List Nat) (w : World) (a p : Nat) (w' : World) : Prop :=
 Cod.get b = .bad a p ∧ Below w.heap.size w w' ∧ w.heap.size + 2 < w'.heap.size ∧ Blk w' (w.heap.size + 1) 57 #[.int .i64 0, .int .u64 0, .string ⟨#[]⟩, .slice none 0 0]
theorem getdone_does {b : List Nat} {w : World} {e : Ending} {w' : World} {o1 : Obj} (h : GetDone b (w.heap.size + 1) (((w.alloc o1).alloc (.cells #[.int .i64 0, .int .u64 0, .string ⟨#[]⟩, .slice none 0 0] 57)).alloc (.cells #[.int .i64 0, .int .i64 0] 117)) e w') :
 Does ((w.alloc o1).alloc (.cells #[.int .i64 0, .int .u64 0, .string ⟨#[]⟩, .slice none 0 0] 57)) (GetOk b w) (GetNo b w) e w' := by
 have hf : Blk (((w.alloc o1).alloc (.cells #[.int .i64 0, .int .u64 0, .string ⟨#[]⟩, .slice none 0 0] 57)).alloc (.cells #[.int .i64 0, .int .i64 0] 117)) (w.heap.size + 2) 117 #[.int .i64 0, .int .i64 0] := by
  have := Blk.new ((w.alloc o1).alloc (.cells #[.int .i64 0, .int .u64 0, .string ⟨#[]⟩, .slice none 0 0] 57)) 117 #[.int .i64 0, .int .i64 0];simpa only [size_alloc] using this
 have hb0 : Blk (((w.alloc o1).alloc (.cells #[.int .i64 0, .int .u64 0, .string ⟨#[]⟩, .slice none 0 0] 57)).alloc (.cells #[.int .i64 0, .int .i64 0] 117)) (w.heap.size + 1) 57 #[.int .i64 0, .int .u64 0, .string ⟨#[]⟩, .slice none 0 0] := by
  have := (Blk.new (w.alloc o1) 57 #[.int .i64 0, .int .u64 0, .string ⟨#[]⟩, .slice none 0 0]).alloc (.cells #[.int .i64 0, .int .i64 0] 117);simpa only [size_alloc] using this
 have hw0 : Below w.heap.size w (((w.alloc o1).alloc (.cells #[.int .i64 0, .int .u64 0, .string ⟨#[]⟩, .slice none 0 0] 57)).alloc (.cells #[.int .i64 0, .int .i64 0] 117)) := bel_alloc (bel_alloc (bel_alloc (Below.refl _ _) _) _) _;have hsz0 : (((w.alloc o1).alloc (.cells #[.int .i64 0, .int .u64 0, .string ⟨#[]⟩, .slice none 0 0] 57)).alloc (.cells #[.int .i64 0, .int .i64 0] 117)).heap.size = w.heap.size + 3 := by simp only [size_alloc]
 unfold Does;simp only [size_alloc];generalize (((w.alloc o1).alloc (.cells #[.int .i64 0, .int .u64 0, .string ⟨#[]⟩, .slice none 0 0] 57)).alloc (.cells #[.int .i64 0, .int .i64 0] 117)) = W at *;rcases h with ⟨x, h0, rfl, hg, A, c, hb, hl⟩ | ⟨er, q, h0, rfl, hb⟩
 · have := hg.size
   exact ⟨by omega, hf.grown hg (by simp), .inl ⟨rfl, x, h0, hw0.trans (gr_below hg (by omega) fun b hb => by cases hb; omega), by omega, A, c, hb, hl.more fun b hb _ => by omega⟩⟩
 · have := hb.size
   exact ⟨by omega, hf.bel hb, .inr ⟨_, _, rfl, h0, hw0.trans (hb.mono (by omega)), by omega, hb0.bel hb⟩⟩
theorem call_get1 (cap : Array Value) (W : World) : (callFunc 91 cap).run Tryz.prog W = .ok (.enter 91 cap) W := by kernel_rfl
set_option maxRecDepth 20000 in
set_option maxHeartbeats 2000000 in
theorem get_whole (b : List Nat) (A : Option Addr) (n c : Nat) (w : World) (hr : Rd w A n c (cs b)) (hb : ∀ x ∈ b, x < 256) (hn : n ≤ 1000000) :
 Calls Tryz.prog 43 #[.slice A n c] w (GetsW b w) := by
 have hmf : ∀ (fn : Fn) (first cap : Array Value) (w : World), (Instr.makeFunc fn first cap).run Tryz.prog w = .ok (.func fn first cap) w := fun _ _ _ _ => rfl;have HR := hid hr;have HB := hid hb;clear hr hb;go_enter Tryz.func43, Tryz.ntmps43
 go_wp2_with fail
 refine (caught_any 91 _ _ (GetOk b w) (GetNo b w) (call_get1 _) ?_).mono ?_
 · refine (get1_any b A n c w.heap.size (w.heap.size + 1) _ (((Blk.new w _ _).alloc _).alloc _) ((by have := Blk.new (w.alloc (.cells #[.slice A n c] 35)) 57 #[.int .i64 0, .int .u64 0, .string ⟨#[]⟩, .slice none 0 0]; rw [size_alloc] at this; exact this.alloc _))
    (((HR.out.alloc _).alloc _).alloc _) HB.out hn).mono ?_
   exact fun e w' h => getdone_does h
 simp only [Caught, size_alloc];rintro e w2 ⟨a, p, w1, rfl, hg, h⟩;rcases h with ⟨rfl, rfl, x, h0, hbl, hs, A1, c1, hb1, hl1⟩ | ⟨h0, hbl, hs, hb1⟩
 · have hb2 := hb1.grown hg (by simp)
   have hl2 := hl1.grown hg fun b hb => (by simp; omega);have hbw : Below w.heap.size w w2 := hbl.trans (gr_below hg (by omega) fun b hb => by cases hb; omega);have hs2 : w.heap.size + 2 < w2.heap.size := (by have := hg.size; omega);obtain ⟨d0, d1, d2, d3⟩ := blk4 (hb2.alloc (.cells #[.int .i64 0, .int .i64 0] 117));obtain ⟨z0, z1, z2, z3⟩ := blk4_soft (hb2.alloc (.cells #[.int .i64 0, .int .i64 0] 117));have HB2 := hid hb2;have H0 := hid h0;have HL2 := hid hl2;have HBW := hid hbw;clear hb1 hl1 hbl hs hg h0 hl2 hbw hb2;go_wp2_with fail
   go_region;go_wp2_with fail
   have hp := get_parts_ok H0.out;obtain ⟨hk, hgr⟩ := blk4_set (HB2.out.alloc (.cells #[.int .i64 0, .int .i64 0] 117)) (.int .i64 x.kind) (.int .u64 (x.num : Int)) (.string x.str) (.slice A1 x.kids.length c1);have hl3 := (HL2.out.alloc (.cells #[.int .i64 0, .int .i64 0] 117)).grown hgr fun b hb => (by simp; omega);have hb3 : Below w.heap.size w _ := (bel_alloc HBW.out (.cells #[.int .i64 0, .int .i64 0] 117)).trans (gr_below hgr (by rw [size_alloc]; omega) fun b hb => by cases hb; omega);generalize (((((w2.alloc (.cells #[.int .i64 0, .int .i64 0] 117)).setCell ⟨w.heap.size + 1, 0, none⟩ (.int .i64 x.kind)).setCell ⟨w.heap.size + 1, 1, none⟩ (.int .u64 (x.num : Int))).setCell ⟨w.heap.size + 1, 2, none⟩ (.string x.str)).setCell ⟨w.heap.size + 1, 3, none⟩ (.slice A1 x.kids.length c1)) = w3 at hk hl3 hb3 ⊢;obtain ⟨e0, e1, e2, e3⟩ := blk4 (show Blk w3.drew (w.heap.size + 1) 57 #[.int .i64 x.kind, .int .u64 (x.num : Int), .string x.str, .slice A1 x.kids.length c1] from hk);refine bodyPost_ret (v := .tuple #[.agg #[.int .i64 x.kind, .int .u64 (x.num : Int), .string x.str, .slice A1 x.kids.length c1], .int .i64 0, .int .i64 0]) (by simp [results, Tryz.results43, go_sem, e0, e1, e2, e3]) rfl ?_;refine ⟨A1, c1, by rw [hp.1, hp.2.1, hp.2.2]; rfl, ?_, hb3.drew⟩;rw [hp.1];exact (hl3.more fun b hb _ => by omega).drew
 · have hb2 := hb1.grown hg (by simp)
   have hbw : Below w.heap.size w w2 := hbl.trans (gr_below hg (by omega) fun b hb => by cases hb; omega);have hs2 : w.heap.size + 2 < w2.heap.size := (by have := hg.size; omega);obtain ⟨d0, d1, d2, d3⟩ := blk4 (hb2.alloc (.cells #[.int .i64 (a : Int), .int .i64 (p : Int)] 117));obtain ⟨z0, z1, z2, z3⟩ := blk4_soft (hb2.alloc (.cells #[.int .i64 (a : Int), .int .i64 (p : Int)] 117));have HB2 := hid hb2;have H0 := hid h0;have HBW := hid hbw;clear hb1 hbl hs hg h0 hbw hb2;go_wp2_with fail
   go_region;go_wp2_with fail
   have hp := get_parts_bad H0.out;obtain ⟨hk, hgr⟩ := blk4_set (HB2.out.alloc (.cells #[.int .i64 (a : Int), .int .i64 (p : Int)] 117)) (.int .i64 0) (.int .u64 0) (.string ⟨#[]⟩) (.slice none 0 0);have hb3 : Below w.heap.size w _ := (bel_alloc HBW.out (.cells #[.int .i64 (a : Int), .int .i64 (p : Int)] 117)).trans (gr_below hgr (by rw [size_alloc]; omega) fun b hb => by cases hb; omega);generalize (((((w2.alloc (.cells #[.int .i64 (a : Int), .int .i64 (p : Int)] 117)).setCell ⟨w.heap.size + 1, 0, none⟩ (.int .i64 0)).setCell ⟨w.heap.size + 1, 1, none⟩ (.int .u64 0)).setCell ⟨w.heap.size + 1, 2, none⟩ (.string ⟨#[]⟩)).setCell ⟨w.heap.size + 1, 3, none⟩ (.slice none 0 0)) = w3 at hk hb3 ⊢;obtain ⟨e0, e1, e2, e3⟩ := blk4 (show Blk w3.drew (w.heap.size + 1) 57 #[.int .i64 0, .int .u64 0, .string ⟨#[]⟩, .slice none 0 0] from hk);refine bodyPost_ret (v := .tuple #[.agg #[.int .i64 0, .int .u64 0, .string ⟨#[]⟩, .slice none 0 0], .int .i64 (a : Int), .int .i64 (p : Int)]) (by simp [results, Tryz.results43, go_sem, e0, e1, e2, e3]) rfl ?_;refine ⟨none, 0, by rw [hp.1, hp.2.1, hp.2.2]; rfl, ?_, hb3.drew⟩;rw [hp.1];exact Whole.bare (Row.lies (l := []) (m := 0) ⟨rfl, ⟨by omega, by omega, fun _ => rfl⟩, fun i y h => by simp at h⟩ (by omega) (by omega) (by show (0 : Nat) ≤ _; omega)) rfl
theorem rows_bad_ne {f : Nat → Res It} (hf : ∀ p e q, f p = .bad e q → e ≠ 0) : ∀ k p e q, rows f k p = .bad e q → e ≠ 0 := by
 intro k;induction k with
 | zero => intro p e q h; rw [rows] at h; cases h
 | succ k ih =>
   intro p e q h;rw [rows] at h;cases hr : rows f k p with
   | bad e' q' => rw [hr] at h; cases h; exact ih _ _ _ hr
   | ok xs q' =>
     rw [hr] at h;simp only at h;cases hq : f q' with
     | bad e2 q2 => rw [hq] at h; cases h; exact hf _ _ _ hq
     | ok x q2 => rw [hq] at h; cases h
theorem tk_bad_ne (b : List Nat) : ∀ r p e q, tk b r p = .bad e q → e ≠ 0 := by
 intro r;induction r with
 | zero => intro p e q h; rw [tk] at h; split at h <;> cases h <;> omega
 | succ r ih =>
   intro p e q h;rw [tk] at h;split at h
   · cases h; omega
   rw [one] at h;split at h
   · cases h; omega
   split at h
   · rename_i h1; cases h; exact h1
   rw [body] at h;split at h
   · cases h
   split at h
   · cases h; omega
   split at h
   · cases h
   revert h
   split
   · rename_i hr
     intro h;cases h;exact rows_bad_ne ih _ _ _ _ hr
   · intro h; cases h
theorem get_bad_ne {b : List Nat} {e q : Nat} (h : Cod.get b = .bad e q) : e ≠ 0 := by
 rw [Cod.get] at h;split at h
 · cases h; omega
 cases ht : tk b 16 0 with
 | bad e' p => rw [ht] at h; cases h; exact tk_bad_ne _ _ _ _ _ ht
 | ok x p =>
   rw [ht] at h;simp only at h;split at h <;> cases h;omega
end Go.Proofs.YthlhchaoedcdbaaGreatDoor.Cp
