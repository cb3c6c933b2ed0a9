/-
  Texts of earlier layers, as one.
-/
import Derived.Test.YthlhchaoedcdbaaGreatDoorRIdsI
import Derived.BigRegion
import Derived.Deep.Cut
/- The document's Take of any item: the set whose item that is, or none. -/
namespace Go.Proofs.YthlhchaoedcdbaaGreatDoor
open Lib (hid)
open Go.RowKit Mem Ids Cod Go.Sort
theorem toList_nil {s : ByteArray} (h : s.toList = []) : s = ByteArray.empty := by
 have h1 := eq_tell s ByteArray.empty;rw [h, show ByteArray.empty.toList = [] by simp [ByteArray.toList, ByteArray.toList.loop]] at h1;have h2 := of_decide_eq_true (h1.symm.trans rfl);exact bts_inj h2
def RtCut (B : Nat) (w : World) (a b : Array Value) (v6 v7 y2 y3 y4 y5 : Value) (wx : World) : Prop :=
 ∃ p q, v6 = .pointer (some ⟨p, 0, none⟩) ∧ v7 = .pointer (some ⟨q, 0, none⟩) ∧ B ≤ p ∧ B ≤ q ∧ Blk wx p 57 a ∧ Blk wx q 57 b ∧ Below B w wx ∧ y2 = undef ∧ y3 = undef ∧ y4 = undef ∧ y5 = undef
theorem rt_two (w : World) (t : TypeId) (a b : Array Value) : Blk ((w.alloc (.cells a t)).alloc (.cells b t)).drew w.heap.size t a ∧ Blk ((w.alloc (.cells a t)).alloc (.cells b t)).drew (w.heap.size + 1) t b ∧ Below w.heap.size w ((w.alloc (.cells a t)).alloc (.cells b t)).drew := by
 refine ⟨((Blk.new w t a).alloc _).drew, ?_, Below.drew (((Below.refl w.heap.size w).alloc (Nat.le_refl _) _).alloc (by rw [size_alloc]; omega) _)⟩;have h := (Blk.new (w.alloc (.cells a t)) t b).drew;rwa [size_alloc] at h
theorem okp_mk {k1 k2 : Int} {n1 n2 : Nat} {s1 s2 : ByteArray} {l1 l2 : List It} : okp (.mk k1 n1 s1 l1) (.mk k2 n2 s2 l2) ↔ (k1 = 0 ∧ k2 = 0 ∧ s1 = ByteArray.empty ∧ s2 = ByteArray.empty ∧ l1.length = 0 ∧ l2.length = 0 ∧ n1 ≤ 6 ∧ n2 ≤ 1099511627776) := by
 unfold okp;constructor
 · rintro ⟨h1, h2, h3, h4⟩
   injection h1 with e1 e2 e3 e4;injection h2 with e5 e6 e7 e8;exact ⟨e1, e5, e3, e7, by rw [e4]; rfl, by rw [e8]; rfl, h3, h4⟩
 · rintro ⟨e1, e5, e3, e7, e4, e8, h3, h4⟩
   rw [e1, e5, e3, e7, List.eq_nil_of_length_eq_zero e4, List.eq_nil_of_length_eq_zero e8];exact ⟨rfl, rfl, h3, h4⟩
def RtRel (ks : List It) (B : Nat) (w : World) (v4 vk : Value) (wr : World) : Prop :=
 ∃ (k K : Nat) (V : Option Addr) (c : Nat), v4 = .slice V k c ∧ vk = .int .i64 K ∧ 2 * k = K ∧ K ≤ ks.length ∧ its (pairs (ks.take K)) = ks.take K ∧ wr.ownsRow B 23 2 (.slice V k c) k (cells (pairs (ks.take K))) ∧ Below B w wr
set_option maxRecDepth 100000 in
set_option maxHeartbeats 4000000 in
theorem reftake_new (x : It) (A : Option Addr) (c : Nat) (S : Nat → Prop) (w : World) (hl : Lies w S x A c) (hS : ∀ b, S b → b < w.heap.size) :
 Calls Tryz.prog 121 #[.agg #[.int .i64 x.kind, .int .u64 (x.num : Int), .string x.str, .slice A x.kids.length c]] w (TakesNew w (takeOf x)) := by
 obtain ⟨i0, hi, hz0, hz1, hz2⟩ := info_parts infoId;obtain ⟨b1, b2, b3, b4, b5, b6⟩ := hl.bounds;have hhd : ¬ (x.kind = 2 ∧ x.num = 0 ∧ x.str = ByteArray.empty ∧ x.kids.length % 2 = 0 ∧ x.kids.length ≤ 8192) → takeOf x = none := take_none_head;have hen : (x.kind = 2 ∧ x.num = 0 ∧ x.str = ByteArray.empty ∧ x.kids.length ≤ 8192) → its (pairs x.kids) = x.kids → takeOf x = if Ids.chk (pairs x.kids) = true then some (pairs x.kids) else none := take_end
 obtain ⟨kd, hkd⟩ : ∃ v, x.kind = v := ⟨_, rfl⟩
 obtain ⟨nm, hnm⟩ : ∃ v, x.num = v := ⟨_, rfl⟩
 obtain ⟨st, hst⟩ : ∃ v, x.str = v := ⟨_, rfl⟩
 rw [hkd, hnm, hst] at hhd hen ⊢;rw [hkd] at b1 b2;rw [hnm] at b3;rw [hst] at b4;have HBX := hid (Blk.new w 57 #[.int .i64 kd, .int .u64 (nm : Int), .string st, .slice A x.kids.length c]);have HB0 := hid (bel_alloc (Below.refl w.heap.size w) (.cells #[.int .i64 kd, .int .u64 (nm : Int), .string st, .slice A x.kids.length c] 57));have hs0 := size_alloc w (.cells #[.int .i64 kd, .int .u64 (nm : Int), .string st, .slice A x.kids.length c] 57);have HL := hid (hl.alloc (.cells #[.int .i64 kd, .int .u64 (nm : Int), .string st, .slice A x.kids.length c] 57));have HSS := hid hS;obtain ⟨n, hn⟩ : ∃ n, x.kids.length = n := ⟨_, rfl⟩
 rw [hn] at HBX HB0 hs0 HL b5 hhd hen ⊢;have HN := hid hn;have HEN := hid hen;clear hl hS hn hkd hnm hst hen;obtain ⟨r, hr⟩ : ∃ r : Nat, (n : Int) % 2 = r := ⟨n % 2, by omega⟩
 go_enter Tryz.func121, Tryz.ntmps121
 by_cases c1 : kd = 2
 case neg =>
  have HNO := hid (hhd fun h => c1 h.1);clear hhd;go_wp2_with fail
  go_ret2
  rw [HNO.out];exact ⟨none, 0, 0, [], false, rfl, Rs.nil_ _, rfl, rfl, HB0.out, fun _ _ h => by cases h⟩
 subst c1;by_cases c2 : nm = 0
 case neg =>
  have HNO := hid (hhd fun h => c2 h.2.1);clear hhd;go_wp2_with fail
  go_ret2
  rw [HNO.out];exact ⟨none, 0, 0, [], false, rfl, Rs.nil_ _, rfl, rfl, HB0.out, fun _ _ h => by cases h⟩
 subst c2;have e0 : ((0 : Nat) : Int) = 0 := rfl;rw [e0] at HBX HB0 hs0 HL ⊢;clear e0;by_cases c3 : st = ByteArray.empty
 case neg =>
  have HNO := hid (hhd fun h => c3 h.2.2.1);have c3' : ¬ st.toList = [] := fun h => c3 (toList_nil h);clear hhd;go_wp2_with fail
  go_ret2
  rw [HNO.out];exact ⟨none, 0, 0, [], false, rfl, Rs.nil_ _, rfl, rfl, HB0.out, fun _ _ h => by cases h⟩
 subst c3;by_cases c4 : r = 0
 case neg =>
  have HNO := hid (hhd fun h => c4 (by omega));clear hhd;go_wp2_with fail
  go_ret2
  rw [HNO.out];exact ⟨none, 0, 0, [], false, rfl, Rs.nil_ _, rfl, rfl, HB0.out, fun _ _ h => by cases h⟩
 subst c4;by_cases c5 : 8192 < n
 case pos =>
  have HNO := hid (hhd fun h => by omega);clear hhd;go_wp2_with fail
  go_ret2
  rw [HNO.out];exact ⟨none, 0, 0, [], false, rfl, Rs.nil_ _, rfl, rfl, HB0.out, fun _ _ h => by cases h⟩
 clear hhd;go_wp2_with fail
 generalize w.alloc (.cells #[.int .i64 2, .int .u64 0, .string ByteArray.empty, .slice A n c] 57) = w1 at HBX HB0 hs0 HL ⊢;clear b1 b2 b3 b4;go_loopw [4, 5] (RtRel x.kids w1.heap.size w1) (fun _ v _ => n - (intOf v).toNat)
 case atStart => exact ⟨0, 0, none, 0, rfl, rfl, rfl, Nat.zero_le _, rfl, ⟨rfl, .inl ⟨rfl, rfl⟩⟩, Below.refl _ _⟩
 case round =>
  obtain ⟨k, K, V, cv, rfl, rfl, hk, hKn, hits, hown, hbw⟩ := hrel;have hsr := hbw.size;have hblk := HBX.out.below hbw (by omega);obtain ⟨q0, q1, q2, q3⟩ := blk4 hblk;have hn0 := HN.out;by_cases hlt : K < n
  · obtain ⟨g, o, A1, c1, rfl, hSg, hg, f0, f1, f2, f3, hl1⟩ := lies_kid HL.out (i := K) (by omega)
    obtain ⟨g', o', A2, c2, e2, -, -, f4, f5, f6, f7, hl2⟩ := lies_kid HL.out (i := K + 1) (by omega);injection e2 with e2;injection e2 with e3 e4;subst e3; subst e4;have hsn := pairs_snoc x.kids k _ _ (List.getElem?_eq_getElem (by omega)) (List.getElem?_eq_getElem (by omega));have hpn : ¬ okp x.kids[K] x.kids[K + 1] → takeOf x = none := fun h => take_none_pair (k := k) (by rw [hk]; exact List.getElem?_eq_getElem (by omega)) (by rw [hk]; exact List.getElem?_eq_getElem (by omega)) h
    have hok : okp x.kids[K] x.kids[K + 1] → its (pairs (x.kids.take (K + 2))) = x.kids.take (K + 2) := fun h => by
     have h2 := its_snoc (l := x.kids) (k := k) (by rw [hk]; exact List.getElem?_eq_getElem (by omega)) (by rw [hk]; exact List.getElem?_eq_getElem (by omega)) (by rw [hk]; exact hits) h;rwa [show 2 * (k + 1) = K + 2 by omega] at h2
    have hy1 := hl1.bounds;have hy2 := hl2.bounds;have hgS := HSS.out g hSg;obtain ⟨K1, hK1⟩ : ∃ K' : Nat, K + 1 = K' := ⟨_, rfl⟩
    have hw1 : IntKind.i64.wrap ((K : Int) + 1) = (K1 : Int) := (by rw [wrap64 (by omega) (by omega)]; omega);have hi1 : K1 < n := (by omega);simp only [show 2 * (k + 1) = K + 2 by omega, hk] at hsn;simp only [hK1] at f4 f5 f6 f7 hpn hok hy2 hsn;generalize x.kids[K] = a at f0 f1 f2 f3 hy1 hpn hok hsn;generalize x.kids[K1] = b at f4 f5 f6 f7 hy2 hpn hok hsn;clear hl1 hl2;obtain ⟨kd1, n1, s1, l1⟩ := a;obtain ⟨kd2, n2, s2, l2⟩ := b;simp only [It.kind, It.num, It.str, It.kids] at f0 f1 f2 f3 f4 f5 f6 f7 hy1 hy2 hsn;obtain ⟨m1, hm1⟩ : ∃ m, l1.length = m := ⟨_, rfl⟩
    obtain ⟨m2, hm2⟩ : ∃ m, l2.length = m := ⟨_, rfl⟩
    rw [okp_mk, hm1, hm2] at hpn hok;obtain ⟨R1, hR1⟩ : ∃ R1 : Int, w64 n1 = R1 := ⟨_, rfl⟩
    obtain ⟨R2, hR2⟩ : ∃ R2 : Int, w64 n2 = R2 := ⟨_, rfl⟩
    rw [hR1, hR2] at hsn;unfold w64 at hR1 hR2;obtain ⟨K2, hK2⟩ : ∃ K' : Nat, K + 2 = K' := ⟨_, rfl⟩
    have hw2 : IntKind.i64.wrap ((K : Int) + 2) = (K2 : Int) := (by rw [wrap64 (by omega) (by omega)]; omega);rw [hK2] at hsn hok;rw [hm1] at f3 hy1;rw [hm2] at f7 hy2;have hc : ∀ {p}, p.block = g → wr.cell? p = w1.cell? p := fun {p} hp => hbw.cell (p := p) (by omega);have d0 := (hc (p := ⟨g, o + K * 4, none⟩) rfl).trans f0;have d1 := (hc (p := ⟨g, o + K * 4 + 1, none⟩) rfl).trans f1;have d2 := (hc (p := ⟨g, o + K * 4 + 2, none⟩) rfl).trans f2;have d3 := (hc (p := ⟨g, o + K * 4 + 3, none⟩) rfl).trans f3;have d4 := (hc (p := ⟨g, o + K1 * 4, none⟩) rfl).trans f4;have d5 := (hc (p := ⟨g, o + K1 * 4 + 1, none⟩) rfl).trans f5;have d6 := (hc (p := ⟨g, o + K1 * 4 + 2, none⟩) rfl).trans f6;have d7 := (hc (p := ⟨g, o + K1 * 4 + 3, none⟩) rfl).trans f7;have hgr : g < wr.heap.size := (by omega);have hwr : w.heap.size < wr.heap.size := (by omega);have HPN := hid hpn;have HSN := hid hsn;have HO := hid hown;have HBW := hid hbw;have HK := hid (And.intro hk (And.intro hK2 (show K2 ≤ x.kids.length by omega)));have HOK := hid hok;have HR := hid (And.intro hR1 hR2);have HM := hid (And.intro hm1 hm2);clear hpn hok hR1 hR2 hsn hown hbw hk hK1 hK2 hits hc f0 f1 f2 f3 f4 f5 f6 f7 hn0 hSg hKn hm1 hm2 hblk;go_upto_region 7 with fail
    go_cut [6, 7, 102, 103, 104, 105] from 34 (RtCut wr.heap.size wr #[.int .i64 kd1, .int .u64 (n1 : Int), .string s1, .slice A1 m1 c1] #[.int .i64 kd2, .int .u64 (n2 : Int), .string s2, .slice A2 m2 c2])
    case first =>
     go_region
     · go_wp2_with fail
       go_meet
       case rel =>
        obtain ⟨z1, z2, z3⟩ := rt_two wr 57 #[.int .i64 kd1, .int .u64 (n1 : Int), .string s1, .slice A1 m1 c1] #[.int .i64 kd2, .int .u64 (n2 : Int), .string s2, .slice A2 m2 c2];exact ⟨wr.heap.size, wr.heap.size + 1, rfl, rfl, Nat.le_refl _, Nat.le_succ _, z1, z2, z3, rfl, rfl, rfl, rfl⟩
     · go_wp2_with fail
       go_meet
       case rel =>
        obtain ⟨z1, z2, z3⟩ := rt_two wr 57 #[.int .i64 kd2, .int .u64 (n2 : Int), .string s2, .slice A2 m2 c2] #[.int .i64 kd1, .int .u64 (n1 : Int), .string s1, .slice A1 m1 c1];exact ⟨wr.heap.size + 1, wr.heap.size, rfl, rfl, Nat.le_succ _, Nat.le_refl _, z2, z1, z3, rfl, rfl, rfl, rfl⟩
    case rest =>
     obtain ⟨p, q, rfl, rfl, hp, hq, hb1, hb2, hbx, rfl, rfl, rfl, rfl⟩ := hcut;have hsx := hbx.size;obtain ⟨p0, p1, p2, p3⟩ := blk4 hb1;obtain ⟨p4, p5, p6, p7⟩ := blk4 hb2;have HBE := hid ((HB0.out.trans (HBW.out.mono (by omega))).trans (hbx.mono (by omega)));have HOW := hid (ownsRow_below HO.out hbx);have HBV := hid (HBW.out.trans (hbx.mono hsr));clear hb1 hb2 hbx q0 q1 q2 q3 d0 d1 d2 d3 d4 d5 d6 d7 HO HBW;by_cases t1 : kd1 = 0
     case neg =>
      have HNO := hid (HPN.out (fun h => t1 h.1));clear HPN;go_wp2_with fail
      go_ret2
      rw [HNO.out];exact ⟨none, 0, 0, [], false, rfl, Rs.nil_ _, rfl, rfl, HBE.out, fun _ _ h => by cases h⟩
     subst t1;by_cases t2 : kd2 = 0
     case neg =>
      have HNO := hid (HPN.out (fun h => t2 h.2.1));clear HPN;go_wp2_with fail
      go_ret2
      rw [HNO.out];exact ⟨none, 0, 0, [], false, rfl, Rs.nil_ _, rfl, rfl, HBE.out, fun _ _ h => by cases h⟩
     subst t2;by_cases t3 : s1 = ByteArray.empty
     case neg =>
      have HNO := hid (HPN.out (fun h => t3 h.2.2.1));have t0 : ¬ s1.toList = [] := fun h => t3 (toList_nil h);clear HPN;go_wp2_with fail
      go_ret2
      rw [HNO.out];exact ⟨none, 0, 0, [], false, rfl, Rs.nil_ _, rfl, rfl, HBE.out, fun _ _ h => by cases h⟩
     subst t3;by_cases t4 : s2 = ByteArray.empty
     case neg =>
      have HNO := hid (HPN.out (fun h => t4 h.2.2.2.1));have t0 : ¬ s2.toList = [] := fun h => t4 (toList_nil h);clear HPN;go_wp2_with fail
      go_ret2
      rw [HNO.out];exact ⟨none, 0, 0, [], false, rfl, Rs.nil_ _, rfl, rfl, HBE.out, fun _ _ h => by cases h⟩
     subst t4;by_cases t5 : m1 = 0
     case neg =>
      have HNO := hid (HPN.out (fun h => t5 h.2.2.2.2.1));have t0 : 0 < m1 := (by omega);clear HPN;go_wp2_with fail
      go_ret2
      rw [HNO.out];exact ⟨none, 0, 0, [], false, rfl, Rs.nil_ _, rfl, rfl, HBE.out, fun _ _ h => by cases h⟩
     subst t5;by_cases t6 : m2 = 0
     case neg =>
      have HNO := hid (HPN.out (fun h => t6 h.2.2.2.2.2.1));have t0 : 0 < m2 := (by omega);clear HPN;go_wp2_with fail
      go_ret2
      rw [HNO.out];exact ⟨none, 0, 0, [], false, rfl, Rs.nil_ _, rfl, rfl, HBE.out, fun _ _ h => by cases h⟩
     subst t6;by_cases t7 : n1 ≤ 6
     case neg =>
      have HNO := hid (HPN.out (fun h => t7 h.2.2.2.2.2.2.1));have t0 : 6 < n1 := (by omega);clear HPN;go_wp2_with fail
      go_ret2
      rw [HNO.out];exact ⟨none, 0, 0, [], false, rfl, Rs.nil_ _, rfl, rfl, HBE.out, fun _ _ h => by cases h⟩
     by_cases t8 : n2 ≤ 1099511627776
     case neg =>
      have HNO := hid (HPN.out (fun h => t8 h.2.2.2.2.2.2.2));have t0 : 1099511627776 < n2 := (by omega);clear HPN;go_wp2_with fail
      go_ret2
      rw [HNO.out];exact ⟨none, 0, 0, [], false, rfl, Rs.nil_ _, rfl, rfl, HBE.out, fun _ _ h => by cases h⟩
     have HIT := hid (HOK.out ⟨rfl, rfl, rfl, rfl, rfl, rfl, t7, t8⟩);obtain ⟨hR1, hR2⟩ := HR.out;have hk4 : k ≤ 4096 := (by have := HK.out; omega);clear HOK HPN;go_wp2_with (at_builtin; refine wpList_append_rs rfl _ _ 28 rfl w1.heap.size 23 i0 _ Tryz.underlying28 hi hz0 hz1 hz2 rfl V k cv _ rfl (World.ownsRow.alloc HOW.out _) _ 1 1 [(R1, R2)] rfl (Rs.lit _ [(R1, R2)] _ _ 1 rfl rfl (by simp [maxLen])) (by omega) (by simp; omega) ?_; intro V3 c3 w3 hown3 _ hb3)
     have HO3 := hid hown3;have HB3 := hid ((HBV.out.alloc (by omega) _).trans hb3);clear hown3 hb3;go_wp2_with fail
     go_roundw
     case rel =>
      have hK := HK.out;refine ⟨k + 1, K2, V3, c3, rfl, rfl, by omega, hK.2.2, HIT.out, ?_, HB3.out⟩;have hsn : pairs (List.take K2 x.kids) = pairs (List.take K x.kids) ++ [(R1, R2)] := HSN.out;rw [hsn];exact HO3.out
     case measure =>
      have := HK.out;simp [intOf];omega
  · have hKl : K = x.kids.length := by omega
    rw [hKl, List.take_length] at hits hown;have hrs := Rs.own hown;have HNEW := hid (own_new hown);have htk := HEN.out ⟨trivial, trivial, trivial, by omega⟩ hits;have HCK := hid (refcheck_any _ V k cv wr hrs);have HRS := hid hrs;have HBE := hid (HB0.out.trans (hbw.mono (by omega)));obtain ⟨t, ht⟩ : ∃ t, Ids.chk (pairs x.kids) = t := ⟨_, rfl⟩
    rw [ht] at htk HCK;have HTK := hid htk;clear hits hown hrs htk ht hbw hk hKl hblk hn0 hKn;go_wp2_with fail
    refine HCK.out.mono ?_;rintro e w5 ⟨rfl, hb5⟩;have HB5 := hid (HBE.out.trans (hb5.mono (by omega)));have HR5 := hid (HRS.out.below hb5);clear hb5;cases t with
    | true =>
      go_wp2_with fail
      go_ret2
      rw [HTK.out];exact ⟨_, _, _, _, true, rfl, HR5.out, rfl, rfl, HB5.out, fun g o h => by have := HNEW.out g o h; omega⟩
    | false =>
      go_wp2_with fail
      go_ret2
      rw [HTK.out];exact ⟨none, 0, 0, [], false, rfl, Rs.nil_ _, rfl, rfl, HB5.out, fun _ _ h => by cases h⟩
end Go.Proofs.YthlhchaoedcdbaaGreatDoor
