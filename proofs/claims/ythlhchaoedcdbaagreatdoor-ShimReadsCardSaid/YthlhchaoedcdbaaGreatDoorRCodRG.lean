/-
  Texts of earlier layers, as one.
-/
import Derived.Test.YthlhchaoedcdbaaGreatDoorRCodG
/- The document's example holds: 'awake' answers true, whatever the world; what was there stays. -/
namespace Go.Proofs.YthlhchaoedcdbaaGreatDoor.Cp
open Lib (hid)
open Go.RowKit Mem Cod
theorem lies_leaf (w : World) (S : Nat → Prop) {k : Int} {n : Nat} {s : ByteArray} (hk : -9223372036854775808 ≤ k ∧ k ≤ 9223372036854775807) (hn : n ≤ 18446744073709551615) (hs : s.size ≤ 140737488355328) : Lies w S (.mk k n s []) none 0 := by
 rw [lies_eq];exact ⟨⟨hk.1, hk.2, hn, hs⟩, ⟨Nat.le_refl _, by omega, fun _ => rfl⟩, fun i hi => by simp [It.kids] at hi⟩
end Go.Proofs.YthlhchaoedcdbaaGreatDoor.Cp
/- The document's take: the item that begins at a place, or an error and its place. -/
namespace Go.Proofs.YthlhchaoedcdbaaGreatDoor.Cp
open Lib (hid)
open Go.RowKit Mem Cod
def Tuck (b : List Nat) (r p : Nat) (w : World) (e : Ending) (w' : World) : Prop :=
 Below w.heap.size w w' ∧ ((∃ x q A c, tk b r p = .ok x q ∧ e = .returned (.agg #[.int .i64 x.kind, .int .u64 (x.num : Int), .string x.str, .slice A x.kids.length c, .int .i64 (q : Int), .int .i64 0, .int .i64 0]) ∧ Lies w' (fun b => w.heap.size ≤ b) x A c) ∨
  (∃ er q, tk b r p = .bad er q ∧ e = .returned (.agg #[.int .i64 0, .int .u64 0, .string ⟨#[]⟩, .slice none 0 0, .int .i64 0, .int .i64 (er : Int), .int .i64 (q : Int)])))
theorem blk7 {w : World} {g : Nat} {t : TypeId} {a b c d e f h : Value} (k : Blk w g t #[a, b, c, d, e, f, h]) : w.cell? ⟨g, 0, none⟩ = some a ∧ w.cell? ⟨g, 1, none⟩ = some b ∧ w.cell? ⟨g, 2, none⟩ = some c ∧ w.cell? ⟨g, 3, none⟩ = some d ∧ w.cell? ⟨g, 4, none⟩ = some e ∧ w.cell? ⟨g, 5, none⟩ = some f ∧ w.cell? ⟨g, 6, none⟩ = some h :=
 ⟨k.cell 0, k.cell 1, k.cell 2, k.cell 3, k.cell 4, k.cell 5, k.cell 6⟩
theorem blk7_soft {w : World} {g : Nat} {t : TypeId} {a b c d e f h : Value} (k : Blk w g t #[a, b, c, d, e, f, h]) : w.frozen? ⟨g, 0, none⟩ = false ∧ w.frozen? ⟨g, 1, none⟩ = false ∧ w.frozen? ⟨g, 2, none⟩ = false ∧ w.frozen? ⟨g, 3, none⟩ = false ∧ w.frozen? ⟨g, 4, none⟩ = false ∧ w.frozen? ⟨g, 5, none⟩ = false ∧ w.frozen? ⟨g, 6, none⟩ = false :=
 ⟨k.soft 0, k.soft 1, k.soft 2, k.soft 3, k.soft 4, k.soft 5, k.soft 6⟩
abbrev lay7 (w : World) (g : Nat) (a b c d e f h : Value) : World := (((((((w.setCell ⟨g, 0, none⟩ a).setCell ⟨g, 1, none⟩ b).setCell ⟨g, 2, none⟩ c).setCell ⟨g, 3, none⟩ d).setCell ⟨g, 4, none⟩ e).setCell ⟨g, 5, none⟩ f).setCell ⟨g, 6, none⟩ h)
theorem blk7_set {w : World} {g : Nat} {t : TypeId} {a b c d e f h : Value} (k : Blk w g t #[a, b, c, d, e, f, h]) (a' b' c' d' e' f' h' : Value) :
 Blk (lay7 w g a' b' c' d' e' f' h') g t #[a', b', c', d', e', f', h'] ∧ w.grownBy (lay7 w g a' b' c' d' e' f' h') (some g) :=
 ⟨by simpa [lay7] using ((((((k.put 0 a').put 1 b').put 2 c').put 3 d').put 4 e').put 5 f').put 6 h',
  gr_set (p := ⟨g, 6, none⟩) (gr_set (p := ⟨g, 5, none⟩) (gr_set (p := ⟨g, 4, none⟩) (gr_set (p := ⟨g, 3, none⟩) (gr_set (p := ⟨g, 2, none⟩) (gr_set (p := ⟨g, 1, none⟩) (gr_set (p := ⟨g, 0, none⟩) (gr_refl w (some g)) (.inl rfl) _) (.inl rfl) _) (.inl rfl) _) (.inl rfl) _) (.inl rfl) _) (.inl rfl) _) (.inl rfl) _⟩
theorem tuck_bad {b : List Nat} {r p er q : Nat} {w w' : World} (h : tk b r p = .bad er q) (hb : Below w.heap.size w w') :
 Tuck b r p w (.returned (.agg #[.int .i64 0, .int .u64 0, .string ⟨#[]⟩, .slice none 0 0, .int .i64 0, .int .i64 (er : Int), .int .i64 (q : Int)])) w' := ⟨hb, .inr ⟨er, q, h, rfl⟩⟩
theorem tuck_bad_at {b : List Nat} {r p er q : Nat} {w w' : World} (h : tk b r p = .bad er q) (hb : Below w.heap.size w w') {a1 a2 a3 a4 a5 a6 a7 : Value} (hk : Blk w' w.heap.size 150 #[a1, a2, a3, a4, a5, a6, a7]) (qi : Int) (hq : qi = q) :
 Tuck b r p w (.returned (.agg #[.int .i64 0, .int .u64 0, .string ⟨#[]⟩, .slice none 0 0, .int .i64 0, .int .i64 (er : Int), .int .i64 qi])) (lay7 w' w.heap.size (.int .i64 0) (.int .u64 0) (.string ⟨#[]⟩) (.slice none 0 0) (.int .i64 0) (.int .i64 (er : Int)) (.int .i64 qi)) := by
 subst hq;exact tuck_bad h (hb.trans (gr_below (blk7_set hk _ _ _ _ _ _ _).2 hb.size fun b hb => by cases hb; exact Nat.le_refl _))
theorem tuck_ok_at {b : List Nat} {r p q c : Nat} {A : Option Addr} {x : It} {w w' : World} (h : tk b r p = .ok x q) (hb : Below w.heap.size w w') (hl : Lies w' (fun b => w.heap.size + 1 ≤ b) x A c) {a1 a2 a3 a4 a5 a6 a7 : Value} (hk : Blk w' w.heap.size 150 #[a1, a2, a3, a4, a5, a6, a7]) (qi : Int) (hq : qi = q) :
 Tuck b r p w (.returned (.agg #[.int .i64 x.kind, .int .u64 (x.num : Int), .string x.str, .slice A x.kids.length c, .int .i64 qi, .int .i64 0, .int .i64 0])) (lay7 w' w.heap.size (.int .i64 x.kind) (.int .u64 (x.num : Int)) (.string x.str) (.slice A x.kids.length c) (.int .i64 qi) (.int .i64 0) (.int .i64 0)) := by
 subst hq;have hg := (blk7_set hk (.int .i64 x.kind) (.int .u64 (x.num : Int)) (.string x.str) (.slice A x.kids.length c) (.int .i64 (q : Int)) (.int .i64 0) (.int .i64 0)).2;exact ⟨hb.trans (gr_below hg hb.size fun b hb => by cases hb; exact Nat.le_refl _), .inl ⟨x, q, A, c, h, rfl, (hl.grown hg fun b hb => by simp; omega).more fun b hb _ => by omega⟩⟩
def TuckRel (W : World) (b : List Nat) (r q0 n v Bx : Nat) (at_ i : Value) (wr : World) : Prop :=
 ∃ (k : Nat) (V : Option Addr) (cv : Nat) (hs : List Hung) (xs : List It) (q : Nat), k ≤ v ∧ i = .int .i64 k ∧ at_ = .int .i64 (q : Int) ∧ Blk wr Bx 57 #[.int .i64 2, .int .u64 0, .string ⟨#[]⟩, .slice V k cv] ∧
  wr.ownsRow (Bx + 1) 57 4 (.slice V k cv) k (cells4 hs) ∧ hs.map (·.x) = xs ∧ rows (tk b r) k q0 = .ok xs q ∧ q ≤ n ∧ W.grownBy wr (some Bx) ∧
  ∀ h ∈ hs, Lies wr (fun b => Bx + 1 ≤ b ∧ some b ≠ (Value.slice V k cv).ownBlock) h.x h.A h.c
set_option maxRecDepth 100000 in
set_option maxHeartbeats 4000000 in
theorem reftk_step (b : List Nat) (r d p : Nat) (A : Option Addr) (n c : Nat) (w : World) (hrd : r + d = 16) (hr : Rd w A n c (cs b)) (hb : ∀ x ∈ b, x < 256) (hp : p ≤ n) (hn : n ≤ 2000000)
 (ih : ∀ (r' : Nat) (p : Nat) (w : World), r = r' + 1 → Rd w A n c (cs b) → p ≤ n →
  Calls Tryz.prog 120 #[.slice A n c, .int .i64 (p : Int), .int .i64 ((d : Int) + 1)] w (Tuck b r' p w)) :
 Calls Tryz.prog 120 #[.slice A n c, .int .i64 (p : Int), .int .i64 (d : Int)] w (Tuck b r p w) := by
 obtain ⟨i0, hi, hz0, hz1, hz2⟩ := info_parts info25;have hlb := hr.len;rw [length_cs] at hlb;have hcap := hr.le;have hcm := hr.cap;unfold maxLen at hcm;have HR := hid hr;have HB := hid hb;have IH := hid ih;have HLB := hid hlb;clear hr hb ih hlb;by_cases h0 : p = n
 · subst h0
   go_enter Tryz.func120, Tryz.ntmps120
   go_wp2_with fail
   refine bodyPost_ret (v := .agg #[.int .i64 0, .int .u64 0, .string ⟨#[]⟩, .slice none 0 0, .int .i64 0, .int .i64 2, .int .i64 (p : Int)]) (by simp [results, Tryz.results120, go_sem]) rfl ?_;exact tuck_bad (tk_end (by have := HLB.out; omega)) (bel_alloc (Below.refl _ _) _)
 · have h0' : ((p : Int) == (n : Int)) = false := by rw [beq_eq_false_iff_ne]; omega
   by_cases h15 : 15 < (d : Int)
   · go_enter Tryz.func120, Tryz.ntmps120
     go_wp2_with fail
     refine bodyPost_ret (v := .agg #[.int .i64 0, .int .u64 0, .string ⟨#[]⟩, .slice none 0 0, .int .i64 0, .int .i64 12, .int .i64 (p : Int)]) (by simp [results, Tryz.results120, go_sem]) rfl ?_;obtain rfl : r = 0 := (by omega);exact tuck_bad (tk_deep (by have := HLB.out; omega)) (bel_alloc (Below.refl _ _) _)
   · obtain ⟨ad, x, rfl, hx, hcx⟩ := HR.out.byte (show p < n by omega)
     have hg : b.getD p 0 = x := (by simp [List.getD, hx]);have hx256 : x < 256 := HB.out x (List.mem_of_getElem? hx);have HG := hid hg;have hblt := World.block_lt_of_cell? w _ hcx;have hc' : ∀ o, (w.alloc o).cell? (ad.add p) = some (.int .u8 (x : Int)) := fun o => (World.cell?_alloc_lt w o _ hblt).trans hcx;obtain ⟨r', rfl⟩ : ∃ r', r = r' + 1 := ⟨r - 1, by omega⟩
     clear hx hg;by_cases h2 : 2 < (x : Int)
     · go_enter Tryz.func120, Tryz.ntmps120
       go_wp2_with fail
       refine bodyPost_ret (v := .agg #[.int .i64 0, .int .u64 0, .string ⟨#[]⟩, .slice none 0 0, .int .i64 0, .int .i64 4, .int .i64 (p : Int)]) (by simp [results, Tryz.results120, go_sem]) rfl ?_;exact tuck_bad (tk_kind (by have := HLB.out; omega) (by rw [HG.out]; omega)) (bel_alloc (Below.refl _ _) _)
     · have hcut := run_cut (P := Tryz.prog) 35 Tryz.underlying35 (fun w => by kernel_rfl) (some ad) n c (p + 1) (by omega)
       rw [show ((p + 1 : Nat) : Int) = (p : Int) + 1 by omega] at hcut;go_enter Tryz.func120, Tryz.ntmps120
       go_wp2_with fail
       have hrc := (HR.out.alloc (.cells #[.int .i64 0, .int .u64 0, .string ⟨#[]⟩, .slice none 0 0, .int .i64 0, .int .i64 0, .int .i64 0] 150)).cut (show p + 1 ≤ n by omega);rw [cs_drop] at hrc;have hlen : p < b.length := (by have := HLB.out; omega);have hbd : ∀ x ∈ b.drop (p + 1), x < 256 := fun x hx => HB.out x (List.mem_of_mem_drop hx);have hok := take_ok (b.drop (p + 1)) hbd;have htn := tk_num (r := r') hlen (by rw [HG.out]; omega);have htb := tk_body (r := r') hlen (by rw [HG.out]; omega);rw [HG.out] at htb;refine (reftake_any _ _ _ (b.drop (p + 1)) _ hrc hbd).mono ?_;rintro e w1 ⟨rfl, hb1⟩;rcases ht : Num.take (b.drop (p + 1)) with ⟨v, m, er⟩
       rw [ht] at hok htn htb;simp only at hok htn htb ⊢;clear ht hc' hcut;by_cases he : er = 0
       · subst he
         rw [show (((0 : Nat) : Nat) : Int) = 0 by rfl] at *;have hk1 := (Blk.new w 150 #[.int .i64 0, .int .u64 0, .string ⟨#[]⟩, .slice none 0 0, .int .i64 0, .int .i64 0, .int .i64 0]).bel hb1;have hk2 := hk1.alloc (.cells #[.int .u64 (v : Int), .int .i64 (m : Int), .int .i64 0] 181);have hbw : Below w.heap.size w (w1.alloc (.cells #[.int .u64 (v : Int), .int .i64 (m : Int), .int .i64 0] 181)) := bel_alloc ((bel_alloc (Below.refl _ _) _).trans (hb1.mono (by rw [size_alloc]; omega))) _;obtain ⟨c0, c1, c2, c3, c4, c5, c6⟩ := blk7 hk2;obtain ⟨z0, z1, z2, z3, z4, z5, z6⟩ := blk7_soft hk2;have HK := hid hk2;have HBW := hid hbw;clear hrc hbd hk1 hk2 hbw hb1;obtain ⟨_, o2, o3, o4⟩ := hok rfl;have hq : p + 1 + m ≤ n := (by rw [List.length_drop] at o3; have := HLB.out; omega);have HTB := hid (htb rfl);clear htb htn hok o2 o3 hlen;obtain ⟨q, hqe⟩ : ∃ q : Nat, (p : Int) + 1 + m = q := ⟨p + 1 + m, by omega⟩
         have hqn : p + 1 + m = q := (by omega);have htb := HTB.out;rw [hqn] at htb;have HTB2 := hid htb;clear htb HTB;have hx3 : x = 0 ∨ x = 1 ∨ x = 2 := (by omega);rcases hx3 with rfl | rfl | rfl
         · rw [show (((0 : Nat) : Nat) : Int) = 0 by rfl]
           go_wp2_with fail
           refine bodyPost_ret (v := .agg #[.int .i64 0, .int .u64 (v : Int), .string ⟨#[]⟩, .slice none 0 0, .int .i64 (q : Int), .int .i64 0, .int .i64 0]) (by simp [results, Tryz.results120, go_sem, c0, c1, c2, c3, c4, c5, c6]) rfl ?_;refine tuck_ok_at (x := .mk 0 v ByteArray.empty []) (by rw [HTB2.out, body, if_pos rfl]) HBW.out (lies_leaf _ _ (by omega) (by omega) (by show (0 : Nat) ≤ _; omega)) HK.out _ rfl
         · rw [show (((1 : Nat) : Nat) : Int) = 1 by rfl]
           have hw1 : IntKind.i64.wrap ((n : Int) - q) = (n : Int) - q := IntWalk.i64_in _ (by omega);have hw2 : IntKind.u64.wrap ((n : Int) - q) = (n : Int) - q := (by rw [IntKind.wrap_u64]; omega);by_cases hv : (n : Int) - q < v
           · go_wp2_with fail
             refine bodyPost_ret (v := .agg #[.int .i64 0, .int .u64 0, .string ⟨#[]⟩, .slice none 0 0, .int .i64 0, .int .i64 2, .int .i64 (q : Int)]) (by simp [results, Tryz.results120, go_sem, c0, c1, c2, c3, c4, c5, c6]) rfl ?_;exact tuck_bad_at (er := 2) (by rw [HTB2.out, body, if_neg (by omega), if_pos (by have := HLB.out; omega)]) HBW.out HK.out _ rfl
           · have hvn : v ≤ 2000000 := by omega
             have hcut := run_mid (P := Tryz.prog) 35 Tryz.underlying35 (fun w => by kernel_rfl) (some ad) n c q (q + v) (by omega) (by omega) hcap;rw [show q + v - q = v by omega, show ((q + v : Nat) : Int) = (q : Int) + v by omega] at hcut
             have hrt : Rd (w1.alloc (.cells #[.int .u64 (v : Int), .int .i64 (m : Int), .int .i64 0] 181)) (cutA (some ad) c q) v (c - q) (cs ((b.drop q).take v)) := by
              have := ((HR.out.below HBW.out).cut (show q ≤ n by omega)).take (k := v) (by omega);rwa [cs_drop, cs_take] at this
             have hcv : (convert 35 9 (.slice (cutA (some ad) c q) v (c - q))).run Tryz.prog (w1.alloc (.cells #[.int .u64 (v : Int), .int .i64 (m : Int), .int .i64 0] 181)) = .ok (.string (Cod.txt ((b.drop q).take v))) (w1.alloc (.cells #[.int .u64 (v : Int), .int .i64 (m : Int), .int .i64 0] 181)) :=
              Cod.run_text 35 9 5 Tryz.underlying35 Tryz.underlying5 Tryz.underlying9 hrt
             have hwr : IntKind.i64.wrap ((q : Int) + v) = (q : Int) + v := IntWalk.i64_in _ (by omega);have hwc : IntKind.i64.wrap (v : Int) = (v : Int) := IntWalk.i64_in _ (by omega);have hts : (Cod.txt ((b.drop q).take v)).size ≤ 140737488355328 := (by rw [Cod.size_txt, List.length_take]; omega);have HTX := hid (show tk b (r' + 1) p = .ok (.mk 1 0 (Cod.txt ((b.drop q).take v)) []) (q + v) by rw [HTB2.out, body, if_neg (by omega), if_neg (by have := HLB.out; omega), if_pos rfl]);clear hrt;generalize Cod.txt ((b.drop q).take v) = sx at hcv hts HTX;go_wp2_with fail
             refine bodyPost_ret (v := .agg #[.int .i64 1, .int .u64 0, .string sx, .slice none 0 0, .int .i64 ((q : Int) + v), .int .i64 0, .int .i64 0]) (by simp [results, Tryz.results120, go_sem, c0, c1, c2, c3, c4, c5, c6]) rfl ?_;exact tuck_ok_at (x := .mk 1 0 sx []) HTX.out HBW.out (lies_leaf _ _ (by omega) (by omega) hts) HK.out _ (by omega)
         · rw [show (((2 : Nat) : Nat) : Int) = 2 by rfl]
           have hw1 : IntKind.i64.wrap ((n : Int) - q) = (n : Int) - q := IntWalk.i64_in _ (by omega);have hw2 : IntKind.u64.wrap ((n : Int) - q) = (n : Int) - q := (by rw [IntKind.wrap_u64]; omega);by_cases hv : (n : Int) - q < v
           · go_wp2_with fail
             refine bodyPost_ret (v := .agg #[.int .i64 0, .int .u64 0, .string ⟨#[]⟩, .slice none 0 0, .int .i64 0, .int .i64 2, .int .i64 (q : Int)]) (by simp [results, Tryz.results120, go_sem, c0, c1, c2, c3, c4, c5, c6]) rfl ?_;exact tuck_bad_at (er := 2) (by rw [HTB2.out, body, if_neg (by omega), if_pos (by have := HLB.out; omega)]) HBW.out HK.out _ rfl
           · have hvn : v ≤ 2000000 := by omega
             have hwc : IntKind.i64.wrap (v : Int) = (v : Int) := IntWalk.i64_in _ (by omega);have hvb : decide ((n : Int) - q < v) = false := by simpa using hv
             have HBO := hid (show ∀ xs q', rows (tk b r') v q = .ok xs q' → tk b (r' + 1) p = .ok (.mk 2 0 ByteArray.empty xs) q' from fun xs q' hh => by
              rw [HTB2.out, body, if_neg (by omega), if_neg (by have := HLB.out; omega), if_neg (by omega), hh])
             have HBN := hid (show ∀ er q', rows (tk b r') v q = .bad er q' → tk b (r' + 1) p = .bad er q' from fun er q' hh => by
              rw [HTB2.out, body, if_neg (by omega), if_neg (by have := HLB.out; omega), if_neg (by omega), hh])
             have hG := HK.out.lt;rw [size_alloc] at hG;have hqn2 : q ≤ n := (by omega);go_wp2_with fail
             have hst : TuckRel ((w1.alloc (.cells #[.int .u64 (v : Int), .int .i64 (m : Int), .int .i64 0] 181)).alloc (.cells #[.int .i64 2, .int .u64 0, .string ⟨#[]⟩, .slice none 0 0] 57)) b r' q n v (w1.heap.size + 1) (.int .i64 (q : Int)) (.int .i64 0) ((w1.alloc (.cells #[.int .u64 (v : Int), .int .i64 (m : Int), .int .i64 0] 181)).alloc (.cells #[.int .i64 2, .int .u64 0, .string ⟨#[]⟩, .slice none 0 0] 57)) := by
              refine ⟨0, none, 0, [], [], q, Nat.zero_le _, rfl, rfl, ?_, ⟨rfl, .inl ⟨rfl, rfl⟩⟩, rfl, rfl, hqn2, gr_refl _ _, fun h hh => by simp at hh⟩;have := Blk.new (w1.alloc (.cells #[.int .u64 (v : Int), .int .i64 (m : Int), .int .i64 0] 181)) 57 #[.int .i64 2, .int .u64 0, .string ⟨#[]⟩, .slice none 0 0];rwa [size_alloc] at this
             have hsz2 : ((w1.alloc (.cells #[.int .u64 (v : Int), .int .i64 (m : Int), .int .i64 0] 181)).alloc (.cells #[.int .i64 2, .int .u64 0, .string ⟨#[]⟩, .slice none 0 0] 57)).heap.size = w1.heap.size + 2 := (by simp only [size_alloc]);have HK2 := hid (HK.out.alloc (.cells #[.int .i64 2, .int .u64 0, .string ⟨#[]⟩, .slice none 0 0] 57));have HBW2 := hid (bel_alloc HBW.out (.cells #[.int .i64 2, .int .u64 0, .string ⟨#[]⟩, .slice none 0 0] 57));clear c0 c1 c2 c3 c4 c5 c6 z0 z1 z2 z3 z4 z5 z6;generalize ((w1.alloc (.cells #[.int .u64 (v : Int), .int .i64 (m : Int), .int .i64 0] 181)).alloc (.cells #[.int .i64 2, .int .u64 0, .string ⟨#[]⟩, .slice none 0 0] 57)) = W2 at hst hsz2 HK2 HBW2 ⊢;generalize hBx : w1.heap.size + 1 = Bx at hst ⊢;have HSZ := hid hsz2;have HST := hid hst;clear hst hsz2;go_loopw [1, 11] (TuckRel W2 b r' q n v Bx) (fun _ i _ => v - (intOf i).toNat)
             case atStart => exact HST.out
             case round =>
              clear HST;obtain ⟨k, V, cv, hs, xs, q1, hk, rfl, rfl, hbx, hown, hmap, hrow, hq1, hgr, hlies⟩ := hrel;have hwr : W2.heap.size ≤ wr.heap.size := hgr.size;have hbwr : Below w.heap.size w wr := HBW2.out.trans (gr_below hgr (by have := HSZ.out; omega) fun b hb => by cases hb; omega);have HBX := hid hbx;have HO := hid hown;have HM := hid hmap;have HROW := hid hrow;have HGR := hid hgr;have HLS := hid hlies;have HBWR := hid hbwr;clear hbx hown hmap hrow hgr hlies hbwr;by_cases hlt : k < v
              · go_wp2_with fail
                refine (IH.out r' q1 wr rfl (HR.out.below HBWR.out) hq1).mono ?_;rintro e w5 ⟨hb5, ⟨y, q2, A5, c5, hty, rfl, hl5⟩ | ⟨er, qe, hty, rfl⟩⟩
                · have hgood := tk_good HB.out (by have := HLB.out; omega) r' q1 y q2 (by omega) hty
                  have hq2 : q2 ≤ n := (by have := hgood.2.2.2.1; have := HLB.out; omega);have hs5 : wr.heap.size ≤ w5.heap.size := hb5.size;have hbx5 := ((HBX.out.bel hb5).alloc (.cells #[.int .i64 y.kind, .int .u64 (y.num : Int), .string y.str, .slice A5 y.kids.length c5, .int .i64 (q2 : Int), .int .i64 0, .int .i64 0] 150))
                  obtain ⟨d0, d1, d2, d3⟩ := blk4 hbx5;have hown5 : w5.ownsRow (Bx + 1) 57 4 (.slice V k cv) k (cells4 hs) := HO.out.kept (below_gr hb5 none) (by cases (Value.slice V k cv).ownBlock <;> simp);have hownb : ∀ g, (Value.slice V k cv).ownBlock = some g → Bx + 1 ≤ g ∧ g < wr.heap.size := fun g e => HO.out.lt g e;have HTY := hid hty;have HL5 := hid hl5;have HB5 := hid hb5;have HBX5 := hid hbx5;have HO5 := hid hown5;have HOB := hid hownb;have HYB := hid (Blk.new w5 150 #[.int .i64 y.kind, .int .u64 (y.num : Int), .string y.str, .slice A5 y.kids.length c5, .int .i64 (q2 : Int), .int .i64 0, .int .i64 0]);have hnb := Blk.new (w5.alloc (.cells #[.int .i64 y.kind, .int .u64 (y.num : Int), .string y.str, .slice A5 y.kids.length c5, .int .i64 (q2 : Int), .int .i64 0, .int .i64 0] 150)) 57 #[.int .i64 y.kind, .int .u64 (y.num : Int), .string y.str, .slice A5 y.kids.length c5];rw [size_alloc] at hnb;have HNB := hid (World.news_of_block hnb);clear hgood hty hl5 hb5 hbx5 hown5 hownb hnb;go_wp2_with (at_builtin; refine wpList_append_lies _ rfl (.tmp 99) (.tmp 102) 55 rfl (Bx + 1) 57 i0 _ 4 56 Tryz.underlying55 hi hz0 hz1 hz2 rfl (by omega) (.slice V k cv) k (cells4 hs) rfl ((HO5.out.alloc _).alloc _) ⟨w5.heap.size + 1, 0, none⟩ 1 1 [.int .i64 y.kind, .int .u64 (y.num : Int), .string y.str, .slice A5 y.kids.length c5] rfl rfl HNB.out (by intro u hu; simp at hu; rcases hu with rfl | rfl | rfl | rfl <;> rfl) (by omega) (by unfold maxLen; omega) (by omega) (by simp only [size_alloc]; have := HSZ.out; omega) (w5.heap.size + 2) (by simp only [size_alloc]) ?_; intro g' cap' w7 hown7 hgr7 hat7 hlt7; have hbx7 := (HBX5.out.alloc (.cells #[.int .i64 y.kind, .int .u64 (y.num : Int), .string y.str, .slice A5 y.kids.length c5] 57)).grown hgr7 (fun e => by have := (HOB.out Bx e.symm).1; omega); have hyb7 := (HYB.out.alloc (.cells #[.int .i64 y.kind, .int .u64 (y.num : Int), .string y.str, .slice A5 y.kids.length c5] 57)).grown hgr7 (fun e => by have := (HOB.out w5.heap.size e.symm).2; omega); obtain ⟨e0, e1, e2, e3⟩ := blk4 hbx7; obtain ⟨z0, z1, z2, z3⟩ := blk4_soft hbx7; obtain ⟨y0, y1, y2, y3, y4, y5, y6⟩ := blk7 hyb7)
                  have hgb : ∀ b, b < w5.heap.size → b ≠ Bx → some b ≠ (Value.slice V k cv).ownBlock → (w7.setCell ⟨Bx, 3, none⟩ (.slice (some ⟨g', 0, none⟩) (k + 1) cap')).heap[b]? = w5.heap[b]? := fun b hb hne hno =>
                   (Below.heap_setCell w7 ⟨Bx, 3, none⟩ _ b hne).trans ((hgr7.block b (by simp only [size_alloc]; omega) hno).trans ((Below.heap_alloc _ _ b (by rw [size_alloc]; omega)).trans (Below.heap_alloc _ _ b hb)))
                  have hs7 : w5.heap.size + 2 ≤ w7.heap.size := (by have := hgr7.size; simp only [size_alloc] at this; exact this);have hs8 : (w7.setCell ⟨Bx, 3, none⟩ (.slice (some ⟨g', 0, none⟩) (k + 1) cap')).heap.size = w7.heap.size := by simp [World.setCell]
                  have hg'5 : ∀ b, b < w5.heap.size → some b ≠ (Value.slice V k cv).ownBlock → some b ≠ (Value.slice (some ⟨g', 0, none⟩) (k + 1) cap').ownBlock := by
                   intro b hb hne e;have e' : b = g' := (by simpa [Value.ownBlock] using e);rcases hat7 with h | h
                   · exact hne (by rw [h, e'])
                   · omega
                  have hgB : g' ≠ Bx := (by have := (hown7.lt g' rfl).1; omega);refine ⟨⟨k + 1, some ⟨g', 0, none⟩, cap', hs ++ [⟨y, A5, c5⟩], xs ++ [y], q2, by omega, by simp, rfl, ?_, ?_, by simp [HM.out], by rw [rows, HROW.out]; simp only [HTY.out], hq2, ?_, ?_⟩, by simp [intOf]; omega⟩
                  · simpa using hbx7.put 3 (.slice (some ⟨g', 0, none⟩) (k + 1) cap')
                  · rw [show cells4 (hs ++ [⟨y, A5, c5⟩]) = cells4 hs ++ [.int .i64 y.kind, .int .u64 (y.num : Int), .string y.str, .slice A5 y.kids.length c5] by simp [cells4, Hung.cells]]
                    exact hown7.kept (gr_set (p := ⟨Bx, 3, none⟩) (gr_refl w7 (some Bx)) (.inl rfl) _) (.inr (by simp [Value.ownBlock]; exact hgB))
                  · exact gr_set (p := ⟨Bx, 3, none⟩) (gr_step (gr_alloc (gr_alloc (gr_bel HGR.out HB5.out) _) _) hgr7 fun b hb => .inl (by have := (HOB.out b hb).1; have := HSZ.out; omega)) (.inl rfl) _
                  · intro h hh
                    rcases List.mem_append.1 hh with hh | hh
                    · refine (HLS.out h hh).keep h.x (fun b hb hlt' => ⟨hb.1, hg'5 b (by omega) hb.2⟩) (by rw [hs8]; omega) fun p hp hlt' => ?_
                      exact World.cell?_of_block ((hgb _ (by omega) (by omega) hp.2).trans (HB5.out.block _ hlt'))
                    · have : h = ⟨y, A5, c5⟩ := by simpa using hh
                      subst this;refine HL5.out.keep _ (fun b hb hlt' => ⟨by have := HSZ.out; omega, hg'5 b hlt' fun e => ?_⟩) (by rw [hs8]; omega) fun p hp hlt' => World.cell?_of_block (hgb _ hlt' (by have := HSZ.out; omega) fun e => ?_)
                      · have := (HOB.out b e.symm).2; omega
                      · have := (HOB.out _ e.symm).2; omega
                · have hne : (((er : Nat) : Int) != 0) = true := by rw [bne_iff_ne]; have := tk_bad_ne _ _ _ _ _ hty; omega
                  have hk5 := ((HK2.out.grown HGR.out (by simp; omega)).bel hb5).alloc (.cells #[.int .i64 0, .int .u64 0, .string ⟨#[]⟩, .slice none 0 0, .int .i64 0, .int .i64 (er : Int), .int .i64 (qe : Int)] 150);obtain ⟨c0, c1, c2, c3, c4, c5, c6⟩ := blk7 hk5;obtain ⟨z0, z1, z2, z3, z4, z5, z6⟩ := blk7_soft hk5
                  have HT := hid (show tk b (r' + 1) p = .bad er qe by
                   have h1 : rows (tk b r') (k + 1) q = .bad er qe := (by rw [rows, HROW.out]; simp only [hty]);have h2 := rows_bad _ _ _ _ _ h1 (v - (k + 1));rw [show k + 1 + (v - (k + 1)) = v by omega] at h2;exact HBN.out _ _ h2)
                  have HK5 := hid hk5;have HB6 := hid (bel_alloc (bel_trans HBWR.out hb5) (.cells #[.int .i64 0, .int .u64 0, .string ⟨#[]⟩, .slice none 0 0, .int .i64 0, .int .i64 (er : Int), .int .i64 (qe : Int)] 150));clear hk5 hb5 hty;go_wp2_with fail
                  refine bodyPost_ret (v := .agg #[.int .i64 0, .int .u64 0, .string ⟨#[]⟩, .slice none 0 0, .int .i64 0, .int .i64 (er : Int), .int .i64 (qe : Int)]) (by simp [results, Tryz.results120, go_sem, c0, c1, c2, c3, c4, c5, c6]) rfl ?_;exact tuck_bad_at HT.out HB6.out HK5.out _ rfl
              · obtain rfl : k = v := by omega
                have hk5 := HK2.out.grown HGR.out (by simp; omega);obtain ⟨c0, c1, c2, c3, c4, c5, c6⟩ := blk7 hk5;obtain ⟨z0, z1, z2, z3, z4, z5, z6⟩ := blk7_soft hk5;obtain ⟨d0, d1, d2, d3⟩ := blk4 HBX.out;go_wp2_with fail
                refine bodyPost_ret (v := .agg #[.int .i64 2, .int .u64 0, .string ⟨#[]⟩, .slice V k cv, .int .i64 (q1 : Int), .int .i64 0, .int .i64 0]) (by simp [results, Tryz.results120, go_sem, c0, c1, c2, c3, c4, c5, c6]) rfl ?_;have hr := own_row4 (S := fun b => w.heap.size + 1 ≤ b) HO.out (fun b hb => by omega) fun h hh => (HLS.out h hh).more fun b hb _ => (by omega);rw [HM.out] at hr;have hlen := hr.1;have hlx : Lies wr (fun b => w.heap.size + 1 ≤ b) (.mk 2 0 ByteArray.empty xs) V cv := hr.lies (by omega) (by omega) (by show (0 : Nat) ≤ _; omega);have := tuck_ok_at (HBO.out _ _ HROW.out) HBWR.out hlx hk5 (q1 : Int) rfl;simp only [It.kids, hlen] at this;exact this
       · have hne : (((er : Nat) : Int) != 0) = true := by rw [bne_iff_ne]; omega
         have HT := hid (htn he);have hk1 := (Blk.new w 150 #[.int .i64 0, .int .u64 0, .string ⟨#[]⟩, .slice none 0 0, .int .i64 0, .int .i64 0, .int .i64 0]).bel hb1;have hk2 := hk1.alloc (.cells #[.int .u64 (v : Int), .int .i64 (m : Int), .int .i64 (er : Int)] 181);have hbw : Below w.heap.size w (w1.alloc (.cells #[.int .u64 (v : Int), .int .i64 (m : Int), .int .i64 (er : Int)] 181)) := bel_alloc ((bel_alloc (Below.refl _ _) _).trans (hb1.mono (by rw [size_alloc]; omega))) _;obtain ⟨c0, c1, c2, c3, c4, c5, c6⟩ := blk7 hk2;obtain ⟨z0, z1, z2, z3, z4, z5, z6⟩ := blk7_soft hk2;have HK := hid hk2;have HBW := hid hbw;clear hrc hbd hk1 hk2 hbw hb1;clear htn htb hok;go_wp2_with fail
         refine bodyPost_ret (v := .agg #[.int .i64 0, .int .u64 0, .string ⟨#[]⟩, .slice none 0 0, .int .i64 0, .int .i64 (er : Int), .int .i64 ((p : Int) + 1)]) (by simp [results, Tryz.results120, go_sem, c0, c1, c2, c3, c4, c5, c6]) rfl ?_;exact tuck_bad_at HT.out HBW.out HK.out _ (by omega)
theorem reftk_any (b : List Nat) (A : Option Addr) (n c : Nat) (hb : ∀ x ∈ b, x < 256) (hn : n ≤ 2000000) : ∀ (r d p : Nat) (w : World), r + d = 16 → Rd w A n c (cs b) → p ≤ n →
 Calls Tryz.prog 120 #[.slice A n c, .int .i64 (p : Int), .int .i64 (d : Int)] w (Tuck b r p w) := by
 intro r;induction r with
 | zero => exact fun d p w hrd hr hp => reftk_step b 0 d p A n c w hrd hr hb hp hn fun r' _ _ e => by omega
 | succ r ih =>
   intro d p w hrd hr hp;refine reftk_step b (r + 1) d p A n c w hrd hr hb hp hn fun r' p w e hr hp => ?_;obtain rfl : r = r' := (by omega);have := ih (d + 1) p w (by omega) hr hp;rwa [show ((d + 1 : Nat) : Int) = (d : Int) + 1 by omega] at this
end Go.Proofs.YthlhchaoedcdbaaGreatDoor.Cp
/- The document's Get: the item that bytes are, or an error and its place. -/
namespace Go.Proofs.YthlhchaoedcdbaaGreatDoor.Cp
open Lib (hid)
open Go.RowKit Mem Cod
theorem get_end {b : List Nat} {w w1 : World} {x : It} {A : Option Addr} {c er p : Nat} (hp : getX b = x ∧ getE b = er ∧ getP b = p) (hb : Below w.heap.size w w1) (hl : Lies w1 (fun b => w.heap.size ≤ b) x A c) :
 GetIs b w (.returned (.tuple #[.agg #[.int .i64 x.kind, .int .u64 (x.num : Int), .string x.str, .slice A x.kids.length c], .int .i64 (er : Int), .int .i64 (p : Int)])) w1 := by
 obtain ⟨rfl, rfl, rfl⟩ := hp;exact ⟨A, c, rfl, hl, hb⟩
set_option maxRecDepth 100000 in
set_option maxHeartbeats 2000000 in
theorem refget_any (b : List Nat) (A : Option Addr) (n c : Nat) (w : World) (hr : Rd w A n c (cs b)) (hb : ∀ x ∈ b, x < 256) (hn : n ≤ 1000000) :
 Calls Tryz.prog 76 #[.slice A n c] w (GetIs b w) := by
 have hlb := hr.len;rw [length_cs] at hlb;have HR := hid hr;have HB := hid hb;have HLB := hid hlb;clear hr hb hlb;have hgt : decide ((1048576 : Int) < n) = false := by simp; omega
 go_enter Tryz.func76, Tryz.ntmps76
 go_wp2_with fail
 refine (reftk_any b A n c HB.out (by omega) 16 0 0 _ rfl (HR.out.alloc _) (Nat.zero_le _)).mono ?_;rintro e w2 ⟨hb2, ⟨x, q, A2, cA, htk, rfl, hl2⟩ | ⟨er, q, htk, rfl⟩⟩
 · have hgood := tk_good HB.out (by have := HLB.out; omega) 16 0 x q (by omega) htk
   have hq : q ≤ n := (by have := hgood.2.2.2.1; have := HLB.out; omega);rw [size_alloc] at hl2;have hk2 := ((Blk.new w 57 #[.int .i64 0, .int .u64 0, .string ⟨#[]⟩, .slice none 0 0]).bel hb2).alloc (.cells #[.int .i64 x.kind, .int .u64 (x.num : Int), .string x.str, .slice A2 x.kids.length cA, .int .i64 (q : Int), .int .i64 0, .int .i64 0] 150);obtain ⟨c0, c1, c2, c3⟩ := blk4 hk2;obtain ⟨z0, z1, z2, z3⟩ := blk4_soft hk2;have HK := hid hk2;have HL := hid (hl2.alloc (.cells #[.int .i64 x.kind, .int .u64 (x.num : Int), .string x.str, .slice A2 x.kids.length cA, .int .i64 (q : Int), .int .i64 0, .int .i64 0] 150));have HBW := hid (bel_alloc ((bel_alloc (Below.refl _ _) _).trans (hb2.mono (by rw [size_alloc]; omega))) (.cells #[.int .i64 x.kind, .int .u64 (x.num : Int), .string x.str, .slice A2 x.kids.length cA, .int .i64 (q : Int), .int .i64 0, .int .i64 0] 150));have HT := hid htk;clear hgood hk2 hl2 hb2 htk;by_cases hlt : (q : Int) < n
   · go_wp2_with fail
     go_region;go_wp2_with fail
     obtain ⟨hk, hgr⟩ := blk4_set HK.out (.int .i64 0) (.int .u64 0) (.string ⟨#[]⟩) (.slice none 0 0);have hb3 : Below w.heap.size w _ := HBW.out.trans (gr_below hgr HBW.out.size fun b hb => by cases hb; exact Nat.le_refl _);generalize (((((w2.alloc (.cells #[.int .i64 x.kind, .int .u64 (x.num : Int), .string x.str, .slice A2 x.kids.length cA, .int .i64 (q : Int), .int .i64 0, .int .i64 0] 150)).setCell ⟨w.heap.size, 0, none⟩ (.int .i64 0)).setCell ⟨w.heap.size, 1, none⟩ (.int .u64 0)).setCell ⟨w.heap.size, 2, none⟩ (.string ⟨#[]⟩)).setCell ⟨w.heap.size, 3, none⟩ (.slice none 0 0)) = w3 at hk hb3 ⊢;obtain ⟨e0, e1, e2, e3⟩ := blk4 (show Blk w3.drew w.heap.size 57 #[.int .i64 0, .int .u64 0, .string ⟨#[]⟩, .slice none 0 0] from hk);refine bodyPost_ret (v := .tuple #[.agg #[.int .i64 0, .int .u64 0, .string ⟨#[]⟩, .slice none 0 0], .int .i64 3, .int .i64 (q : Int)]) (by simp [results, Tryz.results76, go_sem, e0, e1, e2, e3]) rfl ?_;exact get_end (x := .mk 0 0 ByteArray.empty []) (A := none) (c := 0) (er := 3) (get_parts_bad (show Cod.get b = .bad 3 q by rw [Cod.get, if_neg (by have := HLB.out; omega), HT.out]; simp only; rw [if_pos (by have := HLB.out; omega)])) hb3.drew (lies_leaf _ _ (by omega) (by omega) (by show (0 : Nat) ≤ _; omega))
   · go_wp2_with fail
     obtain ⟨hk, hgr⟩ := blk4_set HK.out (.int .i64 x.kind) (.int .u64 (x.num : Int)) (.string x.str) (.slice A2 x.kids.length cA);have hb3 : Below w.heap.size w _ := HBW.out.trans (gr_below hgr HBW.out.size fun b hb => by cases hb; exact Nat.le_refl _);have hl3 := HL.out.grown hgr fun b hb => (by simp; omega);generalize (((((w2.alloc (.cells #[.int .i64 x.kind, .int .u64 (x.num : Int), .string x.str, .slice A2 x.kids.length cA, .int .i64 (q : Int), .int .i64 0, .int .i64 0] 150)).setCell ⟨w.heap.size, 0, none⟩ (.int .i64 x.kind)).setCell ⟨w.heap.size, 1, none⟩ (.int .u64 (x.num : Int))).setCell ⟨w.heap.size, 2, none⟩ (.string x.str)).setCell ⟨w.heap.size, 3, none⟩ (.slice A2 x.kids.length cA)) = w3 at hk hb3 hl3 ⊢;obtain ⟨e0, e1, e2, e3⟩ := blk4 (show Blk w3 w.heap.size 57 #[.int .i64 x.kind, .int .u64 (x.num : Int), .string x.str, .slice A2 x.kids.length cA] from hk);refine bodyPost_ret (v := .tuple #[.agg #[.int .i64 x.kind, .int .u64 (x.num : Int), .string x.str, .slice A2 x.kids.length cA], .int .i64 0, .int .i64 0]) (by simp [results, Tryz.results76, go_sem, e0, e1, e2, e3]) rfl ?_;exact get_end (er := 0) (p := 0) (get_parts_ok (show Cod.get b = .ok x 0 by rw [Cod.get, if_neg (by have := HLB.out; omega), HT.out]; simp only; rw [if_neg (by have := HLB.out; omega)])) hb3 (hl3.more fun b hb _ => by omega)
 · have hne : ((er : Int) != 0) = true := by rw [bne_iff_ne]; have := tk_bad_ne _ _ _ _ _ htk; omega
   have hk2 := ((Blk.new w 57 #[.int .i64 0, .int .u64 0, .string ⟨#[]⟩, .slice none 0 0]).bel hb2).alloc (.cells #[.int .i64 0, .int .u64 0, .string ⟨#[]⟩, .slice none 0 0, .int .i64 0, .int .i64 (er : Int), .int .i64 (q : Int)] 150);obtain ⟨c0, c1, c2, c3⟩ := blk4 hk2;obtain ⟨z0, z1, z2, z3⟩ := blk4_soft hk2;have HK := hid hk2;have HBW := hid (bel_alloc ((bel_alloc (Below.refl _ _) _).trans (hb2.mono (by rw [size_alloc]; omega))) (.cells #[.int .i64 0, .int .u64 0, .string ⟨#[]⟩, .slice none 0 0, .int .i64 0, .int .i64 (er : Int), .int .i64 (q : Int)] 150));have HT := hid htk;clear hk2 hb2 htk;go_wp2_with fail
   go_region;go_wp2_with fail
   obtain ⟨hk, hgr⟩ := blk4_set HK.out (.int .i64 0) (.int .u64 0) (.string ⟨#[]⟩) (.slice none 0 0);have hb3 : Below w.heap.size w _ := HBW.out.trans (gr_below hgr HBW.out.size fun b hb => by cases hb; exact Nat.le_refl _);generalize (((((w2.alloc (.cells #[.int .i64 0, .int .u64 0, .string ⟨#[]⟩, .slice none 0 0, .int .i64 0, .int .i64 (er : Int), .int .i64 (q : Int)] 150)).setCell ⟨w.heap.size, 0, none⟩ (.int .i64 0)).setCell ⟨w.heap.size, 1, none⟩ (.int .u64 0)).setCell ⟨w.heap.size, 2, none⟩ (.string ⟨#[]⟩)).setCell ⟨w.heap.size, 3, none⟩ (.slice none 0 0)) = w3 at hk hb3 ⊢;obtain ⟨e0, e1, e2, e3⟩ := blk4 (show Blk w3.drew w.heap.size 57 #[.int .i64 0, .int .u64 0, .string ⟨#[]⟩, .slice none 0 0] from hk);refine bodyPost_ret (v := .tuple #[.agg #[.int .i64 0, .int .u64 0, .string ⟨#[]⟩, .slice none 0 0], .int .i64 (er : Int), .int .i64 (q : Int)]) (by simp [results, Tryz.results76, go_sem, e0, e1, e2, e3]) rfl ?_;exact get_end (x := .mk 0 0 ByteArray.empty []) (A := none) (c := 0) (get_parts_bad (show Cod.get b = .bad er q by rw [Cod.get, if_neg (by have := HLB.out; omega), HT.out])) hb3.drew (lies_leaf _ _ (by omega) (by omega) (by show (0 : Nat) ≤ _; omega))
end Go.Proofs.YthlhchaoedcdbaaGreatDoor.Cp
