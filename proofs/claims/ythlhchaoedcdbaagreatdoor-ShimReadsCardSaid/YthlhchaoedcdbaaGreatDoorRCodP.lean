/-
  Texts of earlier layers, as one.
-/
import Derived.Test.YthlhchaoedcdbaaGreatDoorRNum
import Derived.WalkSmall
import Derived.KernelRfl
import Derived.Defers
import Derived.Recover
import Derived.Laws.Pointers
import Derived.BigRegion
/- codec.Text: the item. -/
namespace Go.Proofs.YthlhchaoedcdbaaGreatDoor.Cp
open Lib (hid)
open Go.RowKit Mem Cod
set_option maxRecDepth 20000 in
theorem text_any (s : ByteArray) (w : World) : Calls Tryz.prog 110 #[.string s] w (Hands (.agg #[.int .i64 1, .int .u64 0, .string s, .slice none 0 0]) w) := by
 go_enter Tryz.func110, Tryz.ntmps110
 go_wp2_with fail
 exact bodyPost_ret (v := .agg #[.int .i64 1, .int .u64 0, .string s, .slice none 0 0]) (by simp [results, Tryz.results110, go_sem]) rfl ⟨rfl, bel_alloc (Below.refl _ _) _⟩
end Go.Proofs.YthlhchaoedcdbaaGreatDoor.Cp
/- codec.formed tells whether an item is of a kind and has nothing that this kind doesn't have. -/
namespace Go.Proofs.YthlhchaoedcdbaaGreatDoor.Cp
open Lib (hid)
open Go.RowKit Mem Cod
theorem z_eq (m : Nat) : ((m : Int) == 0) = decide (m = 0) := by rw [Bool.eq_iff_iff]; simp
theorem s_eq (s : ByteArray) : s.toList.isEmpty = decide (s = ByteArray.empty) := by
 rw [Bool.eq_iff_iff, List.isEmpty_iff, toList_nil, size_zero, decide_eq_true_eq]
set_option maxRecDepth 20000 in
set_option maxHeartbeats 1000000 in
theorem formed_any (x : It) (A : Option Addr) (c : Nat) (w : World) :
 Calls Tryz.prog 137 #[.agg #[.int .i64 x.kind, .int .u64 (x.num : Int), .string x.str, .slice A x.kids.length c]] w (Tells (formed x) w) := by
 obtain ⟨k, n, s, l⟩ := x;simp only [It.kind, It.num, It.str, It.kids];generalize hF : formed (.mk k n s l) = F;have HF := hid hF;clear hF;generalize hm : l.length = m;have HM := hid hm;clear hm
 have fin : ∀ (b : Bool) (w' : World), b = formed (.mk k n s l) → Below w.heap.size w w' → Tells F w (.returned (.bool b)) w' := by
  rintro b w' rfl hb;rw [← HF.out];exact ⟨rfl, hb⟩
 have FIN := hid fin;clear fin;have hml := HM.out;by_cases h0 : k = 0
 · subst h0
   clear hml;go_enter Tryz.func137, Tryz.ntmps137
   go_wp2_with fail
   all_goals
    go_ret;refine FIN.out _ _ ?_ (bel_alloc (Below.refl _ _) _);have hml := HM.out
    simp_all [formed, It.kind, It.str, It.kids, toList_nil]
    try exact z_eq _
 · by_cases h1 : k = 1
   · subst h1
     clear hml h0;go_enter Tryz.func137, Tryz.ntmps137
     go_wp2_with fail
     all_goals
      go_ret;refine FIN.out _ _ ?_ (bel_alloc (Below.refl _ _) _);have hml := HM.out
      simp_all [formed, It.kind, It.num, It.kids]
      try exact z_eq _
   · by_cases h2 : k = 2
     · subst h2
       clear hml h0 h1;go_enter Tryz.func137, Tryz.ntmps137
       go_wp2_with fail
       all_goals
        go_ret;refine FIN.out _ _ ?_ (bel_alloc (Below.refl _ _) _)
        simp_all [formed, It.kind, It.num, It.str]
        try exact s_eq _
     · have e0 : (k == 0) = false := by simpa using h0
       have e1 : (k == 1) = false := (by simpa using h1);have e2 : (k == 2) = false := (by simpa using h2);have H0 := hid h0;have H1 := hid h1;have H2 := hid h2;clear hml h0 h1 h2;go_enter Tryz.func137, Tryz.ntmps137
       go_wp2_with fail
       go_ret;refine FIN.out _ _ ?_ (bel_alloc (Below.refl _ _) _);have h0 := H0.out;have h1 := H1.out;have h2 := H2.out;simp [formed, It.kind, h0, h1, h2]
end Go.Proofs.YthlhchaoedcdbaaGreatDoor.Cp
/- The document's check of any item: what is wrong with it, nested so deep. -/
namespace Go.Proofs.YthlhchaoedcdbaaGreatDoor.Cp
open Lib (hid)
open Go.RowKit Mem Cod
theorem chks_stop {l : List It} {k d : Nat} (hk : k < l.length) (h0 : chks (l.take k) d = 0) (h1 : chk l[k] d ≠ 0) : chks l d = chk l[k] d := by
 conv => lhs; rw [← List.take_append_drop k l]
 rw [chks_append, if_pos h0, List.drop_eq_getElem_cons hk];simp only [chks];rw [if_neg h1]
theorem chks_go {l : List It} {k d : Nat} (hk : k < l.length) (h0 : chks (l.take k) d = 0) (h1 : chk l[k] d = 0) : chks (l.take (k + 1)) d = 0 := by
 rw [List.take_add_one, List.getElem?_eq_getElem hk, chks_append, if_pos h0];simpa [chks_one] using h1
end Go.Proofs.YthlhchaoedcdbaaGreatDoor.Cp
/- The document's Form of a right item is its form; the document's Put answers it, or what is wrong. -/
namespace Go.Proofs.YthlhchaoedcdbaaGreatDoor.Cp
open Lib (hid)
open Go.RowKit Mem Cod
theorem forms_take {l : List It} {k : Nat} (hk : k < l.length) : forms (l.take (k + 1)) = forms (l.take k) ++ form l[k] := by
 rw [List.take_add_one, List.getElem?_eq_getElem hk, forms_append];simp [forms_one]
theorem length_forms_take (l : List It) (k : Nat) : (forms (l.take k)).length ≤ (forms l).length := by
 conv => rhs; rw [← List.take_append_drop k l, forms_append]
 simp
def PutIs (x : It) (w : World) (e : Ending) (w' : World) : Prop :=
 ∃ A n c, e = .returned (.tuple #[.slice A n c, .int .i64 ((chk x 0 : Nat) : Int)]) ∧ Rd w' A n c (cs (if chk x 0 = 0 then form x else [])) ∧ Below w.heap.size w w'
end Go.Proofs.YthlhchaoedcdbaaGreatDoor.Cp
/- codec's planter: fail, over, add, plant: of a right item comes its tree, and the length of its form is counted; of any other one a fault is thrown that tells what is wrong. -/
namespace Go.Proofs.YthlhchaoedcdbaaGreatDoor.Cp
open Lib (hid)
open Go.RowKit Mem Cod
set_option maxRecDepth 20000 in
theorem fail_any (e p : Nat) (w : World) : Calls Tryz.prog 92 #[.int .i64 (e : Int), .int .i64 (p : Int)] w fun en w' => en = .panicked (flt e p) ∧ w = w' := by
 go_enter Tryz.func92, Tryz.ntmps92
 go_wp2_with fail
 exact ⟨rfl, rfl, rfl⟩
theorem fail_4 (w : World) : Calls Tryz.prog 92 #[.int .i64 4, .int .i64 0] w fun en w' => en = .panicked (flt 4 0) ∧ w = w' := fail_any 4 0 w
theorem fail_12 (w : World) : Calls Tryz.prog 92 #[.int .i64 12, .int .i64 0] w fun en w' => en = .panicked (flt 12 0) ∧ w = w' := fail_any 12 0 w
set_option maxRecDepth 20000 in
theorem over_any (g s : Nat) (w : World) (h : Plan w g s) (hs : s ≤ 1048576) : Calls Tryz.prog 100 #[.pointer (some ⟨g, 0, none⟩)] w fun en w' => en = .returned (.bool false) ∧ w = w' := by
 have hc : w.cell? ⟨g, 0, none⟩ = some (.int .i64 (s : Int)) := Blk.cell h 0;have hs' : ¬ (1048576 < (s : Int)) := by omega
 go_enter Tryz.func100, Tryz.ntmps100
 go_wp2_with fail
 go_ret;exact ⟨rfl, rfl⟩
set_option maxRecDepth 20000 in
theorem add_any (g s n : Nat) (w : World) (h : Plan w g s) (hs : s + n ≤ 1048576) : Calls Tryz.prog 138 #[.pointer (some ⟨g, 0, none⟩), .int .i64 (n : Int)] w
 fun en w' => en = .returned (.tuple #[]) ∧ Plan w' g (s + n) ∧ w.grownBy w' (some g) := by
 have hc : w.cell? ⟨g, 0, none⟩ = some (.int .i64 (s : Int)) := Blk.cell h 0;have hz : w.frozen? ⟨g, 0, none⟩ = false := Blk.soft h 0;go_enter Tryz.func138, Tryz.ntmps138
 go_wp2_with fail
 have e : min ((s : Int) + n) 1048577 = ((s + n : Nat) : Int) := by rw [Int.min_eq_left (by omega)]; omega
 rw [e];go_end0
 exact ⟨rfl, h.put 0 _, gr_set (gr_refl _ _) (.inl rfl) _⟩
def Planted (x : It) (d g s : Nat) (w : World) (e : Ending) (w' : World) : Prop :=
 w.grownBy w' (some g) ∧ ((chk x d = 0 ∧ (∃ v, e = .returned v ∧ IsNode w' (fun b => w.heap.size ≤ b) x v) ∧ Plan w' g (s + (form x).length)) ∨ (chk x d ≠ 0 ∧ e = .panicked (flt (chk x d) 0)))
set_option maxRecDepth 20000 in
set_option maxHeartbeats 2000000 in
theorem plant_bad (x : It) (A : Option Addr) (c d g s : Nat) (w : World) (hf : formed x = false) :
 Calls Tryz.prog 99 #[.pointer (some ⟨g, 0, none⟩), .agg #[.int .i64 x.kind, .int .u64 (x.num : Int), .string x.str, .slice A x.kids.length c], .int .i64 d] w (Planted x d g s w) := by
 have h4 : chk x d = 4 := by rw [chk_eq, if_pos hf]
 have H4 := hid h4;have HF := hid hf;clear h4 hf;go_enter Tryz.func99, Tryz.ntmps99
 go_wp2_with fail
 refine (formed_any x A c _).mono ?_;rintro e w1 ⟨rfl, hb1⟩;rw [HF.out];go_wp2_with fail
 refine (fail_4 _).mono ?_;rintro e w2 ⟨rfl, rfl⟩;refine ⟨rfl, gr_bel (gr_alloc (gr_refl _ _) _) hb1, .inr ⟨by rw [H4.out]; omega, by rw [H4.out]⟩⟩
set_option maxRecDepth 20000 in
set_option maxHeartbeats 2000000 in
theorem plant_deep (x : It) (A : Option Addr) (c d g s : Nat) (w : World) (hf : formed x = true) (hd : 16 ≤ (d : Int)) :
 Calls Tryz.prog 99 #[.pointer (some ⟨g, 0, none⟩), .agg #[.int .i64 x.kind, .int .u64 (x.num : Int), .string x.str, .slice A x.kids.length c], .int .i64 d] w (Planted x d g s w) := by
 have h4 : chk x d = 12 := by rw [chk_eq, if_neg (by simp [hf]), if_pos (by omega)]
 have H4 := hid h4;have HF := hid hf;clear h4 hf;go_enter Tryz.func99, Tryz.ntmps99
 go_wp2_with fail
 refine (formed_any x A c _).mono ?_;rintro e w1 ⟨rfl, hb1⟩;rw [HF.out];go_wp2_with fail
 refine (fail_12 _).mono ?_;rintro e w2 ⟨rfl, rfl⟩;refine ⟨rfl, gr_bel (gr_alloc (gr_refl _ _) _) hb1, .inr ⟨by rw [H4.out]; omega, by rw [H4.out]⟩⟩
set_option maxRecDepth 20000 in
set_option maxHeartbeats 2000000 in
theorem plant_num (n : Nat) (A : Option Addr) (c d g s : Nat) (w : World) (hd : (d : Int) ≤ 15) (hn : n ≤ 18446744073709551615) (hp : Plan w g s) (hs : s + (1 + Num.size n) ≤ 1048576) :
 Calls Tryz.prog 99 #[.pointer (some ⟨g, 0, none⟩), .agg #[.int .i64 0, .int .u64 (n : Int), .string ByteArray.empty, .slice A 0 c], .int .i64 d] w (Planted (.mk 0 n ByteArray.empty []) d g s w) := by
 have hf : formed (.mk 0 n ByteArray.empty []) = true := by simp [formed, It.kind, It.str, It.kids]
 have HF := hid hf;clear hf;go_enter Tryz.func99, Tryz.ntmps99
 go_wp2_with fail
 refine (formed_any (.mk 0 n ByteArray.empty []) A c _).mono ?_;rintro e w1 ⟨rfl, hb1⟩;rw [HF.out];have hp1 : Plan w1 g s := (hp.alloc _).bel hb1;have hg1 : w.grownBy w1 (some g) := gr_bel (gr_alloc (gr_refl _ _) _) hb1;have hk1 := (Blk.new w 57 #[.int .i64 0, .int .u64 (n : Int), .string ByteArray.empty, .slice A 0 c]).bel hb1;clear hb1;go_wp2_with fail
 refine (add_any g s 1 _ hp1 (by omega)).mono ?_;rintro e w2 ⟨rfl, hp2, hg2⟩;have hk2 := hk1.grown hg2 (by have := hp.lt; simp; omega);obtain ⟨hc0, hc1, hc2, hc3⟩ := blk4 hk2;go_wp2_with fail
 refine (size_any n _ (by omega) (by omega)).mono ?_;rintro e w3 ⟨rfl, rfl⟩;go_wp2_with fail
 refine (add_any g (s + 1) (Num.size n) _ hp2 (by omega)).mono ?_;rintro e w4 ⟨rfl, hp4, hg4⟩;have hk4 := hk2.grown hg4 (by have := hp.lt; simp; omega);obtain ⟨_, hd1, _, _⟩ := blk4 hk4;go_wp2_with fail
 go_ret;refine ⟨(hg1.trans hg2).trans hg4, .inl ⟨?_, ⟨_, rfl, ?_⟩, ?_⟩⟩
 · rw [chk_eq]
   simp [HF.out, It.kids, chks];omega
 · rw [node_eq]
   exact ⟨.inl ⟨rfl, hn, rfl⟩, fun i hi => by simp [It.kids] at hi⟩
 · rw [form0 rfl, List.length_cons, It.num, Num.length_put, show s + (Num.size n + 1) = s + 1 + Num.size n by omega]
   exact hp4
set_option maxRecDepth 20000 in
set_option maxHeartbeats 2000000 in
theorem plant_text (st : ByteArray) (A : Option Addr) (c d g s : Nat) (w : World) (hd : (d : Int) ≤ 15) (hn : st.size ≤ 140737488355328) (hp : Plan w g s) (hs : s + (1 + Num.size st.size + st.size) ≤ 1048576) :
 Calls Tryz.prog 99 #[.pointer (some ⟨g, 0, none⟩), .agg #[.int .i64 1, .int .u64 0, .string st, .slice A 0 c], .int .i64 d] w (Planted (.mk 1 0 st []) d g s w) := by
 have hf : formed (.mk 1 0 st []) = true := by simp [formed, It.kind, It.num, It.kids]
 have HF := hid hf;clear hf;go_enter Tryz.func99, Tryz.ntmps99
 go_wp2_with fail
 refine (formed_any (.mk 1 0 st []) A c _).mono ?_;rintro e w1 ⟨rfl, hb1⟩;rw [HF.out];have hp1 : Plan w1 g s := (hp.alloc _).bel hb1;have hg1 : w.grownBy w1 (some g) := gr_bel (gr_alloc (gr_refl _ _) _) hb1;have hk1 := (Blk.new w 57 #[.int .i64 1, .int .u64 0, .string st, .slice A 0 c]).bel hb1;clear hb1;go_wp2_with fail
 refine (add_any g s 1 _ hp1 (by omega)).mono ?_;rintro e w2 ⟨rfl, hp2, hg2⟩;have hk2 := hk1.grown hg2 (by have := hp.lt; simp; omega);obtain ⟨hc0, hc1, hc2, hc3⟩ := blk4 hk2;go_wp2_with fail
 refine (size_any st.size _ (by omega) (by omega)).mono ?_;rintro e w3 ⟨rfl, rfl⟩;go_wp2_with fail
 refine (add_any g (s + 1) (Num.size st.size) _ hp2 (by omega)).mono ?_;rintro e w4 ⟨rfl, hp4, hg4⟩;have hk4 := hk2.grown hg4 (by have := hp.lt; simp; omega);obtain ⟨_, _, hd1, _⟩ := blk4 hk4;go_wp2_with fail
 refine (add_any g (s + 1 + Num.size st.size) st.size _ hp4 (by omega)).mono ?_;rintro e w5 ⟨rfl, hp5, hg5⟩;have hk5 := hk4.grown hg5 (by have := hp.lt; simp; omega);obtain ⟨_, _, hd2, _⟩ := blk4 hk5;go_wp2_with fail
 go_ret;refine ⟨((hg1.trans hg2).trans hg4).trans hg5, .inl ⟨?_, ⟨_, rfl, ?_⟩, ?_⟩⟩
 · rw [chk_eq]
   simp [HF.out, It.kids, chks];omega
 · rw [node_eq]
   exact ⟨.inr (.inl ⟨rfl, hn, rfl⟩), fun i hi => by simp [It.kids] at hi⟩
 · rw [form1 rfl, List.length_cons, It.str, List.length_append, Num.length_put, Cod.length_bts, show s + (Num.size st.size + st.size + 1) = s + 1 + Num.size st.size + st.size by omega]
   exact hp5
end Go.Proofs.YthlhchaoedcdbaaGreatDoor.Cp
/- codec's plant of a list, and of any item. -/
namespace Go.Proofs.YthlhchaoedcdbaaGreatDoor.Cp
open Lib (hid)
open Go.RowKit Mem Cod
theorem info54 : (Tryz.prog.info? 122).map (fun i => (i.zero, i.size, i.bytes)) = some (some .nilIface, 1, 16) := by kernel_rfl
def PlantRel (w : World) (l : List It) (d g s : Nat) (parts i : Value) (wr : World) : Prop :=
 ∃ (k : Nat) (V : Option Addr) (cv : Nat) (us : List Value), k ≤ l.length ∧ i = .int .i64 k ∧ parts = .slice V k cv ∧ wr.ownsRow w.heap.size 122 1 (.slice V k cv) k us ∧ chks (l.take k) (d + 1) = 0 ∧
  Plan wr g (s + (forms (l.take k)).length) ∧ w.grownBy wr (some g) ∧
  ∀ (j : Nat) (y : It) (u : Value), l[j]? = some y → us[j]? = some u → IsNode wr (fun b => w.heap.size ≤ b ∧ some b ≠ (Value.slice V k cv).ownBlock) y u
set_option maxRecDepth 20000 in
set_option maxHeartbeats 4000000 in
theorem plant_list (l : List It) (A : Option Addr) (c d g s : Nat) (S : Nat → Prop) (w : World) (hd : (d : Int) ≤ 15) (hl : Lies w S (.mk 2 0 ByteArray.empty l) A c) (hS : ∀ b, S b → b ≠ g) (hp : Plan w g s)
 (hs : s + (form (.mk 2 0 ByteArray.empty l)).length ≤ 1000000)
 (ih : ∀ (y : It) (A : Option Addr) (c s : Nat) (w : World), y ∈ l → Lies w S y A c → Plan w g s → s + (form y).length ≤ 1000000 →
  Calls Tryz.prog 99 #[.pointer (some ⟨g, 0, none⟩), .agg #[.int .i64 y.kind, .int .u64 (y.num : Int), .string y.str, .slice A y.kids.length c], .int .i64 ((d : Int) + 1)] w (Planted y (d + 1) g s w)) :
 Calls Tryz.prog 99 #[.pointer (some ⟨g, 0, none⟩), .agg #[.int .i64 2, .int .u64 0, .string ByteArray.empty, .slice A l.length c], .int .i64 d] w (Planted (.mk 2 0 ByteArray.empty l) d g s w) := by
 obtain ⟨i0, hi, hz0, hz1, hz2⟩ := info_parts info54;have hf : formed (.mk 2 0 ByteArray.empty l) = true := by simp [formed, It.kind, It.num, It.str]
 obtain ⟨_, _, _, _, b5, b6⟩ := hl.bounds;simp only [It.kids] at b5;have HF := hid hf;have HL := hid hl;have IH := hid ih;have HS := hid hS;clear hf hl ih hS;rw [form2 rfl] at hs;simp only [It.kids, List.length_cons, List.length_append, Num.length_put] at hs;have h9 := Num.size_pos l.length;have hlen : l.length ≤ 1000000 := by have := length_forms l; omega
 have hdb : decide (16 ≤ (d : Int)) = false := by simp; omega
 go_enter Tryz.func99, Tryz.ntmps99
 go_wp2_with fail
 refine (formed_any (.mk 2 0 ByteArray.empty l) A c _).mono ?_;rintro e w1 ⟨rfl, hb1⟩;rw [HF.out];have hp1 : Plan w1 g s := (hp.alloc _).bel hb1;have hg1 : w.grownBy w1 (some g) := gr_bel (gr_alloc (gr_refl _ _) _) hb1;have hk1 := (Blk.new w 57 #[.int .i64 2, .int .u64 0, .string ByteArray.empty, .slice A l.length c]).bel hb1;have hs1 : w.heap.size + 1 ≤ w1.heap.size := by have := hb1.size; simp at this; omega
 clear hb1;go_wp2_with fail
 refine (add_any g s 1 _ hp1 (by omega)).mono ?_;rintro e w2 ⟨rfl, hp2, hg2⟩;have hk2 := hk1.grown hg2 (by have := hp.lt; simp; omega);obtain ⟨hc0, hc1, hc2, hc3⟩ := blk4 hk2;go_wp2_with fail
 refine (size_any l.length _ (by omega) (by omega)).mono ?_;rintro e w3 ⟨rfl, rfl⟩;go_wp2_with fail
 refine (add_any g (s + 1) (Num.size l.length) _ hp2 (by omega)).mono ?_;rintro e w4 ⟨rfl, hp4, hg4⟩;have hk4 := hk2.grown hg4 (by have := hp.lt; simp; omega);obtain ⟨_, _, _, hd3⟩ := blk4 hk4;have hgw : w.grownBy w4 (some g) := (hg1.trans hg2).trans hg4;clear hp1 hg1 hk1 hp2 hg2 hk2 hc0 hc1 hc2 hc3 hg4;go_wp2_with fail
 have hst : PlantRel w l d g (s + 1 + Num.size l.length) (.slice none 0 0) (.int .i64 0) w4 := by
  refine ⟨0, none, 0, [], Nat.zero_le _, rfl, rfl, ⟨rfl, .inl ⟨rfl, rfl⟩⟩, rfl, by simpa [forms] using hp4, hgw, fun j y u _ h => by simp at h⟩
 clear hp4 hgw hk4 hd3;go_loopw [7, 59] (PlantRel w l d g (s + 1 + Num.size l.length)) (fun _ i _ => l.length - (intOf i).toNat)
 case atStart => exact hst
 case round =>
  clear hst;obtain ⟨k, V, cv, us, hk, rfl, rfl, hown, hz, hpl, hgr, hnod⟩ := hrel;have HO := hid hown;have HZ := hid hz;have HN := hid hnod;clear hown hz hnod;by_cases hlt : k < l.length
  · obtain ⟨ad, A', c', rfl, hSad, hblk, hsp, hl'⟩ := ((lies_eq _ _ _ _ _).1 HL.out).2.2 k hlt
    simp only [It.kids] at hsp hl';have hne : some ad.block ≠ some g := (by have := HS.out _ hSad; simpa using this);obtain ⟨s0, s1, s2, s3⟩ := hsp.keep (w' := wr) fun p hp => World.cell?_of_block (by rw [hp, add_block]; exact hgr.block _ hblk hne);generalize hea : ad.add (k * 4) = ea at s0 s1 s2 s3;have HSP := hid hsp;have HL' := hid (hl'.grown (w' := wr) hgr fun b hb => by simpa using HS.out b hb);clear hsp hl' hne
    have hfk : (forms (l.take k)).length + (form l[k]).length ≤ (forms l).length := by
     have h1 := length_forms_take l (k + 1);rwa [forms_take hlt, List.length_append] at h1
    go_wp2_with fail
    refine (IH.out l[k] A' c' _ _ (List.getElem_mem hlt) (HL'.out.alloc _) (hpl.alloc _) (by omega)).mono ?_;rintro e w5 ⟨hg5, ⟨hc0, ⟨u, rfl, hnu⟩, hpu⟩ | ⟨hc0, rfl⟩⟩
    · have HC0 := hid hc0
      have HG5 := hid hg5;obtain ⟨ut, up, rfl⟩ := hnu.iface;have HNU := hid hnu;clear hc0 hg5 hnu;go_wp2_with fail
      refine (over_any g _ _ hpu (by omega)).mono ?_;rintro e w6 ⟨rfl, rfl⟩;have hs5 : w.heap.size ≤ w5.heap.size := (by have := HG5.out.size; have := hgr.size; rw [size_alloc] at *; omega);have hog : (Value.slice V k cv).ownBlock ≠ some g := fun e => (by have := (HO.out.lt g e).1; have := hp.lt; omega);have hown5 : w5.ownsRow w.heap.size 122 1 (.slice V k cv) k us := (HO.out.alloc _).kept HG5.out (.inr hog);go_wp2_with (at_builtin; refine wpList_append_lies _ rfl (.tmp 71) (.tmp 73) 166 rfl w.heap.size 122 i0 _ 1 16 Tryz.underlying166 hi hz0 hz1 hz2 rfl (by omega) (.slice V k cv) k us rfl (hown5.alloc _) ⟨w5.heap.size, 0, none⟩ 1 1 [.iface ut up] rfl rfl (cell_one_new _ _ _) (by intro u hu; simp at hu; subst hu; rfl) (by omega) (by unfold maxLen; omega) (by omega) (by rw [size_alloc]; omega) _ rfl ?_; intro g' cap' w7 hown7 hgr7 hat7 hlt7)
      have hgr6 : wr.grownBy w5 (some g) := (World.grownBy_alloc wr _ _).trans HG5.out;have hsz5 : wr.heap.size ≤ w5.heap.size := hgr6.size
      have hplan : Plan w7 g (s + 1 + Num.size l.length + (forms (l.take (k + 1))).length) := by
       rw [forms_take hlt, List.length_append, ← Nat.add_assoc];exact (hpu.alloc _).grown hgr7 (fun e => hog e.symm)
      refine ⟨⟨k + 1, _, cap', us ++ [.iface ut up], by omega, by simp, rfl, hown7, chks_go hlt HZ.out HC0.out, hplan, ?_, ?_⟩, by simp [intOf]; omega⟩
      · refine gr_step (gr_alloc (hgr.trans hgr6) _) hgr7 fun b hb => .inl (HO.out.lt b hb).1
      · intro j y u hy hu
        have hlen := HO.out.1;rw [Nat.mul_one] at hlen
        have hg'5 : ∀ b, b < wr.heap.size → some b ≠ (Value.slice V k cv).ownBlock → some b ≠ (Value.slice (some ⟨g', 0, none⟩) (k + 1) cap').ownBlock := by
         intro b hb hne e;have e' : b = g' := (by simpa [Value.ownBlock] using e);rcases hat7 with h | h
         · exact hne (by rw [h, e'])
         · rw [size_alloc] at h; omega
        rcases Nat.lt_or_ge j k with hj | hj
        · rw [List.getElem?_append_left (by omega)] at hu
          have hn := HN.out j y u hy hu;refine IsNode.grown (S' := fun b => w.heap.size ≤ b ∧ b < wr.heap.size ∧ some b ≠ (Value.slice V k cv).ownBlock) hn hgr6 ?_ |>.keep y (S' := _) ?_ ?_ ?_
          · intro b hb hlt'
            refine ⟨fun e => ?_, hb.1, hlt', hb.2⟩;have : b = g := (by simpa using e);have := hp.lt;omega
          · rintro b ⟨h1, h2, h3⟩ _
            exact ⟨h1, hg'5 b h2 h3⟩
          · have := hgr7.size
            rw [size_alloc] at this;omega
          · rintro b ⟨h1, h2, h3⟩ h4
            exact (hgr7.block b (by rw [size_alloc]; omega) h3).trans (Below.heap_alloc _ _ b h4)
        · have hj2 : j = k := by
           have := (List.getElem?_eq_some_iff.1 hu).1;simp at this;omega
          subst hj2;rw [List.getElem?_append_right (by omega), hlen, Nat.sub_self] at hu;simp at hu;subst hu;rw [List.getElem?_eq_getElem hlt] at hy;cases hy;refine HNU.out.keep _ ?_ ?_ ?_
          · intro b hb h4
            rw [size_alloc] at hb;refine ⟨by have := hgr.size; omega, fun e => ?_⟩;have e' : b = g' := (by simpa [Value.ownBlock] using e);rcases hat7 with h | h
            · have := (HO.out.lt _ h).2; omega
            · rw [size_alloc] at h; omega
          · have := hgr7.size
            rw [size_alloc] at this;omega
          · intro b hb h4
            rw [size_alloc] at hb;exact (hgr7.block b (by rw [size_alloc]; omega) (fun e => by have := (HO.out.lt b e.symm).2; omega)).trans (Below.heap_alloc _ _ b h4)
    · have hfin : ([] : List Deferred) = [] ∧ Planted (.mk 2 0 ByteArray.empty l) d g s w (.panicked (flt (chk l[k] (d + 1)) 0)) w5 := by
       refine ⟨rfl, hgr.trans ((World.grownBy_alloc wr _ _).trans hg5), .inr ?_⟩
       have e : chk (.mk 2 0 ByteArray.empty l) d = chk l[k] (d + 1) := by
        rw [chk_eq, if_neg (by simp [HF.out]), if_neg (by omega)];exact chks_stop hlt HZ.out hc0
       rw [e];exact ⟨hc0, rfl⟩
      exact hfin
  · obtain rfl : k = l.length := by omega
    go_wp2_with fail
    go_ret;have hz := HZ.out;rw [List.take_length] at hz hpl;refine ⟨hgr, .inl ⟨?_, ⟨_, rfl, ?_⟩, ?_⟩⟩
    · rw [chk_eq, if_neg (by simp [HF.out]), if_neg (by omega)]
      exact hz
    · obtain ⟨A2, c2, e2, hr2⟩ := Rd.of_own HO.out
      cases e2;rw [node_eq];refine ⟨.inr (.inr ⟨rfl, _, _, rfl, hr2.le, hr2.cap, hr2.nil⟩), fun i hi => ?_⟩;simp only [It.kids] at hi ⊢;obtain ⟨ad, u, rfl, hb, hu, hcl⟩ := hr2.at_ hi;refine ⟨ad, _, u, rfl, (HO.out.lt ad.block rfl).1, hb, hcl, ?_⟩;exact (HN.out i _ u (List.getElem?_eq_getElem hi) hu).keep _ (fun b hb _ => hb.1) (Nat.le_refl _) fun _ _ _ => rfl
    · rw [form2 rfl, List.length_cons, It.kids, List.length_append, Num.length_put, show s + (Num.size l.length + (forms l).length + 1) = s + 1 + Num.size l.length + (forms l).length by omega]
      exact hpl
theorem plant_any (x : It) : ∀ (A : Option Addr) (c d g s : Nat) (S : Nat → Prop) (w : World), d ≤ 16 → (∀ b, S b → b ≠ g) → Lies w S x A c → Plan w g s → s + (form x).length ≤ 1000000 →
 Calls Tryz.prog 99 #[.pointer (some ⟨g, 0, none⟩), .agg #[.int .i64 x.kind, .int .u64 (x.num : Int), .string x.str, .slice A x.kids.length c], .int .i64 d] w (Planted x d g s w) := by
 induction x using It.ind with
 | h x ih =>
 intro A c d g s S w hd hS hl hp hsz;by_cases hf : formed x = false
 · exact plant_bad x A c d g s w hf
 · rw [Bool.not_eq_false] at hf
   by_cases h15 : 16 ≤ (d : Int)
   · exact plant_deep x A c d g s w hf h15
   · have hb := hl.bounds
     rcases formed_cases (x := x) (by simp [hf]) with ⟨n, rfl⟩ | ⟨st, rfl⟩ | ⟨l, rfl⟩ <;> simp only [It.num, It.str, It.kids, It.kind] at hb ih ⊢
     · rw [form0 rfl, It.num, List.length_cons, Num.length_put] at hsz
       exact plant_num n A c d g s w (by omega) hb.2.2.1 hp (by omega)
     · rw [form1 rfl, It.str, List.length_cons, List.length_append, Num.length_put, Cod.length_bts] at hsz
       exact plant_text st A c d g s w (by omega) hb.2.2.2.1 hp (by omega)
     · refine plant_list l A c d g s S w (by omega) hl hS hp hsz fun y A c s w hy hl' hp' hs' => ?_
       have := ih y hy A c (d + 1) g s S w (by omega) hS hl' hp' hs';rwa [show ((d + 1 : Nat) : Int) = (d : Int) + 1 by omega] at this
end Go.Proofs.YthlhchaoedcdbaaGreatDoor.Cp
/- What the program's type assertions come to, each a closed fact of the program. -/
namespace Go.Proofs.YthlhchaoedcdbaaGreatDoor.Cp
open Lib (hid)
theorem as_num_num (v : Value) (w : World) : (Instr.typeAssert (.iface 163 v) 122 163 true).run Tryz.prog w = .ok (.tuple #[v, .bool true]) w := by kernel_rfl
theorem as_text_num (v : Value) (w : World) : (Instr.typeAssert (.iface 164 v) 122 163 true).run Tryz.prog w = .ok (.tuple #[.int .u64 0, .bool false]) w := by kernel_rfl
theorem as_list_num (v : Value) (w : World) : (Instr.typeAssert (.iface 166 v) 122 163 true).run Tryz.prog w = .ok (.tuple #[.int .u64 0, .bool false]) w := by kernel_rfl
theorem as_text_text (v : Value) (w : World) : (Instr.typeAssert (.iface 164 v) 122 164 true).run Tryz.prog w = .ok (.tuple #[v, .bool true]) w := by kernel_rfl
theorem as_list_text (v : Value) (w : World) : (Instr.typeAssert (.iface 166 v) 122 164 true).run Tryz.prog w = .ok (.tuple #[.string ⟨#[]⟩, .bool false]) w := by kernel_rfl
theorem as_list_list (v : Value) (w : World) : (Instr.typeAssert (.iface 166 v) 122 166 true).run Tryz.prog w = .ok (.tuple #[v, .bool true]) w := by kernel_rfl
theorem as_list (v : Value) (w : World) : (Instr.typeAssert (.iface 166 v) 122 166 false).run Tryz.prog w = .ok v w := by kernel_rfl
theorem as_fault (v : Value) (w : World) : (Instr.typeAssert (.iface 117 v) 20 117 false).run Tryz.prog w = .ok v w := by kernel_rfl
end Go.Proofs.YthlhchaoedcdbaaGreatDoor.Cp
/- codec's head and write: behind bytes of the call's own the form of a right item's tree. -/
namespace Go.Proofs.YthlhchaoedcdbaaGreatDoor.Cp
open Lib (hid)
open Go.RowKit Mem Cod
def Wrote (base n : Nat) (xs : List Value) (bs : List Nat) (w : World) (e : Ending) (w' : World) : Prop :=
 ∃ V c, e = .returned (.slice V (n + bs.length) c) ∧ w'.ownsRow base 5 1 (.slice V (n + bs.length) c) (n + bs.length) (xs ++ cs bs) ∧ Below base w w'
set_option maxRecDepth 20000 in
set_option maxHeartbeats 2000000 in
theorem head_any (base n : Nat) (V : Option Addr) (c : Nat) (xs : List Value) (k : Nat) (v : Int) (w : World) (hown : w.ownsRow base 5 1 (.slice V n c) n xs) (hb : base ≤ w.heap.size) (hn : n ≤ 2000000) (h0 : 0 ≤ v) (h1 : v ≤ 18446744073709551615) (m : Nat) (p : List Nat) (hp : Num.put v.toNat = p) (hm : p.length = m) (hm9 : m ≤ 9) :
 Calls Tryz.prog 140 #[.slice V n c, .int .u8 (k : Int), .int .u64 v] w (Wrote base n xs (k :: p) w) := by
 obtain ⟨i0, hi, hz0, hz1, hz2⟩ := info_parts info5;have HP := hid hp;have HM := hid hm;have HO := hid hown;clear hp hm hown;go_enter Tryz.func140, Tryz.ntmps140
 go_wp2_with (at_builtin; refine wpList_append_rd rfl (.tmp 7) (.tmp 9) 35 rfl base 5 i0 _ 1 Tryz.underlying35 hi hz0 hz1 hz2 rfl V n c xs rfl (HO.out.alloc _) _ 1 1 [_] rfl (Rd.one _ _ _) (by intro u hu; simp at hu; subst hu; rfl) (by unfold maxLen; omega) (by omega) (by rw [size_alloc]; omega) ?_; intro V2 c2 w2 hown2 hb2)
 refine (put_gives none 0 0 m [] p v _ (Rd.nil_ _) h0 h1 (by omega) (by simpa using HP.out) HM.out).mono ?_;rintro e w3 ⟨V3, c3, rfl, hr3, hb3⟩;have hs2 : base ≤ w2.heap.size := by have := hb2.size; rw [size_alloc] at this; omega
 have hs3 : base ≤ w3.heap.size := by have := hb3.size; omega
 have hown3 := ownsRow_below hown2 hb3;go_wp2_with (at_builtin; refine wpList_append_rd rfl (.tmp 10) (.tmp 12) 35 rfl base 5 i0 _ 1 Tryz.underlying35 hi hz0 hz1 hz2 rfl V2 (n + 1) c2 _ rfl hown3 V3 m c3 (cs p) rfl hr3 (cs_one _) (by unfold maxLen; omega) (by omega) hs3 ?_; intro V4 c4 w4 hown4 hb4)
 go_ret;have e : n + (k :: p).length = n + 1 + m := by rw [List.length_cons, HM.out]; omega
 refine ⟨V4, c4, by rw [e]; rfl, ?_, ?_⟩
 · rw [e, show cs (k :: p) = [.int .u8 (k : Int)] ++ cs p from rfl, ← List.append_assoc]
   exact hown4
 · exact ((((Below.refl _ _).alloc hb _).trans hb2).trans (hb3.mono hs2)).trans hb4
def WriteRel (w : World) (base n : Nat) (xs : List Value) (l : List It) (bs : List Nat) (b i : Value) (wr : World) : Prop :=
 ∃ (k : Nat) (V : Option Addr) (c : Nat), k ≤ l.length ∧ i = .int .i64 k ∧ b = .slice V (n + (bs ++ forms (l.take k)).length) c ∧
  wr.ownsRow base 5 1 (.slice V (n + (bs ++ forms (l.take k)).length) c) (n + (bs ++ forms (l.take k)).length) (xs ++ cs (bs ++ forms (l.take k))) ∧ Below base w wr
set_option maxRecDepth 20000 in
set_option maxHeartbeats 2000000 in
theorem write_num (nn : Nat) (base n : Nat) (V : Option Addr) (c : Nat) (xs : List Value) (w : World) (hown : w.ownsRow base 5 1 (.slice V n c) n xs) (hb : base ≤ w.heap.size) (hn : n ≤ 2000000) (h1 : nn ≤ 18446744073709551615) :
 Calls Tryz.prog 101 #[.slice V n c, .iface 163 (.int .u64 (nn : Int))] w (Wrote base n xs (0 :: Num.put nn) w) := by
 have h9 : (Num.put nn).length ≤ 9 := by rw [Num.length_put]; exact Num.size_le nn (by omega)
 have a1 := as_num_num;go_enter Tryz.func101, Tryz.ntmps101
 go_wp2_with fail
 refine (head_any base n V c xs 0 nn _ hown hb hn (by omega) (by omega) _ (Num.put nn) (by simp) rfl h9).mono ?_;rintro e w2 ⟨V2, c2, rfl, hown2, hb2⟩;go_wp2_with fail
 go_ret;exact ⟨V2, c2, rfl, hown2, hb2⟩
set_option maxRecDepth 20000 in
set_option maxHeartbeats 2000000 in
theorem write_text (s : ByteArray) (base n : Nat) (V : Option Addr) (c : Nat) (xs : List Value) (w : World) (hown : w.ownsRow base 5 1 (.slice V n c) n xs) (hb : base ≤ w.heap.size) (hn : n ≤ 2000000) (h1 : s.size ≤ 2000000) :
 Calls Tryz.prog 101 #[.slice V n c, .iface 164 (.string s)] w (Wrote base n xs (1 :: (Num.put s.size ++ Cod.bts s)) w) := by
 obtain ⟨i0, hi, hz0, hz1, hz2⟩ := info_parts info5;have h9 : (Num.put s.size).length ≤ 9 := by rw [Num.length_put]; exact Num.size_le s.size (by omega)
 generalize hP : Num.put s.size = P at h9 ⊢;have HP := hid hP;clear hP;have a1 := as_text_num;have a2 := as_text_text;go_enter Tryz.func101, Tryz.ntmps101
 go_wp2_with fail
 refine (head_any base n V c xs 1 s.size _ hown hb hn (by omega) (by omega) _ P (by simpa using HP.out) rfl h9).mono ?_;rintro e w2 ⟨V2, c2, rfl, hown2, hb2⟩;have hs2 : base ≤ w2.heap.size := by have := hb2.size; omega
 generalize hN : n + (1 :: P).length = N at hown2 ⊢;have hN2 : N ≤ 2000010 := by rw [← hN, List.length_cons]; omega
 have HN := hid hN;clear hN;go_wp2_with (at_builtin; refine Lib.wpList_append_own_string _ rfl (.tmp 25) (.tmp 26) 35 164 rfl base 5 i0 Tryz.underlying35 Tryz.underlying164 hi hz0 hz1 hz2 (.slice V2 N c2) N _ rfl hown2 s rfl (by unfold maxLen; omega) (by omega) hs2 ?_; intro v3 w3 hown3 hg3 _; obtain ⟨V3, c3, rfl, hr3⟩ := Rd.of_own hown3)
 go_ret
 have e : n + (1 :: (P ++ Cod.bts s)).length = N + s.size := by
  have := HN.out;rw [List.length_cons] at this ⊢;rw [List.length_append, Cod.length_bts];omega
 refine ⟨V3, c3, by rw [e]; rfl, ?_, hb2.trans (gr_below hg3 hs2 fun b hb' => (hown2.lt b hb').1)⟩;rw [e, show cs (1 :: (P ++ Cod.bts s)) = cs (1 :: P) ++ cs (Cod.bts s) from by rw [← cs_append]; rfl, ← List.append_assoc, ← Cod.strCells_bts];exact hown3
set_option maxRecDepth 20000 in
set_option maxHeartbeats 2000000 in
theorem write_list (l : List It) (A : Option Addr) (cl : Nat) (S : Nat → Prop) (base n : Nat) (V : Option Addr) (c : Nat) (xs : List Value) (w : World) (hx : IsNode w S (.mk 2 0 ByteArray.empty l) (.iface 166 (.slice A l.length cl))) (hS : ∀ b, S b → b < base)
 (hown : w.ownsRow base 5 1 (.slice V n c) n xs) (hb : base ≤ w.heap.size) (hn : n + (form (.mk 2 0 ByteArray.empty l)).length ≤ 2000000)
 (ih : ∀ (y : It) (u : Value) (n : Nat) (V : Option Addr) (c : Nat) (xs : List Value) (w : World), y ∈ l → IsNode w S y u → w.ownsRow base 5 1 (.slice V n c) n xs → base ≤ w.heap.size → n + (form y).length ≤ 2000000 →
  Calls Tryz.prog 101 #[.slice V n c, u] w (Wrote base n xs (form y) w)) :
 Calls Tryz.prog 101 #[.slice V n c, .iface 166 (.slice A l.length cl)] w (Wrote base n xs (2 :: (Num.put l.length ++ forms l)) w) := by
 rw [form2 rfl] at hn;simp only [It.kids, List.length_cons, List.length_append] at hn;have hlen : l.length ≤ 2000000 := by have := length_forms l; omega
 have h9 : (Num.put l.length).length ≤ 9 := by rw [Num.length_put]; exact Num.size_le l.length (by omega)
 generalize hP : Num.put l.length = P at h9 hn ⊢;have HP := hid hP;have HX := hid hx;have HS := hid hS;have IH := hid ih;clear hP hx hS ih;have a1 := as_list_num;have a2 := as_list_text;have a3 := as_list_list;go_enter Tryz.func101, Tryz.ntmps101
 go_wp2_with fail
 refine (head_any base n V c xs 2 l.length _ hown hb (by omega) (by omega) (by omega) _ P (by simpa using HP.out) rfl h9).mono ?_;rintro e w2 ⟨V2, c2, rfl, hown2, hb2⟩
 have hst : WriteRel w base n xs l (2 :: P) (.slice V2 (n + (2 :: P).length) c2) (.int .i64 0) w2 := by
  refine ⟨0, V2, c2, Nat.zero_le _, rfl, by simp [forms], by simpa [forms] using hown2, hb2⟩
 clear hown2 hb2;go_wp2_with fail
 go_loopw [0, 38] (WriteRel w base n xs l (2 :: P)) (fun _ i _ => l.length - (intOf i).toNat)
 case atStart => exact hst
 case round =>
  clear hst;obtain ⟨k, V3, c3, hk, rfl, rfl, hown3, hb3⟩ := hrel;have hs3 : base ≤ wr.heap.size := by have := hb3.size; omega
  generalize hN : n + (2 :: P ++ forms (l.take k)).length = N at hown3 ⊢;have HN := hid hN;have HO := hid hown3;have HB := hid hb3;clear hN hown3 hb3;by_cases hlt : k < l.length
  · obtain ⟨ad, cc, u, e, hSb, hblk, hcell, hnu⟩ := ((node_eq _ _ _ _).1 HX.out).2 k hlt
    simp only [It.kids] at e hnu;injection e with _ e;injection e with e1 _ e2;subst e1;subst e2;have hc : wr.cell? (ad.add k) = some u := (HB.out.cell (by rw [add_block]; exact HS.out _ hSb)).trans hcell;have HC := hid hcell;have HNU := hid (hnu.below (S' := S) HB.out fun b hb _ => ⟨HS.out b hb, hb⟩);clear hcell hnu
    have hfk : (forms (l.take k)).length + (form l[k]).length ≤ (forms l).length := by
     have h1 := length_forms_take l (k + 1);rwa [forms_take hlt, List.length_append] at h1
    go_wp2_with fail
    refine (IH.out l[k] u N V3 c3 _ _ (List.getElem_mem hlt) HNU.out HO.out hs3 (by have := HN.out; simp at this; omega)).mono ?_;rintro e w4 ⟨V4, c4, rfl, hown4, hb4⟩;have e4 : 2 :: P ++ forms (l.take (k + 1)) = (2 :: P ++ forms (l.take k)) ++ form l[k] := (by rw [forms_take hlt, List.append_assoc]);have e5 : n + ((2 :: P ++ forms (l.take k)) ++ form l[k]).length = N + (form l[k]).length := (by rw [List.length_append, ← Nat.add_assoc, HN.out]);have E4 := hid e4;have E5 := hid e5;clear e4 e5;go_wp2_with fail
    refine ⟨⟨k + 1, V4, c4, by omega, by simp, by rw [E4.out, E5.out], ?_, HB.out.trans hb4⟩, by simp [intOf]; omega⟩;rw [E4.out, E5.out, cs_append, ← List.append_assoc];exact hown4
  · obtain rfl : k = l.length := by omega
    go_wp2_with fail
    go_ret;have hN := HN.out;have hO := HO.out;rw [List.take_length] at hN hO;have e : n + (2 :: (P ++ forms l)).length = N := hN;refine ⟨V3, c3, by rw [e]; rfl, ?_, HB.out⟩;rw [e];exact hO
theorem write_any (x : It) : ∀ (v : Value) (S : Nat → Prop) (base n : Nat) (V : Option Addr) (c : Nat) (xs : List Value) (w : World), IsNode w S x v → (∀ b, S b → b < base) → w.ownsRow base 5 1 (.slice V n c) n xs → base ≤ w.heap.size → n + (form x).length ≤ 2000000 →
 Calls Tryz.prog 101 #[.slice V n c, v] w (Wrote base n xs (form x) w) := by
 induction x using It.ind with
 | h x ih =>
 intro v S base n V c xs w hx hS hown hb hn;rcases ((node_eq _ _ _ _).1 hx).1 with ⟨e, h1, rfl⟩ | ⟨e, h1, rfl⟩ | ⟨e, A, cl, rfl, h1, h2, h3⟩
 · have ef : form x = 0 :: Num.put x.num := by rw [e]; exact form0 rfl
   rw [ef] at hn ⊢;exact write_num x.num base n V c xs w hown hb (by omega) h1
 · have ef : form x = 1 :: (Num.put x.str.size ++ Cod.bts x.str) := by rw [e]; exact form1 rfl
   rw [ef] at hn ⊢;simp only [List.length_cons, List.length_append, Cod.length_bts] at hn;exact write_text x.str base n V c xs w hown hb (by omega) (by omega)
 · have ef : form x = 2 :: (Num.put x.kids.length ++ forms x.kids) := by rw [e]; exact form2 rfl
   rw [ef];have hx' := hx;rw [e] at hx' hn;refine write_list x.kids A cl S base n V c xs w hx' hS hown hb hn fun y u n V c xs w hy hnu ho hb hn => ?_;exact ih y hy u S base n V c xs w hnu hS ho hb hn
end Go.Proofs.YthlhchaoedcdbaaGreatDoor.Cp
/- codec.Put: the form of a right item, or what is wrong with it; a fault goes up by a panic, and is caught. -/
namespace Go.Proofs.YthlhchaoedcdbaaGreatDoor.Cp
open Lib (hid)
open Go.RowKit Mem Cod
def PutDone (x : It) (bb : Nat) (w : World) (e : Ending) (w' : World) : Prop :=
 (chk x 0 = 0 ∧ e = .returned (.tuple #[]) ∧ w.grownBy w' (some bb) ∧ ∃ A c, Blk w' bb 35 #[.slice A (form x).length c] ∧ Rd w' A (form x).length c (cs (form x)) ∧ ∀ ad, A = some ad → w.heap.size ≤ ad.block) ∨
 (chk x 0 ≠ 0 ∧ e = .panicked (flt (chk x 0) 0) ∧ Below w.heap.size w w')
set_option maxRecDepth 20000 in
set_option maxHeartbeats 2000000 in
theorem put1_any (x : It) (A : Option Addr) (c bx bb : Nat) (S : Nat → Prop) (w : World) (hx : Blk w bx 57 #[.int .i64 x.kind, .int .u64 (x.num : Int), .string x.str, .slice A x.kids.length c])
 (hb : Blk w bb 35 #[.slice none 0 0]) (hl : Lies w S x A c) (hS : ∀ b, S b → b < w.heap.size) (hsz : (form x).length ≤ 1000000) :
 Calls Tryz.prog 98 #[.pointer (some ⟨bx, 0, none⟩), .pointer (some ⟨bb, 0, none⟩)] w (PutDone x bb w) := by
 obtain ⟨i0, hi, hz0, hz1, hz2⟩ := info_parts info5;have hbx := hx.lt;have hbb := hb.lt;obtain ⟨c0, c1, c2, c3⟩ := blk4 (hx.alloc (.cells #[.int .i64 0] 130));have HL := hid hl;have HS := hid hS;have HX := hid hx;have HB := hid hb;clear hl hS hx hb;go_enter Tryz.func98, Tryz.ntmps98
 go_wp2_with fail
 refine (plant_any x A c 0 w.heap.size 0 S _ (by omega) (fun b hb => by have := HS.out b hb; omega) (HL.out.alloc _) (Blk.new w _ _) (by omega)).mono ?_;rintro e w2 ⟨hg2, ⟨hc0, ⟨v, rfl, hnv⟩, hpl⟩ | ⟨hc0, rfl⟩⟩
 · have HC0 := hid hc0
   have HG2 := hid hg2;have HNV := hid hnv;clear hc0 hg2 hnv;rw [Nat.zero_add] at hpl;go_wp2_with fail
   refine (over_any w.heap.size (form x).length _ hpl (by omega)).mono ?_;rintro e w3 ⟨rfl, rfl⟩;have hcp : w2.cell? ⟨w.heap.size, 0, none⟩ = some (.int .i64 ((form x).length : Int)) := Blk.cell hpl 0;generalize hF : (form x).length = F at hsz hcp hpl;have HF := hid hF;clear hF;go_wp2_with (at_make; refine wpList_make_own _ rfl _ _ 35 rfl w2.heap.size 5 i0 _ 1 Tryz.underlying35 hi hz0 hz1 .i64 .i64 _ F rfl rfl (by omega) (by rw [hz2]; omega) (by unfold maxLen; omega) (Nat.le_refl _) ?_; intro w4 hown4 hg4)
   have hb2 : Blk w2 bb 35 #[.slice none 0 0] := (HB.out.alloc _).grown HG2.out (by simp; omega);have hs2 : w.heap.size + 1 ≤ w2.heap.size := (by have := HG2.out.size; rw [size_alloc] at this; exact this);have hs4 : w2.heap.size ≤ w4.heap.size := hg4.size;have hnv4 : IsNode w4 (fun b => b < w2.heap.size) x v := HNV.out.grown hg4 fun b _ hb => ⟨by simp, hb⟩
   refine (write_any x v _ w2.heap.size 0 _ F [] w4 hnv4 (fun _ h => h) hown4 hs4 (by rw [HF.out]; omega)).mono ?_;rintro e w5 ⟨V5, c5, rfl, hown5, hb5⟩;have hb4 : Blk w5 bb 35 #[.slice none 0 0] := (hb2.grown hg4 (by simp)).below hb5 (by omega);have hcb : w5.cell? ⟨bb, 0, none⟩ = some (.slice none 0 0) := hb4.cell 0;have hfb := hb4.soft 0;rw [Nat.zero_add, List.nil_append, HF.out] at hown5;rw [Nat.zero_add, HF.out];go_wp2_with fail
   go_end0
   refine .inl ⟨HC0.out, rfl, ?_, V5, c5, ?_, ?_, fun ad e => by subst e; have := (hown5.lt ad.block rfl).1; omega⟩
   · refine gr_set (below_gr ?_ _) (.inl rfl) _
     have h1 : Below w.heap.size w w2 := (bel_alloc (Below.refl _ _) _).trans (gr_below HG2.out (by rw [size_alloc]; omega) fun b hb => by cases hb; exact Nat.le_refl _);exact (h1.trans (gr_below hg4 (by omega) fun b hb => by cases hb)).trans (hb5.mono (by omega))
   · rw [HF.out]
     exact hb4.put 0 _
   · rw [HF.out]
     exact Rd.own (hown5.kept (gr_set (gr_refl w5 (some bb)) (.inl rfl) _) (.inr fun e => by have := (hown5.lt bb e).1; omega))
 · refine ⟨rfl, .inr ⟨hc0, rfl, ?_⟩⟩
   exact (bel_alloc (Below.refl _ _) _).trans (gr_below hg2 (by rw [size_alloc]; omega) fun b hb => by cases hb; exact Nat.le_refl _)
theorem caught1_panic (g : Nat) (e0 p0 : Int) (e q : Nat) (w : World) (hb : Blk w g 117 #[.int .i64 e0, .int .i64 p0]) :
 CallsD Tryz.prog 133 #[.pointer (some ⟨g, 0, none⟩)] (.panicking (flt e q)) w fun en u' w' =>
  en = .returned (.tuple #[]) ∧ u' = .panicking [{ v := .iface 117 (.agg #[.int .i64 (e : Int), .int .i64 (q : Int)]), recovered := true }] ∧ Blk w' g 117 #[.int .i64 (e : Int), .int .i64 (q : Int)] ∧ w.grownBy w' (some g) := by
 have hc0 : w.cell? ⟨g, 0, none⟩ = some (.int .i64 e0) := hb.cell 0;have hc1 : w.cell? ⟨g, 1, none⟩ = some (.int .i64 p0) := hb.cell 1;have hz0 := hb.soft 0;have hz1 := hb.soft 1;have ha := as_fault;refine callsD_of_wpS Tryz.func133 rfl fun c₀ cs hu => ?_;unfold flt at hu;apply wpS_seq;apply wpS_region;simp [wpOpsS, go_sem, recoverD, hu, Tryz.ntmps133, Exit.thenS];apply wpS_seq;apply wpS_region;simp [wpOpsS, go_sem, Exit.thenS];refine wpS_cond (t := true) (by simp [Act.eval, Array.replicate]) ?_;simp only [if_true];apply wpS_region;simp [wpOpsS, go_sem, hc0, hc1, hz0, hz1, ha, bodyPostS, results, Tryz.results133];exact ⟨by simpa using (hb.put 0 (.int .i64 (e : Int))).put 1 (.int .i64 (q : Int)), gr_set (p := ⟨g, 1, none⟩) (gr_set (p := ⟨g, 0, none⟩) (gr_refl w (some g)) (.inl rfl) _) (.inl rfl) _⟩
theorem caught1_idle (g : Nat) (w : World) :
 CallsD Tryz.prog 133 #[.pointer (some ⟨g, 0, none⟩)] .returning w fun en u' w' => en = .returned (.tuple #[]) ∧ u' = .returning ∧ w' = w := by
 refine callsD_of_wpS Tryz.func133 rfl fun c₀ cs hu => ?_;apply wpS_seq;apply wpS_region;simp [wpOpsS, go_sem, recoverD, hu, Tryz.ntmps133, Exit.thenS];apply wpS_seq;apply wpS_region;simp [wpOpsS, go_sem, Exit.thenS];refine wpS_cond (t := false) (by simp [Act.eval, Array.replicate]) ?_;simp only [Bool.false_eq_true, if_false];refine wpS_of_wp (wp_skip ?_);cases c₀
 simp_all [bodyPostS, results, Tryz.results133]
def Does (w : World) (P0 : World → Prop) (P1 : Nat → Nat → World → Prop) (e : Ending) (w' : World) : Prop :=
 w.heap.size < w'.heap.size ∧ Blk w' w.heap.size 117 #[.int .i64 0, .int .i64 0] ∧ ((e = .returned (.tuple #[]) ∧ P0 w') ∨ ∃ a b, e = .panicked (flt a b) ∧ P1 a b w')
def Caught (w : World) (P0 : World → Prop) (P1 : Nat → Nat → World → Prop) (e : Ending) (w' : World) : Prop :=
 ∃ (a b : Nat) (w1 : World), e = .returned (.agg #[.int .i64 (a : Int), .int .i64 (b : Int)]) ∧ w1.grownBy w' (some w.heap.size) ∧ ((a = 0 ∧ b = 0 ∧ P0 w1) ∨ P1 a b w1)
set_option maxRecDepth 20000 in
theorem caught_any (k : Nat) (cap : Array Value) (w : World) (P0 : World → Prop) (P1 : Nat → Nat → World → Prop)
 (hk : ∀ W : World, (callFunc k cap).run Tryz.prog W = .ok (.enter k cap) W) (h : Calls Tryz.prog k cap (w.alloc (.cells #[.int .i64 0, .int .i64 0] 117)) (Does w P0 P1)) :
 Calls Tryz.prog 90 #[.func (.func k) #[] cap] w (Caught w P0 P1) := by
 have hmf : ∀ (fn : Fn) (first cap : Array Value) (w : World), (Instr.makeFunc fn first cap).run Tryz.prog w = .ok (.func fn first cap) w := fun _ _ _ _ => rfl;have H := hid h;clear h
 go_enter_defers Tryz.func90, Tryz.ntmps90
 go_wp2_with fail
 refine H.out.mono ?_;rintro e w1 ⟨hs, hblk, ⟨rfl, h0⟩ | ⟨a, b, rfl, h1⟩⟩
 · have H0 := hid h0
   clear h0;have hc0 : w1.cell? ⟨w.heap.size, 0, none⟩ = some (.int .i64 0) := hblk.cell 0;have hc1 : w1.cell? ⟨w.heap.size, 1, none⟩ = some (.int .i64 0) := hblk.cell 1;have hz0 := hblk.soft 0;have hz1 := hblk.soft 1;go_wp2_with fail
   refine leaves_cons (f := 133) (args := #[.pointer (some ⟨w.heap.size, 0, none⟩)]) (by simp) (by simp [go_sem]) ?_;refine (caught1_idle w.heap.size _).mono ?_;rintro e u' w2 ⟨rfl, rfl, rfl⟩
   have hblk2 : Blk ((w1.setCell ⟨w.heap.size, 0, none⟩ (.int .i64 0)).setCell ⟨w.heap.size, 1, none⟩ (.int .i64 0)) w.heap.size 117 #[.int .i64 0, .int .i64 0] := by
    simpa using (hblk.put 0 (.int .i64 0)).put 1 (.int .i64 0)
   have hd0 := hblk2.cell 0;have hd1 := hblk2.cell 1;simp only [List.getElem?_toArray, List.getElem?_cons_succ, List.getElem?_cons_zero] at hd0 hd1
   have hgr : w1.grownBy ((w1.setCell ⟨w.heap.size, 0, none⟩ (.int .i64 0)).setCell ⟨w.heap.size, 1, none⟩ (.int .i64 0)) (some w.heap.size) :=
    gr_set (p := ⟨w.heap.size, 1, none⟩) (gr_set (p := ⟨w.heap.size, 0, none⟩) (gr_refl w1 (some w.heap.size)) (.inl rfl) _) (.inl rfl) _
   generalize (w1.setCell ⟨w.heap.size, 0, none⟩ (.int .i64 0)).setCell ⟨w.heap.size, 1, none⟩ (.int .i64 0) = w3 at hd0 hd1 hgr;simp [Leaves, settle, results, Tryz.results90, go_sem, hd0, hd1];exact ⟨0, 0, w1, rfl, hgr, .inl ⟨rfl, rfl, H0.out⟩⟩
 · refine leaves_cons (f := 133) (args := #[.pointer (some ⟨w.heap.size, 0, none⟩)]) (by simp) (by simp [go_sem]) ?_
   refine (caught1_panic w.heap.size 0 0 a b _ hblk).mono ?_;rintro e u' w2 ⟨rfl, rfl, hblk2, hgr⟩;have hd0 := hblk2.cell 0;have hd1 := hblk2.cell 1;simp only [List.getElem?_toArray, List.getElem?_cons_succ, List.getElem?_cons_zero] at hd0 hd1;simp [Leaves, settle, results, Tryz.results90, go_sem, hd0, hd1];exact ⟨a, b, w1, rfl, hgr, .inr h1⟩
def PutOk (x : It) (w : World) (w' : World) : Prop :=
 chk x 0 = 0 ∧ Below w.heap.size w w' ∧ w.heap.size + 2 < w'.heap.size ∧ ∃ A c, Blk w' (w.heap.size + 1) 35 #[.slice A (form x).length c] ∧ Rd w' A (form x).length c (cs (form x)) ∧ ∀ ad, A = some ad → w.heap.size + 3 ≤ ad.block
def PutNo (x : It) (w : World) (a b : Nat) (w' : World) : Prop :=
 chk x 0 ≠ 0 ∧ a = chk x 0 ∧ b = 0 ∧ Below w.heap.size w w' ∧ w.heap.size + 2 < w'.heap.size ∧ Blk w' (w.heap.size + 1) 35 #[.slice none 0 0]
theorem putdone_does {x : It} {w : World} {e : Ending} {w' : World} {o1 : Obj} (h : PutDone x (w.heap.size + 1) (((w.alloc o1).alloc (.cells #[.slice none 0 0] 35)).alloc (.cells #[.int .i64 0, .int .i64 0] 117)) e w') :
 Does ((w.alloc o1).alloc (.cells #[.slice none 0 0] 35)) (PutOk x w) (PutNo x w) e w' := by
 have hf : Blk (((w.alloc o1).alloc (.cells #[.slice none 0 0] 35)).alloc (.cells #[.int .i64 0, .int .i64 0] 117)) (w.heap.size + 2) 117 #[.int .i64 0, .int .i64 0] := by
  have := Blk.new ((w.alloc o1).alloc (.cells #[.slice none 0 0] 35)) 117 #[.int .i64 0, .int .i64 0];simpa only [size_alloc] using this
 have hb0 : Blk (((w.alloc o1).alloc (.cells #[.slice none 0 0] 35)).alloc (.cells #[.int .i64 0, .int .i64 0] 117)) (w.heap.size + 1) 35 #[.slice none 0 0] := by
  have := (Blk.new (w.alloc o1) 35 #[.slice none 0 0]).alloc (.cells #[.int .i64 0, .int .i64 0] 117);simpa only [size_alloc] using this
 have hw0 : Below w.heap.size w (((w.alloc o1).alloc (.cells #[.slice none 0 0] 35)).alloc (.cells #[.int .i64 0, .int .i64 0] 117)) := bel_alloc (bel_alloc (bel_alloc (Below.refl _ _) _) _) _;have hsz0 : (((w.alloc o1).alloc (.cells #[.slice none 0 0] 35)).alloc (.cells #[.int .i64 0, .int .i64 0] 117)).heap.size = w.heap.size + 3 := by simp only [size_alloc]
 unfold Does;simp only [size_alloc];generalize (((w.alloc o1).alloc (.cells #[.slice none 0 0] 35)).alloc (.cells #[.int .i64 0, .int .i64 0] 117)) = W at *;rcases h with ⟨h0, rfl, hg, A, c, hb, hr, ha⟩ | ⟨h0, rfl, hb⟩
 · have := hg.size
   exact ⟨by omega, hf.grown hg (by simp), .inl ⟨rfl, h0, hw0.trans (gr_below hg (by omega) fun b hb => by cases hb; omega), by omega, A, c, hb, hr, fun ad e => by have := ha ad e; omega⟩⟩
 · have := hb.size
   exact ⟨by omega, hf.bel hb, .inr ⟨_, _, rfl, h0, rfl, rfl, hw0.trans (hb.mono (by omega)), by omega, hb0.bel hb⟩⟩
theorem cell_same {w : World} {p : Addr} {v : Value} (h : w.cell? p = some v) (q : Addr) : (w.setCell p v).cell? q = w.cell? q := by
 by_cases e : q = p
 · subst e
   rw [h];exact World.cell?_setCell_same w q v h
 · exact World.cell?_setCell_other w p q v (fun h => e h.symm)
theorem rd_grown {w w' : World} {A : Option Addr} {n c : Nat} {xs : List Value} {r : Option Nat} (h : Rd w A n c xs) (hg : w.grownBy w' r) (hr : ∀ ad, A = some ad → some ad.block ≠ r) : Rd w' A n c xs :=
 ⟨h.len, h.le, h.cap, h.nil, fun hn => by
  obtain ⟨ad, e, hb, hc⟩ := h.spot hn;exact ⟨ad, e, by have := hg.size; omega, fun j u hu => (World.cell?_of_block (by rw [add_block]; exact hg.block _ hb (hr ad e))).trans (hc j u hu)⟩⟩
theorem call_put1 (cap : Array Value) (W : World) : (callFunc 98 cap).run Tryz.prog W = .ok (.enter 98 cap) W := by kernel_rfl
set_option maxRecDepth 20000 in
set_option maxHeartbeats 2000000 in
theorem put_item (x : It) (A : Option Addr) (c : Nat) (S : Nat → Prop) (w : World) (hl : Lies w S x A c) (hS : ∀ b, S b → b < w.heap.size) (hsz : (form x).length ≤ 1000000) :
 Calls Tryz.prog 48 #[.agg #[.int .i64 x.kind, .int .u64 (x.num : Int), .string x.str, .slice A x.kids.length c]] w (PutIs x w) := by
 have hmf : ∀ (fn : Fn) (first cap : Array Value) (w : World), (Instr.makeFunc fn first cap).run Tryz.prog w = .ok (.func fn first cap) w := fun _ _ _ _ => rfl;have HL := hid hl;have HS := hid hS;clear hl hS;go_enter Tryz.func48, Tryz.ntmps48
 go_wp2_with fail
 refine (caught_any 98 _ _ (PutOk x w) (PutNo x w) (call_put1 _) ?_).mono ?_
 · refine (put1_any x A c w.heap.size (w.heap.size + 1) S _ (((Blk.new w _ _).alloc _).alloc _) ((by have := Blk.new (w.alloc (.cells #[.int .i64 x.kind, .int .u64 (x.num : Int), .string x.str, .slice A x.kids.length c] 57)) 35 #[.slice none 0 0]; rw [size_alloc] at this; exact this.alloc _))
    (((HL.out.alloc _).alloc _).alloc _) (fun b hb => by have := HS.out b hb; simp only [size_alloc]; omega) hsz).mono ?_
   exact fun e w' h => putdone_does h
 simp only [Caught, size_alloc];rintro e w2 ⟨a, b, w1, rfl, hg, h⟩;rcases h with ⟨rfl, rfl, h0, hbl, hs, A1, c1, hb1, hr1, ha1⟩ | ⟨h0, rfl, rfl, hbl, hs, hb1⟩
 · have hb2 := hb1.grown hg (by simp)
   have hr2 := rd_grown hr1 hg fun ad e => (by have := ha1 ad e; simp; omega);have hbw : Below w.heap.size w w2 := hbl.trans (gr_below hg (by omega) fun b hb => by cases hb; omega);have hs2 : w.heap.size + 2 < w2.heap.size := (by have := hg.size; omega);have hc : (w2.alloc (.cells #[.int .i64 0, .int .i64 0] 117)).cell? ⟨w.heap.size + 1, 0, none⟩ = some (.slice A1 (form x).length c1) := (hb2.alloc _).cell 0;have hz := (hb2.alloc (.cells #[.int .i64 0, .int .i64 0] 117)).soft 0;have HB2 := hid hb2;have H0 := hid h0;have HR2 := hid hr2;have HBW := hid hbw;clear hb1 hr1 ha1 hbl hs hg h0 hr2 hbw hb2;go_wp2_with fail
   go_region;go_wp2_with fail
   have hfin : ((w2.alloc (.cells #[.int .i64 0, .int .i64 0] 117)).setCell ⟨w.heap.size + 1, 0, none⟩ (.slice A1 (form x).length c1)).drew.cell? ⟨w.heap.size + 1, 0, none⟩ = some (.slice A1 (form x).length c1) := (cell_same hc _).trans hc;refine bodyPost_ret (v := .tuple #[.slice A1 (form x).length c1, .int .i64 0]) (by simp [results, Tryz.results48, go_sem, hfin]) rfl ?_;refine ⟨A1, _, c1, by rw [H0.out]; rfl, ?_, ?_⟩
   · rw [if_pos H0.out]
     exact (HR2.out.alloc _).keep (w' := ((w2.alloc (.cells #[.int .i64 0, .int .i64 0] 117)).setCell ⟨w.heap.size + 1, 0, none⟩ (.slice A1 (form x).length c1)).drew) (by simp [World.setCell]) fun p _ => cell_same hc p
   · exact ((bel_alloc HBW.out _).setCell (p := ⟨w.heap.size + 1, 0, none⟩) (by simp) _).drew
 · have hb2 := hb1.grown hg (by simp)
   have hbw : Below w.heap.size w w2 := hbl.trans (gr_below hg (by omega) fun b hb => by cases hb; omega);have hs2 : w.heap.size + 2 < w2.heap.size := (by have := hg.size; omega);generalize hV : chk x 0 = v at h0;have HV := hid hV;have H0 := hid h0;have hc : (w2.alloc (.cells #[.int .i64 (v : Int), .int .i64 0] 117)).cell? ⟨w.heap.size + 1, 0, none⟩ = some (.slice none 0 0) := (hb2.alloc _).cell 0;have hz := (hb2.alloc (.cells #[.int .i64 (v : Int), .int .i64 0] 117)).soft 0;have HBW := hid hbw;clear hb1 hbl hs hg h0 hbw hb2 hV;go_wp2_with fail
   go_region;go_wp2_with fail
   have hfin : ((w2.alloc (.cells #[.int .i64 (v : Int), .int .i64 0] 117)).setCell ⟨w.heap.size + 1, 0, none⟩ (.slice none 0 0)).drew.cell? ⟨w.heap.size + 1, 0, none⟩ = some (.slice none 0 0) := (cell_same hc _).trans hc;refine bodyPost_ret (v := .tuple #[.slice none 0 0, .int .i64 (v : Int)]) (by simp [results, Tryz.results48, go_sem, hfin]) rfl ?_;refine ⟨none, 0, 0, by rw [HV.out], ?_, ?_⟩
   · rw [if_neg (by rw [HV.out]; exact H0.out)]
     exact Rd.nil_ _
   · exact ((bel_alloc HBW.out _).setCell (p := ⟨w.heap.size + 1, 0, none⟩) (by simp) _).drew
end Go.Proofs.YthlhchaoedcdbaaGreatDoor.Cp
