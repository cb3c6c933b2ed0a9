/-
  Texts of earlier layers, as one.
-/
import Derived.Test.YtkejjdoaljoooaaGreatDoorRCod
import Derived.Test.YtkejjdoaljoooaaGreatDoorRNum
import Derived.WalkSmall
import Derived.KernelRfl
import Derived.Defers
import Derived.Recover
import Derived.Laws.Pointers
import Derived.BigRegion
/- codec.Text: the item. -/
namespace Go.Proofs.YtkejjdoaljoooaaGreatDoor.Cp
open Lib (hid)
open Go.RowKit Mem Cod
set_option maxRecDepth 20000 in
theorem text_any (s : ByteArray) (w : World) : Calls Tryz.prog 66 #[.string s] w (Hands (.agg #[.int .i64 1, .int .u64 0, .string s, .slice none 0 0]) w) := by
 go_enter Tryz.func66, Tryz.ntmps66
 go_wp2_with fail
 exact bodyPost_ret (v := .agg #[.int .i64 1, .int .u64 0, .string s, .slice none 0 0]) (by simp [results, Tryz.results66, go_sem]) rfl ⟨rfl, bel_alloc (Below.refl _ _) _⟩
end Go.Proofs.YtkejjdoaljoooaaGreatDoor.Cp
/- codec.formed tells whether an item is of a kind and has nothing that this kind doesn't have. -/
namespace Go.Proofs.YtkejjdoaljoooaaGreatDoor.Cp
open Lib (hid)
open Go.RowKit Mem Cod
theorem z_eq (m : Nat) : ((m : Int) == 0) = decide (m = 0) := by rw [Bool.eq_iff_iff]; simp
theorem s_eq (s : ByteArray) : s.toList.isEmpty = decide (s = ByteArray.empty) := by
 rw [Bool.eq_iff_iff, List.isEmpty_iff, toList_nil, size_zero, decide_eq_true_eq]
set_option maxRecDepth 20000 in
set_option maxHeartbeats 1000000 in
theorem formed_any (x : It) (A : Option Addr) (c : Nat) (w : World) :
 Calls Tryz.prog 123 #[.agg #[.int .i64 x.kind, .int .u64 (x.num : Int), .string x.str, .slice A x.kids.length c]] w (Tells (formed x) w) := by
 obtain ⟨k, n, s, l⟩ := x;simp only [It.kind, It.num, It.str, It.kids];generalize hF : formed (.mk k n s l) = F;have HF := hid hF;clear hF;generalize hm : l.length = m;have HM := hid hm;clear hm
 have fin : ∀ (b : Bool) (w' : World), b = formed (.mk k n s l) → Below w.heap.size w w' → Tells F w (.returned (.bool b)) w' := by
  rintro b w' rfl hb;rw [← HF.out];exact ⟨rfl, hb⟩
 have FIN := hid fin;clear fin;have hml := HM.out;by_cases h0 : k = 0
 · subst h0
   clear hml;go_enter Tryz.func123, Tryz.ntmps123
   go_wp2_with fail
   all_goals
    go_ret;refine FIN.out _ _ ?_ (bel_alloc (Below.refl _ _) _);have hml := HM.out
    simp_all [formed, It.kind, It.str, It.kids, toList_nil]
    try exact z_eq _
 · by_cases h1 : k = 1
   · subst h1
     clear hml h0;go_enter Tryz.func123, Tryz.ntmps123
     go_wp2_with fail
     all_goals
      go_ret;refine FIN.out _ _ ?_ (bel_alloc (Below.refl _ _) _);have hml := HM.out
      simp_all [formed, It.kind, It.num, It.kids]
      try exact z_eq _
   · by_cases h2 : k = 2
     · subst h2
       clear hml h0 h1;go_enter Tryz.func123, Tryz.ntmps123
       go_wp2_with fail
       all_goals
        go_ret;refine FIN.out _ _ ?_ (bel_alloc (Below.refl _ _) _)
        simp_all [formed, It.kind, It.num, It.str]
        try exact s_eq _
     · have e0 : (k == 0) = false := by simpa using h0
       have e1 : (k == 1) = false := (by simpa using h1);have e2 : (k == 2) = false := (by simpa using h2);have H0 := hid h0;have H1 := hid h1;have H2 := hid h2;clear hml h0 h1 h2;go_enter Tryz.func123, Tryz.ntmps123
       go_wp2_with fail
       go_ret;refine FIN.out _ _ ?_ (bel_alloc (Below.refl _ _) _);have h0 := H0.out;have h1 := H1.out;have h2 := H2.out;simp [formed, It.kind, h0, h1, h2]
end Go.Proofs.YtkejjdoaljoooaaGreatDoor.Cp
/- The document's check of any item: what is wrong with it, nested so deep. -/
namespace Go.Proofs.YtkejjdoaljoooaaGreatDoor.Cp
open Lib (hid)
open Go.RowKit Mem Cod
theorem chks_stop {l : List It} {k d : Nat} (hk : k < l.length) (h0 : chks (l.take k) d = 0) (h1 : chk l[k] d ≠ 0) : chks l d = chk l[k] d := by
 conv => lhs; rw [← List.take_append_drop k l]
 rw [chks_append, if_pos h0, List.drop_eq_getElem_cons hk];simp only [chks];rw [if_neg h1]
theorem chks_go {l : List It} {k d : Nat} (hk : k < l.length) (h0 : chks (l.take k) d = 0) (h1 : chk l[k] d = 0) : chks (l.take (k + 1)) d = 0 := by
 rw [List.take_add_one, List.getElem?_eq_getElem hk, chks_append, if_pos h0];simpa [chks_one] using h1
end Go.Proofs.YtkejjdoaljoooaaGreatDoor.Cp
/- The document's Form of a right item is its form; the document's Put answers it, or what is wrong. -/
namespace Go.Proofs.YtkejjdoaljoooaaGreatDoor.Cp
open Lib (hid)
open Go.RowKit Mem Cod
theorem forms_take {l : List It} {k : Nat} (hk : k < l.length) : forms (l.take (k + 1)) = forms (l.take k) ++ form l[k] := by
 rw [List.take_add_one, List.getElem?_eq_getElem hk, forms_append];simp [forms_one]
theorem length_forms_take (l : List It) (k : Nat) : (forms (l.take k)).length ≤ (forms l).length := by
 conv => rhs; rw [← List.take_append_drop k l, forms_append]
 simp
end Go.Proofs.YtkejjdoaljoooaaGreatDoor.Cp
/- codec's planter: fail, over, add, plant: of a right item comes its tree, and the length of its form is counted; of any other one a fault is thrown that tells what is wrong. -/
namespace Go.Proofs.YtkejjdoaljoooaaGreatDoor.Cp
open Lib (hid)
open Go.RowKit Mem Cod
set_option maxRecDepth 20000 in
theorem fail_any (e p : Nat) (w : World) : Calls Tryz.prog 72 #[.int .i64 (e : Int), .int .i64 (p : Int)] w fun en w' => en = .panicked (flt e p) ∧ w = w' := by
 go_enter Tryz.func72, Tryz.ntmps72
 go_wp2_with fail
 exact ⟨rfl, rfl, rfl⟩
theorem fail_4 (w : World) : Calls Tryz.prog 72 #[.int .i64 4, .int .i64 0] w fun en w' => en = .panicked (flt 4 0) ∧ w = w' := fail_any 4 0 w
theorem fail_12 (w : World) : Calls Tryz.prog 72 #[.int .i64 12, .int .i64 0] w fun en w' => en = .panicked (flt 12 0) ∧ w = w' := fail_any 12 0 w
set_option maxRecDepth 20000 in
theorem over_any (g s : Nat) (w : World) (h : Plan w g s) (hs : s ≤ 1048576) : Calls Tryz.prog 71 #[.pointer (some ⟨g, 0, none⟩)] w fun en w' => en = .returned (.bool false) ∧ w = w' := by
 have hc : w.cell? ⟨g, 0, none⟩ = some (.int .i64 (s : Int)) := Blk.cell h 0;have hs' : ¬ (1048576 < (s : Int)) := by omega
 go_enter Tryz.func71, Tryz.ntmps71
 go_wp2_with fail
 go_ret;exact ⟨rfl, rfl⟩
set_option maxRecDepth 20000 in
theorem add_any (g s n : Nat) (w : World) (h : Plan w g s) (hs : s + n ≤ 1048576) : Calls Tryz.prog 124 #[.pointer (some ⟨g, 0, none⟩), .int .i64 (n : Int)] w
 fun en w' => en = .returned (.tuple #[]) ∧ Plan w' g (s + n) ∧ w.grownBy w' (some g) := by
 have hc : w.cell? ⟨g, 0, none⟩ = some (.int .i64 (s : Int)) := Blk.cell h 0;have hz : w.frozen? ⟨g, 0, none⟩ = false := Blk.soft h 0;go_enter Tryz.func124, Tryz.ntmps124
 go_wp2_with fail
 have e : min ((s : Int) + n) 1048577 = ((s + n : Nat) : Int) := by rw [Int.min_eq_left (by omega)]; omega
 rw [e];go_end0
 exact ⟨rfl, h.put 0 _, gr_set (gr_refl _ _) (.inl rfl) _⟩
def Planted (x : It) (d g s : Nat) (w : World) (e : Ending) (w' : World) : Prop :=
 w.grownBy w' (some g) ∧ ((chk x d = 0 ∧ (∃ v, e = .returned v ∧ IsNode w' (fun b => w.heap.size ≤ b) x v) ∧ Plan w' g (s + (form x).length)) ∨ (chk x d ≠ 0 ∧ e = .panicked (flt (chk x d) 0)))
set_option maxRecDepth 20000 in
set_option maxHeartbeats 2000000 in
theorem plant_bad (x : It) (A : Option Addr) (c d g s : Nat) (w : World) (hf : formed x = false) :
 Calls Tryz.prog 70 #[.pointer (some ⟨g, 0, none⟩), .agg #[.int .i64 x.kind, .int .u64 (x.num : Int), .string x.str, .slice A x.kids.length c], .int .i64 d] w (Planted x d g s w) := by
 have h4 : chk x d = 4 := by rw [chk_eq, if_pos hf]
 have H4 := hid h4;have HF := hid hf;clear h4 hf;go_enter Tryz.func70, Tryz.ntmps70
 go_wp2_with fail
 refine (formed_any x A c _).mono ?_;rintro e w1 ⟨rfl, hb1⟩;rw [HF.out];go_wp2_with fail
 refine (fail_4 _).mono ?_;rintro e w2 ⟨rfl, rfl⟩;refine ⟨rfl, gr_bel (gr_alloc (gr_refl _ _) _) hb1, .inr ⟨by rw [H4.out]; omega, by rw [H4.out]⟩⟩
set_option maxRecDepth 20000 in
set_option maxHeartbeats 2000000 in
theorem plant_deep (x : It) (A : Option Addr) (c d g s : Nat) (w : World) (hf : formed x = true) (hd : 16 ≤ (d : Int)) :
 Calls Tryz.prog 70 #[.pointer (some ⟨g, 0, none⟩), .agg #[.int .i64 x.kind, .int .u64 (x.num : Int), .string x.str, .slice A x.kids.length c], .int .i64 d] w (Planted x d g s w) := by
 have h4 : chk x d = 12 := by rw [chk_eq, if_neg (by simp [hf]), if_pos (by omega)]
 have H4 := hid h4;have HF := hid hf;clear h4 hf;go_enter Tryz.func70, Tryz.ntmps70
 go_wp2_with fail
 refine (formed_any x A c _).mono ?_;rintro e w1 ⟨rfl, hb1⟩;rw [HF.out];go_wp2_with fail
 refine (fail_12 _).mono ?_;rintro e w2 ⟨rfl, rfl⟩;refine ⟨rfl, gr_bel (gr_alloc (gr_refl _ _) _) hb1, .inr ⟨by rw [H4.out]; omega, by rw [H4.out]⟩⟩
set_option maxRecDepth 20000 in
set_option maxHeartbeats 2000000 in
theorem plant_num (n : Nat) (A : Option Addr) (c d g s : Nat) (w : World) (hd : (d : Int) ≤ 15) (hn : n ≤ 18446744073709551615) (hp : Plan w g s) (hs : s + (1 + Num.size n) ≤ 1048576) :
 Calls Tryz.prog 70 #[.pointer (some ⟨g, 0, none⟩), .agg #[.int .i64 0, .int .u64 (n : Int), .string ByteArray.empty, .slice A 0 c], .int .i64 d] w (Planted (.mk 0 n ByteArray.empty []) d g s w) := by
 have hf : formed (.mk 0 n ByteArray.empty []) = true := by simp [formed, It.kind, It.str, It.kids]
 have HF := hid hf;clear hf;go_enter Tryz.func70, Tryz.ntmps70
 go_wp2_with fail
 refine (formed_any (.mk 0 n ByteArray.empty []) A c _).mono ?_;rintro e w1 ⟨rfl, hb1⟩;rw [HF.out];have hp1 : Plan w1 g s := (hp.alloc _).bel hb1;have hg1 : w.grownBy w1 (some g) := gr_bel (gr_alloc (gr_refl _ _) _) hb1;have hk1 := (Blk.new w 95 #[.int .i64 0, .int .u64 (n : Int), .string ByteArray.empty, .slice A 0 c]).bel hb1;clear hb1;go_wp2_with fail
 refine (add_any g s 1 _ hp1 (by omega)).mono ?_;rintro e w2 ⟨rfl, hp2, hg2⟩;have hk2 := hk1.grown hg2 (by have := hp.lt; simp; omega);obtain ⟨hc0, hc1, hc2, hc3⟩ := blk4 hk2;go_wp2_with fail
 refine (size_any n _ (by omega) (by omega)).mono ?_;rintro e w3 ⟨rfl, rfl⟩;go_wp2_with fail
 refine (add_any g (s + 1) (Num.size n) _ hp2 (by omega)).mono ?_;rintro e w4 ⟨rfl, hp4, hg4⟩;have hk4 := hk2.grown hg4 (by have := hp.lt; simp; omega);obtain ⟨_, hd1, _, _⟩ := blk4 hk4;go_wp2_with fail
 go_ret;refine ⟨(hg1.trans hg2).trans hg4, .inl ⟨?_, ⟨_, rfl, ?_⟩, ?_⟩⟩
 · rw [chk_eq]
   simp [HF.out, It.kids, chks];omega
 · rw [node_eq]
   exact ⟨.inl ⟨rfl, hn, rfl⟩, fun i hi => by simp [It.kids] at hi⟩
 · rw [form0 rfl, List.length_cons, It.num, Num.length_put, show s + (Num.size n + 1) = s + 1 + Num.size n by omega]
   exact hp4
set_option maxRecDepth 20000 in
set_option maxHeartbeats 2000000 in
theorem plant_text (st : ByteArray) (A : Option Addr) (c d g s : Nat) (w : World) (hd : (d : Int) ≤ 15) (hn : st.size ≤ 140737488355328) (hp : Plan w g s) (hs : s + (1 + Num.size st.size + st.size) ≤ 1048576) :
 Calls Tryz.prog 70 #[.pointer (some ⟨g, 0, none⟩), .agg #[.int .i64 1, .int .u64 0, .string st, .slice A 0 c], .int .i64 d] w (Planted (.mk 1 0 st []) d g s w) := by
 have hf : formed (.mk 1 0 st []) = true := by simp [formed, It.kind, It.num, It.kids]
 have HF := hid hf;clear hf;go_enter Tryz.func70, Tryz.ntmps70
 go_wp2_with fail
 refine (formed_any (.mk 1 0 st []) A c _).mono ?_;rintro e w1 ⟨rfl, hb1⟩;rw [HF.out];have hp1 : Plan w1 g s := (hp.alloc _).bel hb1;have hg1 : w.grownBy w1 (some g) := gr_bel (gr_alloc (gr_refl _ _) _) hb1;have hk1 := (Blk.new w 95 #[.int .i64 1, .int .u64 0, .string st, .slice A 0 c]).bel hb1;clear hb1;go_wp2_with fail
 refine (add_any g s 1 _ hp1 (by omega)).mono ?_;rintro e w2 ⟨rfl, hp2, hg2⟩;have hk2 := hk1.grown hg2 (by have := hp.lt; simp; omega);obtain ⟨hc0, hc1, hc2, hc3⟩ := blk4 hk2;go_wp2_with fail
 refine (size_any st.size _ (by omega) (by omega)).mono ?_;rintro e w3 ⟨rfl, rfl⟩;go_wp2_with fail
 refine (add_any g (s + 1) (Num.size st.size) _ hp2 (by omega)).mono ?_;rintro e w4 ⟨rfl, hp4, hg4⟩;have hk4 := hk2.grown hg4 (by have := hp.lt; simp; omega);obtain ⟨_, _, hd1, _⟩ := blk4 hk4;go_wp2_with fail
 refine (add_any g (s + 1 + Num.size st.size) st.size _ hp4 (by omega)).mono ?_;rintro e w5 ⟨rfl, hp5, hg5⟩;have hk5 := hk4.grown hg5 (by have := hp.lt; simp; omega);obtain ⟨_, _, hd2, _⟩ := blk4 hk5;go_wp2_with fail
 go_ret;refine ⟨((hg1.trans hg2).trans hg4).trans hg5, .inl ⟨?_, ⟨_, rfl, ?_⟩, ?_⟩⟩
 · rw [chk_eq]
   simp [HF.out, It.kids, chks];omega
 · rw [node_eq]
   exact ⟨.inr (.inl ⟨rfl, hn, rfl⟩), fun i hi => by simp [It.kids] at hi⟩
 · rw [form1 rfl, List.length_cons, It.str, List.length_append, Num.length_put, Cod.length_bts, show s + (Num.size st.size + st.size + 1) = s + 1 + Num.size st.size + st.size by omega]
   exact hp5
end Go.Proofs.YtkejjdoaljoooaaGreatDoor.Cp
/- codec's plant of a list, and of any item. -/
namespace Go.Proofs.YtkejjdoaljoooaaGreatDoor.Cp
open Lib (hid)
open Go.RowKit Mem Cod
theorem info54 : (Tryz.prog.info? 141).map (fun i => (i.zero, i.size, i.bytes)) = some (some .nilIface, 1, 16) := by kernel_rfl
def PlantRel (w : World) (l : List It) (d g s : Nat) (parts i : Value) (wr : World) : Prop :=
 ∃ (k : Nat) (V : Option Addr) (cv : Nat) (us : List Value), k ≤ l.length ∧ i = .int .i64 k ∧ parts = .slice V k cv ∧ wr.ownsRow w.heap.size 141 1 (.slice V k cv) k us ∧ chks (l.take k) (d + 1) = 0 ∧
  Plan wr g (s + (forms (l.take k)).length) ∧ w.grownBy wr (some g) ∧
  ∀ (j : Nat) (y : It) (u : Value), l[j]? = some y → us[j]? = some u → IsNode wr (fun b => w.heap.size ≤ b ∧ some b ≠ (Value.slice V k cv).ownBlock) y u
set_option maxRecDepth 20000 in
set_option maxHeartbeats 4000000 in
theorem plant_list (l : List It) (A : Option Addr) (c d g s : Nat) (S : Nat → Prop) (w : World) (hd : (d : Int) ≤ 15) (hl : Lies w S (.mk 2 0 ByteArray.empty l) A c) (hS : ∀ b, S b → b ≠ g) (hp : Plan w g s)
 (hs : s + (form (.mk 2 0 ByteArray.empty l)).length ≤ 1000000)
 (ih : ∀ (y : It) (A : Option Addr) (c s : Nat) (w : World), y ∈ l → Lies w S y A c → Plan w g s → s + (form y).length ≤ 1000000 →
  Calls Tryz.prog 70 #[.pointer (some ⟨g, 0, none⟩), .agg #[.int .i64 y.kind, .int .u64 (y.num : Int), .string y.str, .slice A y.kids.length c], .int .i64 ((d : Int) + 1)] w (Planted y (d + 1) g s w)) :
 Calls Tryz.prog 70 #[.pointer (some ⟨g, 0, none⟩), .agg #[.int .i64 2, .int .u64 0, .string ByteArray.empty, .slice A l.length c], .int .i64 d] w (Planted (.mk 2 0 ByteArray.empty l) d g s w) := by
 obtain ⟨i0, hi, hz0, hz1, hz2⟩ := info_parts info54;have hf : formed (.mk 2 0 ByteArray.empty l) = true := by simp [formed, It.kind, It.num, It.str]
 obtain ⟨_, _, _, _, b5, b6⟩ := hl.bounds;simp only [It.kids] at b5;have HF := hid hf;have HL := hid hl;have IH := hid ih;have HS := hid hS;clear hf hl ih hS;rw [form2 rfl] at hs;simp only [It.kids, List.length_cons, List.length_append, Num.length_put] at hs;have h9 := Num.size_pos l.length;have hlen : l.length ≤ 1000000 := by have := length_forms l; omega
 have hdb : decide (16 ≤ (d : Int)) = false := by simp; omega
 go_enter Tryz.func70, Tryz.ntmps70
 go_wp2_with fail
 refine (formed_any (.mk 2 0 ByteArray.empty l) A c _).mono ?_;rintro e w1 ⟨rfl, hb1⟩;rw [HF.out];have hp1 : Plan w1 g s := (hp.alloc _).bel hb1;have hg1 : w.grownBy w1 (some g) := gr_bel (gr_alloc (gr_refl _ _) _) hb1;have hk1 := (Blk.new w 95 #[.int .i64 2, .int .u64 0, .string ByteArray.empty, .slice A l.length c]).bel hb1;have hs1 : w.heap.size + 1 ≤ w1.heap.size := by have := hb1.size; simp at this; omega
 clear hb1;go_wp2_with fail
 refine (add_any g s 1 _ hp1 (by omega)).mono ?_;rintro e w2 ⟨rfl, hp2, hg2⟩;have hk2 := hk1.grown hg2 (by have := hp.lt; simp; omega);obtain ⟨hc0, hc1, hc2, hc3⟩ := blk4 hk2;go_wp2_with fail
 refine (size_any l.length _ (by omega) (by omega)).mono ?_;rintro e w3 ⟨rfl, rfl⟩;go_wp2_with fail
 refine (add_any g (s + 1) (Num.size l.length) _ hp2 (by omega)).mono ?_;rintro e w4 ⟨rfl, hp4, hg4⟩;have hk4 := hk2.grown hg4 (by have := hp.lt; simp; omega);obtain ⟨_, _, _, hd3⟩ := blk4 hk4;have hgw : w.grownBy w4 (some g) := (hg1.trans hg2).trans hg4;clear hp1 hg1 hk1 hp2 hg2 hk2 hc0 hc1 hc2 hc3 hg4;go_wp2_with fail
 have hst : PlantRel w l d g (s + 1 + Num.size l.length) (.slice none 0 0) (.int .i64 0) w4 := by
  refine ⟨0, none, 0, [], Nat.zero_le _, rfl, rfl, ⟨rfl, .inl ⟨rfl, rfl⟩⟩, rfl, by simpa [forms] using hp4, hgw, fun j y u _ h => by simp at h⟩
 clear hp4 hgw hk4 hd3;go_loopw [7, 59] (PlantRel w l d g (s + 1 + Num.size l.length)) (fun _ i _ => l.length - (intOf i).toNat)
 case atStart => exact hst
 case round =>
  clear hst;obtain ⟨k, V, cv, us, hk, rfl, rfl, hown, hz, hpl, hgr, hnod⟩ := hrel;have HO := hid hown;have HZ := hid hz;have HN := hid hnod;clear hown hz hnod;by_cases hlt : k < l.length
  · obtain ⟨ad, A', c', rfl, hSad, hblk, hsp, hl'⟩ := ((lies_eq _ _ _ _ _).1 HL.out).2.2 k hlt
    simp only [It.kids] at hsp hl';have hne : some ad.block ≠ some g := (by have := HS.out _ hSad; simpa using this);obtain ⟨s0, s1, s2, s3⟩ := hsp.keep (w' := wr) fun p hp => World.cell?_of_block (by rw [hp, add_block]; exact hgr.block _ hblk hne);generalize hea : ad.add (k * 4) = ea at s0 s1 s2 s3;have HSP := hid hsp;have HL' := hid (hl'.grown (w' := wr) hgr fun b hb => by simpa using HS.out b hb);clear hsp hl' hne
    have hfk : (forms (l.take k)).length + (form l[k]).length ≤ (forms l).length := by
     have h1 := length_forms_take l (k + 1);rwa [forms_take hlt, List.length_append] at h1
    go_wp2_with fail
    refine (IH.out l[k] A' c' _ _ (List.getElem_mem hlt) (HL'.out.alloc _) (hpl.alloc _) (by omega)).mono ?_;rintro e w5 ⟨hg5, ⟨hc0, ⟨u, rfl, hnu⟩, hpu⟩ | ⟨hc0, rfl⟩⟩
    · have HC0 := hid hc0
      have HG5 := hid hg5;obtain ⟨ut, up, rfl⟩ := hnu.iface;have HNU := hid hnu;clear hc0 hg5 hnu;go_wp2_with fail
      refine (over_any g _ _ hpu (by omega)).mono ?_;rintro e w6 ⟨rfl, rfl⟩;have hs5 : w.heap.size ≤ w5.heap.size := (by have := HG5.out.size; have := hgr.size; rw [size_alloc] at *; omega);have hog : (Value.slice V k cv).ownBlock ≠ some g := fun e => (by have := (HO.out.lt g e).1; have := hp.lt; omega);have hown5 : w5.ownsRow w.heap.size 141 1 (.slice V k cv) k us := (HO.out.alloc _).kept HG5.out (.inr hog);go_wp2_with (at_builtin; refine wpList_append_lies _ rfl (.tmp 71) (.tmp 73) 199 rfl w.heap.size 141 i0 _ 1 16 Tryz.underlying199 hi hz0 hz1 hz2 rfl (by omega) (.slice V k cv) k us rfl (hown5.alloc _) ⟨w5.heap.size, 0, none⟩ 1 1 [.iface ut up] rfl rfl (cell_one_new _ _ _) (by intro u hu; simp at hu; subst hu; rfl) (by omega) (by unfold maxLen; omega) (by omega) (by rw [size_alloc]; omega) _ rfl ?_; intro g' cap' w7 hown7 hgr7 hat7 hlt7)
      have hgr6 : wr.grownBy w5 (some g) := (World.grownBy_alloc wr _ _).trans HG5.out;have hsz5 : wr.heap.size ≤ w5.heap.size := hgr6.size
      have hplan : Plan w7 g (s + 1 + Num.size l.length + (forms (l.take (k + 1))).length) := by
       rw [forms_take hlt, List.length_append, ← Nat.add_assoc];exact (hpu.alloc _).grown hgr7 (fun e => hog e.symm)
      refine ⟨⟨k + 1, _, cap', us ++ [.iface ut up], by omega, by simp, rfl, hown7, chks_go hlt HZ.out HC0.out, hplan, ?_, ?_⟩, by simp [intOf]; omega⟩
      · refine gr_step (gr_alloc (hgr.trans hgr6) _) hgr7 fun b hb => .inl (HO.out.lt b hb).1
      · intro j y u hy hu
        have hlen := HO.out.1;rw [Nat.mul_one] at hlen
        have hg'5 : ∀ b, b < wr.heap.size → some b ≠ (Value.slice V k cv).ownBlock → some b ≠ (Value.slice (some ⟨g', 0, none⟩) (k + 1) cap').ownBlock := by
         intro b hb hne e;have e' : b = g' := (by simpa [Value.ownBlock] using e);rcases hat7 with h | h
         · exact hne (by rw [h, e'])
         · rw [size_alloc] at h; omega
        rcases Nat.lt_or_ge j k with hj | hj
        · rw [List.getElem?_append_left (by omega)] at hu
          have hn := HN.out j y u hy hu;refine IsNode.grown (S' := fun b => w.heap.size ≤ b ∧ b < wr.heap.size ∧ some b ≠ (Value.slice V k cv).ownBlock) hn hgr6 ?_ |>.keep y (S' := _) ?_ ?_ ?_
          · intro b hb hlt'
            refine ⟨fun e => ?_, hb.1, hlt', hb.2⟩;have : b = g := (by simpa using e);have := hp.lt;omega
          · rintro b ⟨h1, h2, h3⟩ _
            exact ⟨h1, hg'5 b h2 h3⟩
          · have := hgr7.size
            rw [size_alloc] at this;omega
          · rintro b ⟨h1, h2, h3⟩ h4
            exact (hgr7.block b (by rw [size_alloc]; omega) h3).trans (Below.heap_alloc _ _ b h4)
        · have hj2 : j = k := by
           have := (List.getElem?_eq_some_iff.1 hu).1;simp at this;omega
          subst hj2;rw [List.getElem?_append_right (by omega), hlen, Nat.sub_self] at hu;simp at hu;subst hu;rw [List.getElem?_eq_getElem hlt] at hy;cases hy;refine HNU.out.keep _ ?_ ?_ ?_
          · intro b hb h4
            rw [size_alloc] at hb;refine ⟨by have := hgr.size; omega, fun e => ?_⟩;have e' : b = g' := (by simpa [Value.ownBlock] using e);rcases hat7 with h | h
            · have := (HO.out.lt _ h).2; omega
            · rw [size_alloc] at h; omega
          · have := hgr7.size
            rw [size_alloc] at this;omega
          · intro b hb h4
            rw [size_alloc] at hb;exact (hgr7.block b (by rw [size_alloc]; omega) (fun e => by have := (HO.out.lt b e.symm).2; omega)).trans (Below.heap_alloc _ _ b h4)
    · have hfin : ([] : List Deferred) = [] ∧ Planted (.mk 2 0 ByteArray.empty l) d g s w (.panicked (flt (chk l[k] (d + 1)) 0)) w5 := by
       refine ⟨rfl, hgr.trans ((World.grownBy_alloc wr _ _).trans hg5), .inr ?_⟩
       have e : chk (.mk 2 0 ByteArray.empty l) d = chk l[k] (d + 1) := by
        rw [chk_eq, if_neg (by simp [HF.out]), if_neg (by omega)];exact chks_stop hlt HZ.out hc0
       rw [e];exact ⟨hc0, rfl⟩
      exact hfin
  · obtain rfl : k = l.length := by omega
    go_wp2_with fail
    go_ret;have hz := HZ.out;rw [List.take_length] at hz hpl;refine ⟨hgr, .inl ⟨?_, ⟨_, rfl, ?_⟩, ?_⟩⟩
    · rw [chk_eq, if_neg (by simp [HF.out]), if_neg (by omega)]
      exact hz
    · obtain ⟨A2, c2, e2, hr2⟩ := Rd.of_own HO.out
      cases e2;rw [node_eq];refine ⟨.inr (.inr ⟨rfl, _, _, rfl, hr2.le, hr2.cap, hr2.nil⟩), fun i hi => ?_⟩;simp only [It.kids] at hi ⊢;obtain ⟨ad, u, rfl, hb, hu, hcl⟩ := hr2.at_ hi;refine ⟨ad, _, u, rfl, (HO.out.lt ad.block rfl).1, hb, hcl, ?_⟩;exact (HN.out i _ u (List.getElem?_eq_getElem hi) hu).keep _ (fun b hb _ => hb.1) (Nat.le_refl _) fun _ _ _ => rfl
    · rw [form2 rfl, List.length_cons, It.kids, List.length_append, Num.length_put, show s + (Num.size l.length + (forms l).length + 1) = s + 1 + Num.size l.length + (forms l).length by omega]
      exact hpl
theorem plant_any (x : It) : ∀ (A : Option Addr) (c d g s : Nat) (S : Nat → Prop) (w : World), d ≤ 16 → (∀ b, S b → b ≠ g) → Lies w S x A c → Plan w g s → s + (form x).length ≤ 1000000 →
 Calls Tryz.prog 70 #[.pointer (some ⟨g, 0, none⟩), .agg #[.int .i64 x.kind, .int .u64 (x.num : Int), .string x.str, .slice A x.kids.length c], .int .i64 d] w (Planted x d g s w) := by
 induction x using It.ind with
 | h x ih =>
 intro A c d g s S w hd hS hl hp hsz;by_cases hf : formed x = false
 · exact plant_bad x A c d g s w hf
 · rw [Bool.not_eq_false] at hf
   by_cases h15 : 16 ≤ (d : Int)
   · exact plant_deep x A c d g s w hf h15
   · have hb := hl.bounds
     rcases formed_cases (x := x) (by simp [hf]) with ⟨n, rfl⟩ | ⟨st, rfl⟩ | ⟨l, rfl⟩ <;> simp only [It.num, It.str, It.kids, It.kind] at hb ih ⊢
     · rw [form0 rfl, It.num, List.length_cons, Num.length_put] at hsz
       exact plant_num n A c d g s w (by omega) hb.2.2.1 hp (by omega)
     · rw [form1 rfl, It.str, List.length_cons, List.length_append, Num.length_put, Cod.length_bts] at hsz
       exact plant_text st A c d g s w (by omega) hb.2.2.2.1 hp (by omega)
     · refine plant_list l A c d g s S w (by omega) hl hS hp hsz fun y A c s w hy hl' hp' hs' => ?_
       have := ih y hy A c (d + 1) g s S w (by omega) hS hl' hp' hs';rwa [show ((d + 1 : Nat) : Int) = (d : Int) + 1 by omega] at this
end Go.Proofs.YtkejjdoaljoooaaGreatDoor.Cp
/- What the program's type assertions come to, each a closed fact of the program. -/
namespace Go.Proofs.YtkejjdoaljoooaaGreatDoor.Cp
open Lib (hid)
theorem as_num_num (v : Value) (w : World) : (Instr.typeAssert (.iface 196 v) 141 196 true).run Tryz.prog w = .ok (.tuple #[v, .bool true]) w := by kernel_rfl
theorem as_text_num (v : Value) (w : World) : (Instr.typeAssert (.iface 197 v) 141 196 true).run Tryz.prog w = .ok (.tuple #[.int .u64 0, .bool false]) w := by kernel_rfl
theorem as_list_num (v : Value) (w : World) : (Instr.typeAssert (.iface 199 v) 141 196 true).run Tryz.prog w = .ok (.tuple #[.int .u64 0, .bool false]) w := by kernel_rfl
theorem as_text_text (v : Value) (w : World) : (Instr.typeAssert (.iface 197 v) 141 197 true).run Tryz.prog w = .ok (.tuple #[v, .bool true]) w := by kernel_rfl
theorem as_list_text (v : Value) (w : World) : (Instr.typeAssert (.iface 199 v) 141 197 true).run Tryz.prog w = .ok (.tuple #[.string ⟨#[]⟩, .bool false]) w := by kernel_rfl
theorem as_list_list (v : Value) (w : World) : (Instr.typeAssert (.iface 199 v) 141 199 true).run Tryz.prog w = .ok (.tuple #[v, .bool true]) w := by kernel_rfl
theorem as_list (v : Value) (w : World) : (Instr.typeAssert (.iface 199 v) 141 199 false).run Tryz.prog w = .ok v w := by kernel_rfl
theorem as_fault (v : Value) (w : World) : (Instr.typeAssert (.iface 137 v) 20 137 false).run Tryz.prog w = .ok v w := by kernel_rfl
end Go.Proofs.YtkejjdoaljoooaaGreatDoor.Cp
/- codec's head and write: behind bytes of the call's own the form of a right item's tree. -/
namespace Go.Proofs.YtkejjdoaljoooaaGreatDoor.Cp
open Lib (hid)
open Go.RowKit Mem Cod
def Wrote (base n : Nat) (xs : List Value) (bs : List Nat) (w : World) (e : Ending) (w' : World) : Prop :=
 ∃ V c, e = .returned (.slice V (n + bs.length) c) ∧ w'.ownsRow base 5 1 (.slice V (n + bs.length) c) (n + bs.length) (xs ++ cs bs) ∧ Below base w w'
set_option maxRecDepth 20000 in
set_option maxHeartbeats 2000000 in
theorem head_any (base n : Nat) (V : Option Addr) (c : Nat) (xs : List Value) (k : Nat) (v : Int) (w : World) (hown : w.ownsRow base 5 1 (.slice V n c) n xs) (hb : base ≤ w.heap.size) (hn : n ≤ 2000000) (h0 : 0 ≤ v) (h1 : v ≤ 18446744073709551615) (m : Nat) (p : List Nat) (hp : Num.put v.toNat = p) (hm : p.length = m) (hm9 : m ≤ 9) :
 Calls Tryz.prog 126 #[.slice V n c, .int .u8 (k : Int), .int .u64 v] w (Wrote base n xs (k :: p) w) := by
 obtain ⟨i0, hi, hz0, hz1, hz2⟩ := info_parts info5;have HP := hid hp;have HM := hid hm;have HO := hid hown;clear hp hm hown;go_enter Tryz.func126, Tryz.ntmps126
 go_wp2_with (at_builtin; refine wpList_append_rd rfl (.tmp 7) (.tmp 9) 71 rfl base 5 i0 _ 1 Tryz.underlying71 hi hz0 hz1 hz2 rfl V n c xs rfl (HO.out.alloc _) _ 1 1 [_] rfl (Rd.one _ _ _) (by intro u hu; simp at hu; subst hu; rfl) (by unfold maxLen; omega) (by omega) (by rw [size_alloc]; omega) ?_; intro V2 c2 w2 hown2 hb2)
 refine (put_gives none 0 0 m [] p v _ (Rd.nil_ _) h0 h1 (by omega) (by simpa using HP.out) HM.out).mono ?_;rintro e w3 ⟨V3, c3, rfl, hr3, hb3⟩;have hs2 : base ≤ w2.heap.size := by have := hb2.size; rw [size_alloc] at this; omega
 have hs3 : base ≤ w3.heap.size := by have := hb3.size; omega
 have hown3 := ownsRow_below hown2 hb3;go_wp2_with (at_builtin; refine wpList_append_rd rfl (.tmp 10) (.tmp 12) 71 rfl base 5 i0 _ 1 Tryz.underlying71 hi hz0 hz1 hz2 rfl V2 (n + 1) c2 _ rfl hown3 V3 m c3 (cs p) rfl hr3 (cs_one _) (by unfold maxLen; omega) (by omega) hs3 ?_; intro V4 c4 w4 hown4 hb4)
 go_ret;have e : n + (k :: p).length = n + 1 + m := by rw [List.length_cons, HM.out]; omega
 refine ⟨V4, c4, by rw [e]; rfl, ?_, ?_⟩
 · rw [e, show cs (k :: p) = [.int .u8 (k : Int)] ++ cs p from rfl, ← List.append_assoc]
   exact hown4
 · exact ((((Below.refl _ _).alloc hb _).trans hb2).trans (hb3.mono hs2)).trans hb4
def WriteRel (w : World) (base n : Nat) (xs : List Value) (l : List It) (bs : List Nat) (b i : Value) (wr : World) : Prop :=
 ∃ (k : Nat) (V : Option Addr) (c : Nat), k ≤ l.length ∧ i = .int .i64 k ∧ b = .slice V (n + (bs ++ forms (l.take k)).length) c ∧
  wr.ownsRow base 5 1 (.slice V (n + (bs ++ forms (l.take k)).length) c) (n + (bs ++ forms (l.take k)).length) (xs ++ cs (bs ++ forms (l.take k))) ∧ Below base w wr
set_option maxRecDepth 20000 in
set_option maxHeartbeats 2000000 in
theorem write_num (nn : Nat) (base n : Nat) (V : Option Addr) (c : Nat) (xs : List Value) (w : World) (hown : w.ownsRow base 5 1 (.slice V n c) n xs) (hb : base ≤ w.heap.size) (hn : n ≤ 2000000) (h1 : nn ≤ 18446744073709551615) :
 Calls Tryz.prog 73 #[.slice V n c, .iface 196 (.int .u64 (nn : Int))] w (Wrote base n xs (0 :: Num.put nn) w) := by
 have h9 : (Num.put nn).length ≤ 9 := by rw [Num.length_put]; exact Num.size_le nn (by omega)
 have a1 := as_num_num;go_enter Tryz.func73, Tryz.ntmps73
 go_wp2_with fail
 refine (head_any base n V c xs 0 nn _ hown hb hn (by omega) (by omega) _ (Num.put nn) (by simp) rfl h9).mono ?_;rintro e w2 ⟨V2, c2, rfl, hown2, hb2⟩;go_wp2_with fail
 go_ret;exact ⟨V2, c2, rfl, hown2, hb2⟩
set_option maxRecDepth 20000 in
set_option maxHeartbeats 2000000 in
theorem write_text (s : ByteArray) (base n : Nat) (V : Option Addr) (c : Nat) (xs : List Value) (w : World) (hown : w.ownsRow base 5 1 (.slice V n c) n xs) (hb : base ≤ w.heap.size) (hn : n ≤ 2000000) (h1 : s.size ≤ 2000000) :
 Calls Tryz.prog 73 #[.slice V n c, .iface 197 (.string s)] w (Wrote base n xs (1 :: (Num.put s.size ++ Cod.bts s)) w) := by
 obtain ⟨i0, hi, hz0, hz1, hz2⟩ := info_parts info5;have h9 : (Num.put s.size).length ≤ 9 := by rw [Num.length_put]; exact Num.size_le s.size (by omega)
 generalize hP : Num.put s.size = P at h9 ⊢;have HP := hid hP;clear hP;have a1 := as_text_num;have a2 := as_text_text;go_enter Tryz.func73, Tryz.ntmps73
 go_wp2_with fail
 refine (head_any base n V c xs 1 s.size _ hown hb hn (by omega) (by omega) _ P (by simpa using HP.out) rfl h9).mono ?_;rintro e w2 ⟨V2, c2, rfl, hown2, hb2⟩;have hs2 : base ≤ w2.heap.size := by have := hb2.size; omega
 generalize hN : n + (1 :: P).length = N at hown2 ⊢;have hN2 : N ≤ 2000010 := by rw [← hN, List.length_cons]; omega
 have HN := hid hN;clear hN;go_wp2_with (at_builtin; refine Lib.wpList_append_own_string _ rfl (.tmp 25) (.tmp 26) 71 197 rfl base 5 i0 Tryz.underlying71 Tryz.underlying197 hi hz0 hz1 hz2 (.slice V2 N c2) N _ rfl hown2 s rfl (by unfold maxLen; omega) (by omega) hs2 ?_; intro v3 w3 hown3 hg3 _; obtain ⟨V3, c3, rfl, hr3⟩ := Rd.of_own hown3)
 go_ret
 have e : n + (1 :: (P ++ Cod.bts s)).length = N + s.size := by
  have := HN.out;rw [List.length_cons] at this ⊢;rw [List.length_append, Cod.length_bts];omega
 refine ⟨V3, c3, by rw [e]; rfl, ?_, hb2.trans (gr_below hg3 hs2 fun b hb' => (hown2.lt b hb').1)⟩;rw [e, show cs (1 :: (P ++ Cod.bts s)) = cs (1 :: P) ++ cs (Cod.bts s) from by rw [← cs_append]; rfl, ← List.append_assoc, ← Cod.strCells_bts];exact hown3
set_option maxRecDepth 20000 in
set_option maxHeartbeats 2000000 in
theorem write_list (l : List It) (A : Option Addr) (cl : Nat) (S : Nat → Prop) (base n : Nat) (V : Option Addr) (c : Nat) (xs : List Value) (w : World) (hx : IsNode w S (.mk 2 0 ByteArray.empty l) (.iface 199 (.slice A l.length cl))) (hS : ∀ b, S b → b < base)
 (hown : w.ownsRow base 5 1 (.slice V n c) n xs) (hb : base ≤ w.heap.size) (hn : n + (form (.mk 2 0 ByteArray.empty l)).length ≤ 2000000)
 (ih : ∀ (y : It) (u : Value) (n : Nat) (V : Option Addr) (c : Nat) (xs : List Value) (w : World), y ∈ l → IsNode w S y u → w.ownsRow base 5 1 (.slice V n c) n xs → base ≤ w.heap.size → n + (form y).length ≤ 2000000 →
  Calls Tryz.prog 73 #[.slice V n c, u] w (Wrote base n xs (form y) w)) :
 Calls Tryz.prog 73 #[.slice V n c, .iface 199 (.slice A l.length cl)] w (Wrote base n xs (2 :: (Num.put l.length ++ forms l)) w) := by
 rw [form2 rfl] at hn;simp only [It.kids, List.length_cons, List.length_append] at hn;have hlen : l.length ≤ 2000000 := by have := length_forms l; omega
 have h9 : (Num.put l.length).length ≤ 9 := by rw [Num.length_put]; exact Num.size_le l.length (by omega)
 generalize hP : Num.put l.length = P at h9 hn ⊢;have HP := hid hP;have HX := hid hx;have HS := hid hS;have IH := hid ih;clear hP hx hS ih;have a1 := as_list_num;have a2 := as_list_text;have a3 := as_list_list;go_enter Tryz.func73, Tryz.ntmps73
 go_wp2_with fail
 refine (head_any base n V c xs 2 l.length _ hown hb (by omega) (by omega) (by omega) _ P (by simpa using HP.out) rfl h9).mono ?_;rintro e w2 ⟨V2, c2, rfl, hown2, hb2⟩
 have hst : WriteRel w base n xs l (2 :: P) (.slice V2 (n + (2 :: P).length) c2) (.int .i64 0) w2 := by
  refine ⟨0, V2, c2, Nat.zero_le _, rfl, by simp [forms], by simpa [forms] using hown2, hb2⟩
 clear hown2 hb2;go_wp2_with fail
 go_loopw [0, 38] (WriteRel w base n xs l (2 :: P)) (fun _ i _ => l.length - (intOf i).toNat)
 case atStart => exact hst
 case round =>
  clear hst;obtain ⟨k, V3, c3, hk, rfl, rfl, hown3, hb3⟩ := hrel;have hs3 : base ≤ wr.heap.size := by have := hb3.size; omega
  generalize hN : n + (2 :: P ++ forms (l.take k)).length = N at hown3 ⊢;have HN := hid hN;have HO := hid hown3;have HB := hid hb3;clear hN hown3 hb3;by_cases hlt : k < l.length
  · obtain ⟨ad, cc, u, e, hSb, hblk, hcell, hnu⟩ := ((node_eq _ _ _ _).1 HX.out).2 k hlt
    simp only [It.kids] at e hnu;injection e with _ e;injection e with e1 _ e2;subst e1;subst e2;have hc : wr.cell? (ad.add k) = some u := (HB.out.cell (by rw [add_block]; exact HS.out _ hSb)).trans hcell;have HC := hid hcell;have HNU := hid (hnu.below (S' := S) HB.out fun b hb _ => ⟨HS.out b hb, hb⟩);clear hcell hnu
    have hfk : (forms (l.take k)).length + (form l[k]).length ≤ (forms l).length := by
     have h1 := length_forms_take l (k + 1);rwa [forms_take hlt, List.length_append] at h1
    go_wp2_with fail
    refine (IH.out l[k] u N V3 c3 _ _ (List.getElem_mem hlt) HNU.out HO.out hs3 (by have := HN.out; simp at this; omega)).mono ?_;rintro e w4 ⟨V4, c4, rfl, hown4, hb4⟩;have e4 : 2 :: P ++ forms (l.take (k + 1)) = (2 :: P ++ forms (l.take k)) ++ form l[k] := (by rw [forms_take hlt, List.append_assoc]);have e5 : n + ((2 :: P ++ forms (l.take k)) ++ form l[k]).length = N + (form l[k]).length := (by rw [List.length_append, ← Nat.add_assoc, HN.out]);have E4 := hid e4;have E5 := hid e5;clear e4 e5;go_wp2_with fail
    refine ⟨⟨k + 1, V4, c4, by omega, by simp, by rw [E4.out, E5.out], ?_, HB.out.trans hb4⟩, by simp [intOf]; omega⟩;rw [E4.out, E5.out, cs_append, ← List.append_assoc];exact hown4
  · obtain rfl : k = l.length := by omega
    go_wp2_with fail
    go_ret;have hN := HN.out;have hO := HO.out;rw [List.take_length] at hN hO;have e : n + (2 :: (P ++ forms l)).length = N := hN;refine ⟨V3, c3, by rw [e]; rfl, ?_, HB.out⟩;rw [e];exact hO
theorem write_any (x : It) : ∀ (v : Value) (S : Nat → Prop) (base n : Nat) (V : Option Addr) (c : Nat) (xs : List Value) (w : World), IsNode w S x v → (∀ b, S b → b < base) → w.ownsRow base 5 1 (.slice V n c) n xs → base ≤ w.heap.size → n + (form x).length ≤ 2000000 →
 Calls Tryz.prog 73 #[.slice V n c, v] w (Wrote base n xs (form x) w) := by
 induction x using It.ind with
 | h x ih =>
 intro v S base n V c xs w hx hS hown hb hn;rcases ((node_eq _ _ _ _).1 hx).1 with ⟨e, h1, rfl⟩ | ⟨e, h1, rfl⟩ | ⟨e, A, cl, rfl, h1, h2, h3⟩
 · have ef : form x = 0 :: Num.put x.num := by rw [e]; exact form0 rfl
   rw [ef] at hn ⊢;exact write_num x.num base n V c xs w hown hb (by omega) h1
 · have ef : form x = 1 :: (Num.put x.str.size ++ Cod.bts x.str) := by rw [e]; exact form1 rfl
   rw [ef] at hn ⊢;simp only [List.length_cons, List.length_append, Cod.length_bts] at hn;exact write_text x.str base n V c xs w hown hb (by omega) (by omega)
 · have ef : form x = 2 :: (Num.put x.kids.length ++ forms x.kids) := by rw [e]; exact form2 rfl
   rw [ef];have hx' := hx;rw [e] at hx' hn;refine write_list x.kids A cl S base n V c xs w hx' hS hown hb hn fun y u n V c xs w hy hnu ho hb hn => ?_;exact ih y hy u S base n V c xs w hnu hS ho hb hn
end Go.Proofs.YtkejjdoaljoooaaGreatDoor.Cp
/- codec.Put: the form of a right item, or what is wrong with it; a fault goes up by a panic, and is caught. -/
namespace Go.Proofs.YtkejjdoaljoooaaGreatDoor.Cp
open Lib (hid)
open Go.RowKit Mem Cod
def PutDone (x : It) (bb : Nat) (w : World) (e : Ending) (w' : World) : Prop :=
 (chk x 0 = 0 ∧ e = .returned (.tuple #[]) ∧ w.grownBy w' (some bb) ∧ ∃ A c, Blk w' bb 71 #[.slice A (form x).length c] ∧ Rd w' A (form x).length c (cs (form x)) ∧ ∀ ad, A = some ad → w.heap.size ≤ ad.block) ∨
 (chk x 0 ≠ 0 ∧ e = .panicked (flt (chk x 0) 0) ∧ Below w.heap.size w w')
set_option maxRecDepth 20000 in
set_option maxHeartbeats 2000000 in
theorem put1_any (x : It) (A : Option Addr) (c bx bb : Nat) (S : Nat → Prop) (w : World) (hx : Blk w bx 95 #[.int .i64 x.kind, .int .u64 (x.num : Int), .string x.str, .slice A x.kids.length c])
 (hb : Blk w bb 71 #[.slice none 0 0]) (hl : Lies w S x A c) (hS : ∀ b, S b → b < w.heap.size) (hsz : (form x).length ≤ 1000000) :
 Calls Tryz.prog 69 #[.pointer (some ⟨bx, 0, none⟩), .pointer (some ⟨bb, 0, none⟩)] w (PutDone x bb w) := by
 obtain ⟨i0, hi, hz0, hz1, hz2⟩ := info_parts info5;have hbx := hx.lt;have hbb := hb.lt;obtain ⟨c0, c1, c2, c3⟩ := blk4 (hx.alloc (.cells #[.int .i64 0] 140));have HL := hid hl;have HS := hid hS;have HX := hid hx;have HB := hid hb;clear hl hS hx hb;go_enter Tryz.func69, Tryz.ntmps69
 go_wp2_with fail
 refine (plant_any x A c 0 w.heap.size 0 S _ (by omega) (fun b hb => by have := HS.out b hb; omega) (HL.out.alloc _) (Blk.new w _ _) (by omega)).mono ?_;rintro e w2 ⟨hg2, ⟨hc0, ⟨v, rfl, hnv⟩, hpl⟩ | ⟨hc0, rfl⟩⟩
 · have HC0 := hid hc0
   have HG2 := hid hg2;have HNV := hid hnv;clear hc0 hg2 hnv;rw [Nat.zero_add] at hpl;go_wp2_with fail
   refine (over_any w.heap.size (form x).length _ hpl (by omega)).mono ?_;rintro e w3 ⟨rfl, rfl⟩;have hcp : w2.cell? ⟨w.heap.size, 0, none⟩ = some (.int .i64 ((form x).length : Int)) := Blk.cell hpl 0;generalize hF : (form x).length = F at hsz hcp hpl;have HF := hid hF;clear hF;go_wp2_with (at_make; refine wpList_make_own _ rfl _ _ 71 rfl w2.heap.size 5 i0 _ 1 Tryz.underlying71 hi hz0 hz1 .i64 .i64 _ F rfl rfl (by omega) (by rw [hz2]; omega) (by unfold maxLen; omega) (Nat.le_refl _) ?_; intro w4 hown4 hg4)
   have hb2 : Blk w2 bb 71 #[.slice none 0 0] := (HB.out.alloc _).grown HG2.out (by simp; omega);have hs2 : w.heap.size + 1 ≤ w2.heap.size := (by have := HG2.out.size; rw [size_alloc] at this; exact this);have hs4 : w2.heap.size ≤ w4.heap.size := hg4.size;have hnv4 : IsNode w4 (fun b => b < w2.heap.size) x v := HNV.out.grown hg4 fun b _ hb => ⟨by simp, hb⟩
   refine (write_any x v _ w2.heap.size 0 _ F [] w4 hnv4 (fun _ h => h) hown4 hs4 (by rw [HF.out]; omega)).mono ?_;rintro e w5 ⟨V5, c5, rfl, hown5, hb5⟩;have hb4 : Blk w5 bb 71 #[.slice none 0 0] := (hb2.grown hg4 (by simp)).below hb5 (by omega);have hcb : w5.cell? ⟨bb, 0, none⟩ = some (.slice none 0 0) := hb4.cell 0;have hfb := hb4.soft 0;rw [Nat.zero_add, List.nil_append, HF.out] at hown5;rw [Nat.zero_add, HF.out];go_wp2_with fail
   go_end0
   refine .inl ⟨HC0.out, rfl, ?_, V5, c5, ?_, ?_, fun ad e => by subst e; have := (hown5.lt ad.block rfl).1; omega⟩
   · refine gr_set (below_gr ?_ _) (.inl rfl) _
     have h1 : Below w.heap.size w w2 := (bel_alloc (Below.refl _ _) _).trans (gr_below HG2.out (by rw [size_alloc]; omega) fun b hb => by cases hb; exact Nat.le_refl _);exact (h1.trans (gr_below hg4 (by omega) fun b hb => by cases hb)).trans (hb5.mono (by omega))
   · rw [HF.out]
     exact hb4.put 0 _
   · rw [HF.out]
     exact Rd.own (hown5.kept (gr_set (gr_refl w5 (some bb)) (.inl rfl) _) (.inr fun e => by have := (hown5.lt bb e).1; omega))
 · refine ⟨rfl, .inr ⟨hc0, rfl, ?_⟩⟩
   exact (bel_alloc (Below.refl _ _) _).trans (gr_below hg2 (by rw [size_alloc]; omega) fun b hb => by cases hb; exact Nat.le_refl _)
theorem caught1_panic (g : Nat) (e0 p0 : Int) (e q : Nat) (w : World) (hb : Blk w g 137 #[.int .i64 e0, .int .i64 p0]) :
 CallsD Tryz.prog 122 #[.pointer (some ⟨g, 0, none⟩)] (.panicking (flt e q)) w fun en u' w' =>
  en = .returned (.tuple #[]) ∧ u' = .panicking [{ v := .iface 137 (.agg #[.int .i64 (e : Int), .int .i64 (q : Int)]), recovered := true }] ∧ Blk w' g 137 #[.int .i64 (e : Int), .int .i64 (q : Int)] ∧ w.grownBy w' (some g) := by
 have hc0 : w.cell? ⟨g, 0, none⟩ = some (.int .i64 e0) := hb.cell 0;have hc1 : w.cell? ⟨g, 1, none⟩ = some (.int .i64 p0) := hb.cell 1;have hz0 := hb.soft 0;have hz1 := hb.soft 1;have ha := as_fault;refine callsD_of_wpS Tryz.func122 rfl fun c₀ cs hu => ?_;unfold flt at hu;apply wpS_seq;apply wpS_region;simp [wpOpsS, go_sem, recoverD, hu, Tryz.ntmps122, Exit.thenS];apply wpS_seq;apply wpS_region;simp [wpOpsS, go_sem, Exit.thenS];refine wpS_cond (t := true) (by simp [Act.eval, Array.replicate]) ?_;simp only [if_true];apply wpS_region;simp [wpOpsS, go_sem, hc0, hc1, hz0, hz1, ha, bodyPostS, results, Tryz.results122];exact ⟨by simpa using (hb.put 0 (.int .i64 (e : Int))).put 1 (.int .i64 (q : Int)), gr_set (p := ⟨g, 1, none⟩) (gr_set (p := ⟨g, 0, none⟩) (gr_refl w (some g)) (.inl rfl) _) (.inl rfl) _⟩
theorem caught1_idle (g : Nat) (w : World) :
 CallsD Tryz.prog 122 #[.pointer (some ⟨g, 0, none⟩)] .returning w fun en u' w' => en = .returned (.tuple #[]) ∧ u' = .returning ∧ w' = w := by
 refine callsD_of_wpS Tryz.func122 rfl fun c₀ cs hu => ?_;apply wpS_seq;apply wpS_region;simp [wpOpsS, go_sem, recoverD, hu, Tryz.ntmps122, Exit.thenS];apply wpS_seq;apply wpS_region;simp [wpOpsS, go_sem, Exit.thenS];refine wpS_cond (t := false) (by simp [Act.eval, Array.replicate]) ?_;simp only [Bool.false_eq_true, if_false];refine wpS_of_wp (wp_skip ?_);cases c₀
 simp_all [bodyPostS, results, Tryz.results122]
def Does (w : World) (P0 : World → Prop) (P1 : Nat → Nat → World → Prop) (e : Ending) (w' : World) : Prop :=
 w.heap.size < w'.heap.size ∧ Blk w' w.heap.size 137 #[.int .i64 0, .int .i64 0] ∧ ((e = .returned (.tuple #[]) ∧ P0 w') ∨ ∃ a b, e = .panicked (flt a b) ∧ P1 a b w')
def Caught (w : World) (P0 : World → Prop) (P1 : Nat → Nat → World → Prop) (e : Ending) (w' : World) : Prop :=
 ∃ (a b : Nat) (w1 : World), e = .returned (.agg #[.int .i64 (a : Int), .int .i64 (b : Int)]) ∧ w1.grownBy w' (some w.heap.size) ∧ ((a = 0 ∧ b = 0 ∧ P0 w1) ∨ P1 a b w1)
set_option maxRecDepth 20000 in
theorem caught_any (k : Nat) (cap : Array Value) (w : World) (P0 : World → Prop) (P1 : Nat → Nat → World → Prop)
 (hk : ∀ W : World, (callFunc k cap).run Tryz.prog W = .ok (.enter k cap) W) (h : Calls Tryz.prog k cap (w.alloc (.cells #[.int .i64 0, .int .i64 0] 137)) (Does w P0 P1)) :
 Calls Tryz.prog 68 #[.func (.func k) #[] cap] w (Caught w P0 P1) := by
 have hmf : ∀ (fn : Fn) (first cap : Array Value) (w : World), (Instr.makeFunc fn first cap).run Tryz.prog w = .ok (.func fn first cap) w := fun _ _ _ _ => rfl;have H := hid h;clear h
 go_enter_defers Tryz.func68, Tryz.ntmps68
 go_wp2_with fail
 refine H.out.mono ?_;rintro e w1 ⟨hs, hblk, ⟨rfl, h0⟩ | ⟨a, b, rfl, h1⟩⟩
 · have H0 := hid h0
   clear h0;have hc0 : w1.cell? ⟨w.heap.size, 0, none⟩ = some (.int .i64 0) := hblk.cell 0;have hc1 : w1.cell? ⟨w.heap.size, 1, none⟩ = some (.int .i64 0) := hblk.cell 1;have hz0 := hblk.soft 0;have hz1 := hblk.soft 1;go_wp2_with fail
   refine leaves_cons (f := 122) (args := #[.pointer (some ⟨w.heap.size, 0, none⟩)]) (by simp) (by simp [go_sem]) ?_;refine (caught1_idle w.heap.size _).mono ?_;rintro e u' w2 ⟨rfl, rfl, rfl⟩
   have hblk2 : Blk ((w1.setCell ⟨w.heap.size, 0, none⟩ (.int .i64 0)).setCell ⟨w.heap.size, 1, none⟩ (.int .i64 0)) w.heap.size 137 #[.int .i64 0, .int .i64 0] := by
    simpa using (hblk.put 0 (.int .i64 0)).put 1 (.int .i64 0)
   have hd0 := hblk2.cell 0;have hd1 := hblk2.cell 1;simp only [List.getElem?_toArray, List.getElem?_cons_succ, List.getElem?_cons_zero] at hd0 hd1
   have hgr : w1.grownBy ((w1.setCell ⟨w.heap.size, 0, none⟩ (.int .i64 0)).setCell ⟨w.heap.size, 1, none⟩ (.int .i64 0)) (some w.heap.size) :=
    gr_set (p := ⟨w.heap.size, 1, none⟩) (gr_set (p := ⟨w.heap.size, 0, none⟩) (gr_refl w1 (some w.heap.size)) (.inl rfl) _) (.inl rfl) _
   generalize (w1.setCell ⟨w.heap.size, 0, none⟩ (.int .i64 0)).setCell ⟨w.heap.size, 1, none⟩ (.int .i64 0) = w3 at hd0 hd1 hgr;simp [Leaves, settle, results, Tryz.results68, go_sem, hd0, hd1];exact ⟨0, 0, w1, rfl, hgr, .inl ⟨rfl, rfl, H0.out⟩⟩
 · refine leaves_cons (f := 122) (args := #[.pointer (some ⟨w.heap.size, 0, none⟩)]) (by simp) (by simp [go_sem]) ?_
   refine (caught1_panic w.heap.size 0 0 a b _ hblk).mono ?_;rintro e u' w2 ⟨rfl, rfl, hblk2, hgr⟩;have hd0 := hblk2.cell 0;have hd1 := hblk2.cell 1;simp only [List.getElem?_toArray, List.getElem?_cons_succ, List.getElem?_cons_zero] at hd0 hd1;simp [Leaves, settle, results, Tryz.results68, go_sem, hd0, hd1];exact ⟨a, b, w1, rfl, hgr, .inr h1⟩
def PutOk (x : It) (w : World) (w' : World) : Prop :=
 chk x 0 = 0 ∧ Below w.heap.size w w' ∧ w.heap.size + 2 < w'.heap.size ∧ ∃ A c, Blk w' (w.heap.size + 1) 71 #[.slice A (form x).length c] ∧ Rd w' A (form x).length c (cs (form x)) ∧ ∀ ad, A = some ad → w.heap.size + 3 ≤ ad.block
def PutNo (x : It) (w : World) (a b : Nat) (w' : World) : Prop :=
 chk x 0 ≠ 0 ∧ a = chk x 0 ∧ b = 0 ∧ Below w.heap.size w w' ∧ w.heap.size + 2 < w'.heap.size ∧ Blk w' (w.heap.size + 1) 71 #[.slice none 0 0]
theorem putdone_does {x : It} {w : World} {e : Ending} {w' : World} {o1 : Obj} (h : PutDone x (w.heap.size + 1) (((w.alloc o1).alloc (.cells #[.slice none 0 0] 71)).alloc (.cells #[.int .i64 0, .int .i64 0] 137)) e w') :
 Does ((w.alloc o1).alloc (.cells #[.slice none 0 0] 71)) (PutOk x w) (PutNo x w) e w' := by
 have hf : Blk (((w.alloc o1).alloc (.cells #[.slice none 0 0] 71)).alloc (.cells #[.int .i64 0, .int .i64 0] 137)) (w.heap.size + 2) 137 #[.int .i64 0, .int .i64 0] := by
  have := Blk.new ((w.alloc o1).alloc (.cells #[.slice none 0 0] 71)) 137 #[.int .i64 0, .int .i64 0];simpa only [size_alloc] using this
 have hb0 : Blk (((w.alloc o1).alloc (.cells #[.slice none 0 0] 71)).alloc (.cells #[.int .i64 0, .int .i64 0] 137)) (w.heap.size + 1) 71 #[.slice none 0 0] := by
  have := (Blk.new (w.alloc o1) 71 #[.slice none 0 0]).alloc (.cells #[.int .i64 0, .int .i64 0] 137);simpa only [size_alloc] using this
 have hw0 : Below w.heap.size w (((w.alloc o1).alloc (.cells #[.slice none 0 0] 71)).alloc (.cells #[.int .i64 0, .int .i64 0] 137)) := bel_alloc (bel_alloc (bel_alloc (Below.refl _ _) _) _) _;have hsz0 : (((w.alloc o1).alloc (.cells #[.slice none 0 0] 71)).alloc (.cells #[.int .i64 0, .int .i64 0] 137)).heap.size = w.heap.size + 3 := by simp only [size_alloc]
 unfold Does;simp only [size_alloc];generalize (((w.alloc o1).alloc (.cells #[.slice none 0 0] 71)).alloc (.cells #[.int .i64 0, .int .i64 0] 137)) = W at *;rcases h with ⟨h0, rfl, hg, A, c, hb, hr, ha⟩ | ⟨h0, rfl, hb⟩
 · have := hg.size
   exact ⟨by omega, hf.grown hg (by simp), .inl ⟨rfl, h0, hw0.trans (gr_below hg (by omega) fun b hb => by cases hb; omega), by omega, A, c, hb, hr, fun ad e => by have := ha ad e; omega⟩⟩
 · have := hb.size
   exact ⟨by omega, hf.bel hb, .inr ⟨_, _, rfl, h0, rfl, rfl, hw0.trans (hb.mono (by omega)), by omega, hb0.bel hb⟩⟩
theorem cell_same {w : World} {p : Addr} {v : Value} (h : w.cell? p = some v) (q : Addr) : (w.setCell p v).cell? q = w.cell? q := by
 by_cases e : q = p
 · subst e
   rw [h];exact World.cell?_setCell_same w q v h
 · exact World.cell?_setCell_other w p q v (fun h => e h.symm)
theorem rd_grown {w w' : World} {A : Option Addr} {n c : Nat} {xs : List Value} {r : Option Nat} (h : Rd w A n c xs) (hg : w.grownBy w' r) (hr : ∀ ad, A = some ad → some ad.block ≠ r) : Rd w' A n c xs :=
 ⟨h.len, h.le, h.cap, h.nil, fun hn => by
  obtain ⟨ad, e, hb, hc⟩ := h.spot hn;exact ⟨ad, e, by have := hg.size; omega, fun j u hu => (World.cell?_of_block (by rw [add_block]; exact hg.block _ hb (hr ad e))).trans (hc j u hu)⟩⟩
def PutNew (x : It) (w : World) (e : Ending) (w' : World) : Prop :=
 ∃ A n c, e = .returned (.tuple #[.slice A n c, .int .i64 ((chk x 0 : Nat) : Int)]) ∧ (∀ ad, A = some ad → w.heap.size ≤ ad.block) ∧ Rd w' A n c (cs (if chk x 0 = 0 then form x else [])) ∧ Below w.heap.size w w'
theorem call_put1 (cap : Array Value) (W : World) : (callFunc 69 cap).run Tryz.prog W = .ok (.enter 69 cap) W := by kernel_rfl
set_option maxRecDepth 20000 in
set_option maxHeartbeats 2000000 in
theorem put_new (x : It) (A : Option Addr) (c : Nat) (S : Nat → Prop) (w : World) (hl : Lies w S x A c) (hS : ∀ b, S b → b < w.heap.size) (hsz : (form x).length ≤ 1000000) :
 Calls Tryz.prog 38 #[.agg #[.int .i64 x.kind, .int .u64 (x.num : Int), .string x.str, .slice A x.kids.length c]] w (PutNew x w) := by
 have hmf : ∀ (fn : Fn) (first cap : Array Value) (w : World), (Instr.makeFunc fn first cap).run Tryz.prog w = .ok (.func fn first cap) w := fun _ _ _ _ => rfl;have HL := hid hl;have HS := hid hS;clear hl hS;go_enter Tryz.func38, Tryz.ntmps38
 go_wp2_with fail
 refine (caught_any 69 _ _ (PutOk x w) (PutNo x w) (call_put1 _) ?_).mono ?_
 · refine (put1_any x A c w.heap.size (w.heap.size + 1) S _ (((Blk.new w _ _).alloc _).alloc _) ((by have := Blk.new (w.alloc (.cells #[.int .i64 x.kind, .int .u64 (x.num : Int), .string x.str, .slice A x.kids.length c] 95)) 71 #[.slice none 0 0]; rw [size_alloc] at this; exact this.alloc _))
    (((HL.out.alloc _).alloc _).alloc _) (fun b hb => by have := HS.out b hb; simp only [size_alloc]; omega) hsz).mono ?_
   exact fun e w' h => putdone_does h
 simp only [Caught, size_alloc];rintro e w2 ⟨a, b, w1, rfl, hg, h⟩;rcases h with ⟨rfl, rfl, h0, hbl, hs, A1, c1, hb1, hr1, ha1⟩ | ⟨h0, rfl, rfl, hbl, hs, hb1⟩
 · have hb2 := hb1.grown hg (by simp)
   have hr2 := rd_grown hr1 hg fun ad e => (by have := ha1 ad e; simp; omega);have hbw : Below w.heap.size w w2 := hbl.trans (gr_below hg (by omega) fun b hb => by cases hb; omega);have hs2 : w.heap.size + 2 < w2.heap.size := (by have := hg.size; omega);have hc : (w2.alloc (.cells #[.int .i64 0, .int .i64 0] 137)).cell? ⟨w.heap.size + 1, 0, none⟩ = some (.slice A1 (form x).length c1) := (hb2.alloc _).cell 0;have hz := (hb2.alloc (.cells #[.int .i64 0, .int .i64 0] 137)).soft 0;have HB2 := hid hb2;have H0 := hid h0;have HR2 := hid hr2;have HBW := hid hbw;have HA1 := hid ha1;clear hb1 hr1 ha1 hbl hs hg h0 hr2 hbw hb2;go_wp2_with fail
   go_region;go_wp2_with fail
   have hfin : ((w2.alloc (.cells #[.int .i64 0, .int .i64 0] 137)).setCell ⟨w.heap.size + 1, 0, none⟩ (.slice A1 (form x).length c1)).drew.cell? ⟨w.heap.size + 1, 0, none⟩ = some (.slice A1 (form x).length c1) := (cell_same hc _).trans hc;refine bodyPost_ret (v := .tuple #[.slice A1 (form x).length c1, .int .i64 0]) (by simp [results, Tryz.results38, go_sem, hfin]) rfl ?_;refine ⟨A1, _, c1, by rw [H0.out]; rfl, (fun ad e => by have := HA1.out ad e; omega), ?_, ?_⟩
   · rw [if_pos H0.out]
     exact (HR2.out.alloc _).keep (w' := ((w2.alloc (.cells #[.int .i64 0, .int .i64 0] 137)).setCell ⟨w.heap.size + 1, 0, none⟩ (.slice A1 (form x).length c1)).drew) (by simp [World.setCell]) fun p _ => cell_same hc p
   · exact ((bel_alloc HBW.out _).setCell (p := ⟨w.heap.size + 1, 0, none⟩) (by simp) _).drew
 · have hb2 := hb1.grown hg (by simp)
   have hbw : Below w.heap.size w w2 := hbl.trans (gr_below hg (by omega) fun b hb => by cases hb; omega);have hs2 : w.heap.size + 2 < w2.heap.size := (by have := hg.size; omega);generalize hV : chk x 0 = v at h0;have HV := hid hV;have H0 := hid h0;have hc : (w2.alloc (.cells #[.int .i64 (v : Int), .int .i64 0] 137)).cell? ⟨w.heap.size + 1, 0, none⟩ = some (.slice none 0 0) := (hb2.alloc _).cell 0;have hz := (hb2.alloc (.cells #[.int .i64 (v : Int), .int .i64 0] 137)).soft 0;have HBW := hid hbw;clear hb1 hbl hs hg h0 hbw hb2 hV;go_wp2_with fail
   go_region;go_wp2_with fail
   have hfin : ((w2.alloc (.cells #[.int .i64 (v : Int), .int .i64 0] 137)).setCell ⟨w.heap.size + 1, 0, none⟩ (.slice none 0 0)).drew.cell? ⟨w.heap.size + 1, 0, none⟩ = some (.slice none 0 0) := (cell_same hc _).trans hc;refine bodyPost_ret (v := .tuple #[.slice none 0 0, .int .i64 (v : Int)]) (by simp [results, Tryz.results38, go_sem, hfin]) rfl ?_;refine ⟨none, 0, 0, by rw [HV.out], (fun ad e => by cases e), ?_, ?_⟩
   · rw [if_neg (by rw [HV.out]; exact H0.out)]
     exact Rd.nil_ _
   · exact ((bel_alloc HBW.out _).setCell (p := ⟨w.heap.size + 1, 0, none⟩) (by simp) _).drew
end Go.Proofs.YtkejjdoaljoooaaGreatDoor.Cp
/- codec's reader: left, kind, number: what stands at the place, or a fault that tells the error and its place. -/
namespace Go.Proofs.YtkejjdoaljoooaaGreatDoor.Cp
open Lib (hid)
open Go.RowKit Mem Cod
def Rdr (w : World) (g : Nat) (A : Option Addr) (n c p : Nat) : Prop := Blk w g 185 #[.slice A n c, .int .i64 (p : Int)]
set_option maxRecDepth 20000 in
theorem left_any (g : Nat) (A : Option Addr) (n c p : Nat) (w : World) (h : Rdr w g A n c p) (hp : p ≤ n) (hn : n ≤ 2000000) :
 Calls Tryz.prog 149 #[.pointer (some ⟨g, 0, none⟩)] w fun e w' => e = .returned (.int .u64 ((n : Int) - p)) ∧ ∃ q, w' = w.drewN q := by
 have c0 : w.cell? ⟨g, 0, none⟩ = some (.slice A n c) := Blk.cell h 0;have c1 : w.cell? ⟨g, 1, none⟩ = some (.int .i64 (p : Int)) := Blk.cell h 1;have hw1 : IntKind.i64.wrap ((n : Int) - p) = (n : Int) - p := IntWalk.i64_in _ (by omega);have hw2 : IntKind.u64.wrap ((n : Int) - p) = (n : Int) - p := by rw [IntKind.wrap_u64]; omega
 go_enter Tryz.func149, Tryz.ntmps149
 go_wp2_with fail
 go_quiet (fail)
 go_wp2_with fail
 go_ret;exact ⟨rfl, nq, rfl⟩
theorem fail_2p (p : Nat) (w : World) : Calls Tryz.prog 72 #[.int .i64 2, .int .i64 (p : Int)] w fun en w' => en = .panicked (flt 2 p) ∧ w = w' := fail_any 2 p w
theorem fail_3p (p : Nat) (w : World) : Calls Tryz.prog 72 #[.int .i64 3, .int .i64 (p : Int)] w fun en w' => en = .panicked (flt 3 p) ∧ w = w' := fail_any 3 p w
theorem fail_4p (p : Nat) (w : World) : Calls Tryz.prog 72 #[.int .i64 4, .int .i64 (p : Int)] w fun en w' => en = .panicked (flt 4 p) ∧ w = w' := fail_any 4 p w
theorem fail_12p (p : Nat) (w : World) : Calls Tryz.prog 72 #[.int .i64 12, .int .i64 (p : Int)] w fun en w' => en = .panicked (flt 12 p) ∧ w = w' := fail_any 12 p w
def KindIs (b : List Nat) (d p g : Nat) (A : Option Addr) (n c : Nat) (w : World) (e : Ending) (w' : World) : Prop :=
 w.grownBy w' (some g) ∧ ((p < n ∧ d ≤ 15 ∧ b.getD p 0 ≤ 2 ∧ e = .returned (.int .u8 ((b.getD p 0 : Nat) : Int)) ∧ Rdr w' g A n c (p + 1)) ∨ (n ≤ p ∧ e = .panicked (flt 2 p)) ∨ (p < n ∧ 15 < d ∧ e = .panicked (flt 12 p)) ∨
  (p < n ∧ d ≤ 15 ∧ 2 < b.getD p 0 ∧ e = .panicked (flt 4 p)))
set_option maxRecDepth 20000 in
set_option maxHeartbeats 2000000 in
theorem kind_any (b : List Nat) (d p g : Nat) (A : Option Addr) (n c : Nat) (w : World) (h : Rdr w g A n c p) (hr : Rd w A n c (cs b)) (hb : ∀ x ∈ b, x < 256) (hp : p ≤ n) (hn : n ≤ 2000000) (hd : d ≤ 16) :
 Calls Tryz.prog 147 #[.pointer (some ⟨g, 0, none⟩), .int .i64 (d : Int)] w (KindIs b d p g A n c w) := by
 have H := hid h;have HR := hid hr;have HB := hid hb;clear h hr hb;have hcap := HR.out.le;by_cases h0 : p < n
 · have hz : ((n : Int) - p == 0) = false := by simp; omega
   by_cases h15 : 16 ≤ (d : Int)
   · go_enter Tryz.func147, Tryz.ntmps147
     go_wp2_with fail
     refine (left_any g A n c p w H.out hp hn).mono ?_;rintro e w1 ⟨rfl, q, rfl⟩;have c1 : w.cell? ⟨g, 1, none⟩ = some (.int .i64 (p : Int)) := Blk.cell H.out 1;go_wp2_with fail
     refine (fail_12p p _).mono ?_;rintro e w2 ⟨rfl, rfl⟩;exact ⟨rfl, gr_drewN (gr_refl _ _) _, .inr (.inr (.inl ⟨h0, by omega, rfl⟩))⟩
   · obtain ⟨ad, x, rfl, hx, hcx⟩ := HR.out.byte h0
     have hg : b.getD p 0 = x := (by simp [List.getD, hx]);have hx256 : x < 256 := HB.out x (List.mem_of_getElem? hx);have HG := hid hg;clear hx hg;have c0 : w.cell? ⟨g, 0, none⟩ = some (.slice (some ad) n c) := Blk.cell H.out 0;have c1 : w.cell? ⟨g, 1, none⟩ = some (.int .i64 (p : Int)) := Blk.cell H.out 1;have z1 : w.frozen? ⟨g, 1, none⟩ = false := Blk.soft H.out 1;by_cases h2 : 2 < (x : Int)
     · go_enter Tryz.func147, Tryz.ntmps147
       go_wp2_with fail
       refine (left_any g (some ad) n c p w H.out hp hn).mono ?_;rintro e w1 ⟨rfl, q, rfl⟩;go_wp2_with fail
       go_quiet (fail)
       go_wp2_with fail
       refine (fail_4p p _).mono ?_;rintro e w2 ⟨rfl, rfl⟩;exact ⟨rfl, gr_drewN (gr_refl _ _) _, .inr (.inr (.inr ⟨h0, by omega, by rw [HG.out]; omega, rfl⟩))⟩
     · go_enter Tryz.func147, Tryz.ntmps147
       go_wp2_with fail
       refine (left_any g (some ad) n c p w H.out hp hn).mono ?_;rintro e w1 ⟨rfl, q, rfl⟩;go_wp2_with fail
       go_quiet (fail)
       go_wp2_with fail
       go_ret;refine ⟨gr_set (gr_drewN (gr_refl _ _) _) (.inl rfl) _, .inl ⟨h0, by omega, by rw [HG.out]; omega, by rw [HG.out]; rfl, ?_⟩⟩;have := (H.out.drewN (q + nq)).put 1 (.int .i64 ((p : Int) + 1));simpa [Rdr] using this
 · have hz : ((n : Int) - p == 0) = true := by simp; omega
   have c1 : w.cell? ⟨g, 1, none⟩ = some (.int .i64 (p : Int)) := Blk.cell H.out 1;go_enter Tryz.func147, Tryz.ntmps147
   go_wp2_with fail
   refine (left_any g A n c p w H.out hp hn).mono ?_;rintro e w1 ⟨rfl, q, rfl⟩;go_wp2_with fail
   refine (fail_2p p _).mono ?_;rintro e w2 ⟨rfl, rfl⟩;exact ⟨rfl, gr_drewN (gr_refl _ _) _, .inr (.inl ⟨by omega, rfl⟩)⟩
def NumIs (b : List Nat) (p g : Nat) (A : Option Addr) (n c : Nat) (w : World) (e : Ending) (w' : World) : Prop :=
 w.grownBy w' (some g) ∧ (((Num.take (b.drop p)).2.2 = 0 ∧ e = .returned (.int .u64 (((Num.take (b.drop p)).1 : Nat) : Int)) ∧ Rdr w' g A n c (p + (Num.take (b.drop p)).2.1)) ∨
  ((Num.take (b.drop p)).2.2 ≠ 0 ∧ e = .panicked (flt (Num.take (b.drop p)).2.2 p)))
theorem take_quiet (A : Option Addr) (n c : Nat) (bs : List Nat) (v k e : Nat) (w : World) (q : Nat) (hr : Rd w A n c (cs bs)) (hlt : ∀ x ∈ bs, x < 256) (ht : Num.take bs = (v, k, e)) :
 Calls Tryz.prog 152 #[.slice A n c] (w.drewN q) fun en w'' => en = .returned (.tuple #[.int .u64 (v : Int), .int .i64 (k : Int), .int .i64 (e : Int)]) ∧ ∃ m, w'' = w.drewN m :=
 (take_any A n c bs _ (hr.drewN q) hlt).mono fun en w' ⟨he, hw⟩ => ⟨by rw [he, ht], q, hw.symm⟩
set_option maxRecDepth 20000 in
set_option maxHeartbeats 2000000 in
theorem number_any (b : List Nat) (p g : Nat) (A : Option Addr) (n c : Nat) (w : World) (h : Rdr w g A n c p) (hr : Rd w A n c (cs b)) (hb : ∀ x ∈ b, x < 256) (hp : p ≤ n) (hn : n ≤ 2000000) :
 Calls Tryz.prog 148 #[.pointer (some ⟨g, 0, none⟩)] w (NumIs b p g A n c w) := by
 have hcut := run_cut (P := Tryz.prog) 71 Tryz.underlying71 (fun w => by kernel_rfl) A n c p hp;have hrc := hr.cut hp;rw [cs_drop] at hrc;have hbd : ∀ x ∈ b.drop p, x < 256 := fun x hx => hb x (List.mem_of_mem_drop hx);have hlb := hr.len;rw [length_cs] at hlb;have hok := take_ok (b.drop p) hbd;unfold NumIs;rcases ht : Num.take (b.drop p) with ⟨v, k, e⟩
 rw [ht] at hok;simp only at hok ⊢;have c0 : w.cell? ⟨g, 0, none⟩ = some (.slice A n c) := Blk.cell h 0;have c1 : w.cell? ⟨g, 1, none⟩ = some (.int .i64 (p : Int)) := Blk.cell h 1;have z1 : w.frozen? ⟨g, 1, none⟩ = false := Blk.soft h 1;have hcap := hr.le;have hcm := hr.cap;unfold maxLen at hcm;have H := hid h;have HRC := hid hrc;have HBD := hid hbd;have HT := hid ht;have HOK := hid hok;have HLB := hid hlb;clear h hr hb hrc hbd ht hok hlb;by_cases he : e = 0
 · subst he
   obtain ⟨_, o2, o3, o4⟩ := HOK.out rfl;have hk9 : k ≤ 2000000 := (by rw [List.length_drop] at o3; have := HLB.out; omega);have HO2 := hid o2;have HO3 := hid o3;clear o2 o3 o4;go_enter Tryz.func148, Tryz.ntmps148
   go_wp2_with fail
   go_quiet ((go_at_call 152; exact take_quiet _ _ _ _ v k 0 w _ HRC.out HBD.out HT.out))
   go_wp2_with fail
   go_ret;refine ⟨gr_set (gr_drewN (gr_refl _ _) _) (.inl rfl) _, .inl ⟨trivial, rfl, ?_⟩⟩;have := (H.out.drewN nq).put 1 (.int .i64 ((p : Int) + k));simpa [Rdr] using this
 · have hne : ((e : Int) != 0) = true := by rw [bne_iff_ne]; omega
   have HE := hid he;clear he;go_enter Tryz.func148, Tryz.ntmps148
   go_wp2_with fail
   go_quiet ((go_at_call 152; exact take_quiet _ _ _ _ v k e w _ HRC.out HBD.out HT.out))
   go_wp2_with fail
   refine (fail_any e p _).mono ?_;rintro en w2 ⟨rfl, rfl⟩;exact ⟨rfl, gr_drewN (gr_refl _ _) _, .inr ⟨HE.out, rfl⟩⟩
end Go.Proofs.YtkejjdoaljoooaaGreatDoor.Cp
/- codec's reader: item: the tree of the item that begins at the place, or a fault that tells the error and its place. -/
namespace Go.Proofs.YtkejjdoaljoooaaGreatDoor.Cp
open Lib (hid)
open Go.RowKit Mem Cod
def Itemed (b : List Nat) (r p g : Nat) (A : Option Addr) (n c : Nat) (w : World) (e : Ending) (w' : World) : Prop :=
 w.grownBy w' (some g) ∧ ((∃ x q v, tk b r p = .ok x q ∧ e = .returned v ∧ IsNode w' (fun bl => w.heap.size ≤ bl) x v ∧ Rdr w' g A n c q) ∨ (∃ er q, tk b r p = .bad er q ∧ e = .panicked (flt er q)))
def ItemRel (w : World) (b : List Nat) (r q0 g : Nat) (A : Option Addr) (n c : Nat) (m : Nat) (parts i : Value) (wr : World) : Prop :=
 ∃ (k : Nat) (V : Option Addr) (cv : Nat) (us : List Value) (xs : List It) (q : Nat), k ≤ m ∧ i = .int .u64 k ∧ parts = .slice V k cv ∧ wr.ownsRow w.heap.size 141 1 (.slice V k cv) k us ∧ rows (tk b r) k q0 = .ok xs q ∧
  xs.length = k ∧ q ≤ n ∧ Rdr wr g A n c q ∧ w.grownBy wr (some g) ∧
  ∀ (j : Nat) (y : It) (u : Value), xs[j]? = some y → us[j]? = some u → IsNode wr (fun b => w.heap.size ≤ b ∧ some b ≠ (Value.slice V k cv).ownBlock) y u
theorem tk_end {b : List Nat} {r p : Nat} (h : b.length ≤ p) : tk b r p = .bad 2 p := by
 cases r <;> rw [tk, if_pos h]
theorem tk_deep {b : List Nat} {p : Nat} (h : p < b.length) : tk b 0 p = .bad 12 p := by rw [tk, if_neg (by omega)]
theorem tk_kind {b : List Nat} {r p : Nat} (h : p < b.length) (hk : 2 < b.getD p 0) : tk b (r + 1) p = .bad 4 p := by rw [tk, if_neg (by omega), one, if_pos hk]
theorem tk_num {b : List Nat} {r p : Nat} (h : p < b.length) (hk : b.getD p 0 ≤ 2) (hn : (Num.take (b.drop (p + 1))).2.2 ≠ 0) : tk b (r + 1) p = .bad (Num.take (b.drop (p + 1))).2.2 (p + 1) := by
 rw [tk, if_neg (by omega), one, if_neg (by omega), if_pos hn]
theorem tk_body {b : List Nat} {r p : Nat} (h : p < b.length) (hk : b.getD p 0 ≤ 2) (hn : (Num.take (b.drop (p + 1))).2.2 = 0) :
 tk b (r + 1) p = body b (tk b r) (b.getD p 0) (Num.take (b.drop (p + 1))).1 (p + 1 + (Num.take (b.drop (p + 1))).2.1) := by
 rw [tk, if_neg (by omega), one, if_neg (by omega), if_neg (by simpa using hn)]
theorem rd_grown0 {w w' : World} {A : Option Addr} {n c : Nat} {xs : List Value} {r : Option Nat} (h : Rd w A n c xs) (hg : w.grownBy w' r) (hr : 0 < n → ∀ ad, A = some ad → some ad.block ≠ r) : Rd w' A n c xs :=
 ⟨h.len, h.le, h.cap, h.nil, fun hn => by
  obtain ⟨ad, e, hb, hc⟩ := h.spot hn;exact ⟨ad, e, by have := hg.size; omega, fun j u hu => (World.cell?_of_block (by rw [add_block]; exact hg.block _ hb (hr hn ad e))).trans (hc j u hu)⟩⟩
theorem run_mid {P : Program} (t : TypeId) (ht : P.underlying t = some (.slice (P.elem t))) (hsz : ∀ w : World, (sizeOf (P.elem t)).run P w = .ok 1 w) (A : Option Addr) (n c p q : Nat) (hp : p ≤ q) (hq : q ≤ n) (hn : n ≤ c) (w : World) :
 (Instr.slice t (.slice A n c) (some (.int .i64 (p : Int))) (some (.int .i64 (q : Int))) none).run P w = .ok (.slice (cutA A c p) (q - p) (c - p)) w := by
 rw [run_slice_lh w t A n c ht .i64 .i64 (p : Int) (q : Int) (by omega) (by omega) (by omega), hsz];simp [Result.andThen, sliced, cutA]
set_option maxRecDepth 100000 in
set_option maxHeartbeats 4000000 in
theorem item_step (b : List Nat) (r d p g : Nat) (A : Option Addr) (n c : Nat) (w : World) (hrd : r + d = 16) (h : Rdr w g A n c p) (hr : Rd w A n c (cs b)) (hA : 0 < n → ∀ ad, A = some ad → ad.block ≠ g) (hb : ∀ x ∈ b, x < 256) (hp : p ≤ n) (hn : n ≤ 2000000)
 (ih : ∀ (r' : Nat) (p : Nat) (w : World), r = r' + 1 → Rdr w g A n c p → Rd w A n c (cs b) → p ≤ n →
  Calls Tryz.prog 112 #[.pointer (some ⟨g, 0, none⟩), .int .i64 ((d : Int) + 1)] w (Itemed b r' p g A n c w)) :
 Calls Tryz.prog 112 #[.pointer (some ⟨g, 0, none⟩), .int .i64 (d : Int)] w (Itemed b r p g A n c w) := by
 obtain ⟨i0, hi, hz0, hz1, hz2⟩ := info_parts info54;have hlb := hr.len;rw [length_cs] at hlb;have hcap := hr.le;have hcm := hr.cap;unfold maxLen at hcm;have H := hid h;have HR := hid hr;have HA := hid hA;have HB := hid hb;have IH := hid ih;have HLB := hid hlb;clear h hr hA hb ih hlb;go_enter Tryz.func112, Tryz.ntmps112
 go_wp2_with fail
 refine (kind_any b d p g A n c w H.out HR.out HB.out hp hn (by omega)).mono ?_;rintro e w1 ⟨hg1, ⟨hpn, hd15, hk2, rfl, hr1⟩ | ⟨hnp, rfl⟩ | ⟨hpn, hd, rfl⟩ | ⟨hpn, hd15, hk, rfl⟩⟩
 · obtain ⟨r', rfl⟩ : ∃ r', r = r' + 1 := ⟨r - 1, by omega⟩
   have hrd1 := rd_grown0 HR.out hg1 fun h0 ad e => (by have := HA.out h0 ad e; simpa using this);have HG1 := hid hg1;have HRD1 := hid hrd1;clear hg1 hrd1;have hlen : p < b.length := (by have := HLB.out; omega);have HTN := hid (tk_num (r := r') hlen hk2);have HTB := hid (tk_body (r := r') hlen hk2);generalize b.getD p 0 = kb at hk2 HTB ⊢;have hkk : kb = 0 ∨ kb = 1 ∨ kb = 2 := (by omega);clear hlen;have hok := take_ok (b.drop (p + 1)) (fun x hx => HB.out x (List.mem_of_mem_drop hx));have HOK := hid hok;clear hok;go_wp2_with fail
   refine (number_any b (p + 1) g A n c w1 hr1 HRD1.out HB.out (by omega) hn).mono ?_;rintro e w2 ⟨hg2, hcase⟩;have hgw2 : w.grownBy w2 (some g) := HG1.out.trans hg2;have hrd2 := rd_grown0 HRD1.out hg2 fun h0 ad e => (by have := HA.out h0 ad e; simpa using this);rcases ht : Num.take (b.drop (p + 1)) with ⟨v, m, er⟩
   rw [ht] at hcase;have hok := HOK.out;have htn := HTN.out;have htb := HTB.out;rw [ht] at hok htn htb;simp only at hcase hok htn htb;clear HOK HTN HTB ht HG1 HRD1 hg2;rcases hcase with ⟨rfl, rfl, hr2⟩ | ⟨he, rfl⟩
   · obtain ⟨_, o2, o3, o4⟩ := hok rfl
     have hq : p + 1 + m ≤ n := (by rw [List.length_drop] at o3; have := HLB.out; omega);have htb' := htb rfl;have HTB := hid htb';have HG2 := hid hgw2;have HRD2 := hid hrd2;have HR2 := hid hr2;clear htb htb' htn hok o2 o3 hgw2 hrd2 hr2;generalize p + 1 + m = q at hq HTB HR2;rcases hkk with rfl | rfl | rfl
     · rw [show (((0 : Nat) : Nat) : Int) = 0 by rfl]
       go_wp2_with fail
       go_ret;refine ⟨HG2.out, .inl ⟨.mk 0 v ByteArray.empty [], q, _, by rw [HTB.out, body, if_pos rfl], rfl, ?_, HR2.out⟩⟩;rw [node_eq];exact ⟨.inl ⟨rfl, by show v ≤ _; omega, rfl⟩, fun i hi => by simp [It.kids] at hi⟩
     · rw [show (((1 : Nat) : Nat) : Int) = 1 by rfl]
       go_wp2_with fail
       refine (left_any g A n c q w2 HR2.out hq hn).mono ?_;rintro e w3 ⟨rfl, q3, rfl⟩;have c1 : w2.cell? ⟨g, 1, none⟩ = some (.int .i64 (q : Int)) := Blk.cell HR2.out 1;have c0 : w2.cell? ⟨g, 0, none⟩ = some (.slice A n c) := Blk.cell HR2.out 0;have z1 : w2.frozen? ⟨g, 1, none⟩ = false := Blk.soft HR2.out 1;by_cases hv : (n : Int) - q < v
       · go_wp2_with fail
         refine (fail_2p q _).mono ?_;rintro en w4 ⟨rfl, rfl⟩;refine ⟨rfl, gr_drewN HG2.out _, .inr ⟨2, q, ?_, rfl⟩⟩;rw [HTB.out, body, if_neg (by omega), if_pos (by have := HLB.out; omega)]
       · have hvn : v ≤ 2000000 := by omega
         have hcut := run_mid (P := Tryz.prog) 71 Tryz.underlying71 (fun w => by kernel_rfl) A n c q (q + v) (by omega) (by omega) hcap;rw [show q + v - q = v by omega, show ((q + v : Nat) : Int) = (q : Int) + v by omega] at hcut
         have hrt : Rd w2 (cutA A c q) v (c - q) (cs ((b.drop q).take v)) := by
          have := (HRD2.out.cut hq).take (k := v) (by omega);rwa [cs_drop, cs_take] at this
         have hcv : ∀ k : Nat, (convert 71 197 (.slice (cutA A c q) v (c - q))).run Tryz.prog (w2.drewN k) = .ok (.string (Cod.txt ((b.drop q).take v))) (w2.drewN k) := fun k =>
          Cod.run_text 71 197 5 Tryz.underlying71 Tryz.underlying5 Tryz.underlying197 (hrt.drewN k)
         have hwr : IntKind.i64.wrap ((q : Int) + v) = (q : Int) + v := IntWalk.i64_in _ (by omega);have hwc : IntKind.i64.wrap (v : Int) = (v : Int) := IntWalk.i64_in _ (by omega);clear hrt;go_wp2_with fail
         go_quiet (fail)
         go_wp2_with fail
         go_ret;refine ⟨gr_set (gr_drewN HG2.out _) (.inl rfl) _, .inl ⟨.mk 1 0 (Cod.txt ((b.drop q).take v)) [], q + v, _, ?_, rfl, ?_, ?_⟩⟩
         · rw [HTB.out, body, if_neg (by omega), if_neg (by have := HLB.out; omega), if_pos rfl]
         · rw [node_eq]
           refine ⟨.inr (.inl ⟨rfl, ?_, rfl⟩), fun i hi => by simp [It.kids] at hi⟩;show (Cod.txt ((b.drop q).take v)).size ≤ _;rw [Cod.size_txt, List.length_take];omega
         · have := (HR2.out.drewN (q3 + nq)).put 1 (.int .i64 ((q : Int) + v))
           simpa [Rdr] using this
     · rw [show (((2 : Nat) : Nat) : Int) = 2 by rfl]
       go_wp2_with fail
       refine (left_any g A n c q w2 HR2.out hq hn).mono ?_;rintro e w3 ⟨rfl, q3, rfl⟩;have c1 : w2.cell? ⟨g, 1, none⟩ = some (.int .i64 (q : Int)) := Blk.cell HR2.out 1;by_cases hv : (n : Int) - q < v
       · go_wp2_with fail
         refine (fail_2p q _).mono ?_;rintro en w4 ⟨rfl, rfl⟩;refine ⟨rfl, gr_drewN HG2.out _, .inr ⟨2, q, ?_, rfl⟩⟩;rw [HTB.out, body, if_neg (by omega), if_pos (by have := HLB.out; omega)]
       · have hvn : v ≤ 2000000 := by omega
         have hvb : decide ((n : Int) - q < v) = false := by simpa using hv
         have HBO := hid (show ∀ xs q', rows (tk b r') v q = .ok xs q' → tk b (r' + 1) p = .ok (.mk 2 0 ByteArray.empty xs) q' from fun xs q' hh => by
          rw [HTB.out, body, if_neg (by omega), if_neg (by have := HLB.out; omega), if_neg (by omega), hh])
         have HBN := hid (show ∀ er q', rows (tk b r') v q = .bad er q' → tk b (r' + 1) p = .bad er q' from fun er q' hh => by
          rw [HTB.out, body, if_neg (by omega), if_neg (by have := HLB.out; omega), if_neg (by omega), hh])
         have hgl := Blk.lt H.out;go_wp2_with fail
         have hst : ItemRel w b r' q g A n c v (.slice none 0 0) (.int .u64 0) (w2.drewN q3) :=
          ⟨0, none, 0, [], [], q, Nat.zero_le _, rfl, rfl, ⟨rfl, .inl ⟨rfl, rfl⟩⟩, rfl, rfl, hq, HR2.out.drewN q3, gr_drewN HG2.out q3, fun j y u h => by simp at h⟩
         go_loopw [8, 58] (ItemRel w b r' q g A n c v) (fun _ i _ => v - (intOf i).toNat)
         case atStart => exact hst
         case round =>
          clear hst c1;obtain ⟨k, V, cv, us, xs, q1, hk, rfl, rfl, hown, hrow, hxl, hq1, hrr, hgr, hnod⟩ := hrel;have HO := hid hown;have HROW := hid hrow;have HXL := hid hxl;have HRR := hid hrr;have HGR := hid hgr;have HN := hid hnod;clear hown hrow hxl hrr hgr hnod;by_cases hlt : k < v
          · go_wp2_with fail
            refine (IH.out r' q1 wr rfl HRR.out (rd_grown0 HR.out HGR.out fun h0 ad e => by have := HA.out h0 ad e; simpa using this) hq1).mono ?_;rintro e w5 ⟨hg5, ⟨y, q2, u, hty, rfl, hnu, hru⟩ | ⟨er, qe, hty, rfl⟩⟩
            · have hgood := tk_good HB.out (by have := HLB.out; omega) r' q1 y q2 (by omega) hty
              have hq2 : q2 ≤ n := (by have := hgood.2.2.2.1; have := HLB.out; omega);have HTY := hid hty;have HG5 := hid hg5;obtain ⟨ut, up, rfl⟩ := hnu.iface;have HNU := hid hnu;have HRU := hid hru;clear hty hg5 hnu hru hgood;have hs5 : w.heap.size ≤ w5.heap.size := (by have := HG5.out.size; have := HGR.out.size; omega);have hog : (Value.slice V k cv).ownBlock ≠ some g := fun e => (by have := (HO.out.lt g e).1; omega);have hown5 : w5.ownsRow w.heap.size 141 1 (.slice V k cv) k us := HO.out.kept HG5.out (.inr hog);go_wp2_with (at_builtin; refine wpList_append_lies _ rfl (.tmp 60) (.tmp 65) 199 rfl w.heap.size 141 i0 _ 1 16 Tryz.underlying199 hi hz0 hz1 hz2 rfl (by omega) (.slice V k cv) k us rfl (hown5.alloc _) ⟨w5.heap.size, 0, none⟩ 1 1 [.iface ut up] rfl rfl (cell_one_new _ _ _) (by intro u hu; simp at hu; subst hu; rfl) (by omega) (by unfold maxLen; omega) (by omega) (by rw [size_alloc]; omega) _ rfl ?_; intro g' cap' w7 hown7 hgr7 hat7 hlt7)
              have hsz5 : wr.heap.size ≤ w5.heap.size := HG5.out.size;refine ⟨⟨k + 1, _, cap', us ++ [.iface ut up], xs ++ [y], q2, by omega, by simp, rfl, hown7, by rw [rows, HROW.out]; simp only [HTY.out], by simp [HXL.out], hq2, (HRU.out.alloc _).grown hgr7 (fun e => hog e.symm), ?_, ?_⟩, by simp [intOf]; omega⟩
              · refine gr_step (gr_alloc (HGR.out.trans HG5.out) _) hgr7 fun b hb => .inl (HO.out.lt b hb).1
              · intro j y' u' hy hu
                have hlen := HO.out.1;rw [Nat.mul_one] at hlen;have hxl := HXL.out
                have hg'5 : ∀ b, b < wr.heap.size → some b ≠ (Value.slice V k cv).ownBlock → some b ≠ (Value.slice (some ⟨g', 0, none⟩) (k + 1) cap').ownBlock := by
                 intro b hb hne e;have e' : b = g' := (by simpa [Value.ownBlock] using e);rcases hat7 with h | h
                 · exact hne (by rw [h, e'])
                 · rw [size_alloc] at h; omega
                rcases Nat.lt_or_ge j k with hj | hj
                · rw [List.getElem?_append_left (by omega)] at hu hy
                  have hn' := HN.out j y' u' hy hu;refine IsNode.grown (S' := fun b => w.heap.size ≤ b ∧ b < wr.heap.size ∧ some b ≠ (Value.slice V k cv).ownBlock) hn' HG5.out ?_ |>.keep y' (S' := _) ?_ ?_ ?_
                  · intro b hb hlt'
                    refine ⟨fun e => ?_, hb.1, hlt', hb.2⟩;have : b = g := (by simpa using e);omega
                  · rintro b ⟨h1, h2, h3⟩ _
                    exact ⟨h1, hg'5 b h2 h3⟩
                  · have := hgr7.size
                    rw [size_alloc] at this;omega
                  · rintro b ⟨h1, h2, h3⟩ h4
                    exact (hgr7.block b (by rw [size_alloc]; omega) h3).trans (Below.heap_alloc _ _ b h4)
                · have hj2 : j = k := by
                   have := (List.getElem?_eq_some_iff.1 hu).1;simp at this;omega
                  subst hj2;rw [List.getElem?_append_right (by omega), hlen, Nat.sub_self] at hu;rw [List.getElem?_append_right (by omega), hxl, Nat.sub_self] at hy;simp at hu hy;subst hu;subst hy;refine HNU.out.keep _ ?_ ?_ ?_
                  · intro b hb h4
                    refine ⟨by have := HGR.out.size; omega, fun e => ?_⟩;have e' : b = g' := (by simpa [Value.ownBlock] using e);rcases hat7 with h | h
                    · have := (HO.out.lt _ h).2; omega
                    · rw [size_alloc] at h; omega
                  · have := hgr7.size
                    rw [size_alloc] at this;omega
                  · intro b hb h4
                    exact (hgr7.block b (by rw [size_alloc]; omega) (fun e => by have := (HO.out.lt b e.symm).2; omega)).trans (Below.heap_alloc _ _ b h4)
            · have hfin : ([] : List Deferred) = [] ∧ Itemed b (r' + 1) p g A n c w (.panicked (flt er qe)) w5 := by
               refine ⟨rfl, HGR.out.trans hg5, .inr ⟨er, qe, ?_, rfl⟩⟩;have h1 : rows (tk b r') (k + 1) q = .bad er qe := (by rw [rows, HROW.out]; simp only [hty]);have h2 := rows_bad _ _ _ _ _ h1 (v - (k + 1));rw [show k + 1 + (v - (k + 1)) = v by omega] at h2;exact HBN.out _ _ h2
              exact hfin
          · obtain rfl : k = v := by omega
            go_wp2_with fail
            go_ret;refine ⟨HGR.out, .inl ⟨.mk 2 0 ByteArray.empty xs, q1, _, HBO.out _ _ HROW.out, rfl, ?_, HRR.out⟩⟩;have hxl := HXL.out;subst hxl;obtain ⟨A2, c2, e2, hr2⟩ := Rd.of_own HO.out;cases e2;rw [node_eq];refine ⟨.inr (.inr ⟨rfl, _, _, rfl, hr2.le, hr2.cap, hr2.nil⟩), fun i hi => ?_⟩;simp only [It.kids] at hi ⊢;obtain ⟨ad, u, rfl, hb, hu, hcl⟩ := hr2.at_ hi;refine ⟨ad, _, u, rfl, (HO.out.lt ad.block rfl).1, hb, hcl, ?_⟩;exact (HN.out i _ u (List.getElem?_eq_getElem hi) hu).keep _ (fun b hb _ => hb.1) (Nat.le_refl _) fun _ _ _ => rfl
   · exact ⟨rfl, hgw2, .inr ⟨er, p + 1, htn he, rfl⟩⟩
 · exact ⟨rfl, hg1, .inr ⟨2, p, tk_end (by have := HLB.out; omega), rfl⟩⟩
 · obtain rfl : r = 0 := by omega
   exact ⟨rfl, hg1, .inr ⟨12, p, tk_deep (by have := HLB.out; omega), rfl⟩⟩
 · obtain ⟨r', rfl⟩ : ∃ r', r = r' + 1 := ⟨r - 1, by omega⟩
   exact ⟨rfl, hg1, .inr ⟨4, p, tk_kind (by have := HLB.out; omega) hk, rfl⟩⟩
theorem item_any (b : List Nat) (g : Nat) (A : Option Addr) (n c : Nat) (hA : 0 < n → ∀ ad, A = some ad → ad.block ≠ g) (hb : ∀ x ∈ b, x < 256) (hn : n ≤ 2000000) : ∀ (r d p : Nat) (w : World), r + d = 16 → Rdr w g A n c p → Rd w A n c (cs b) → p ≤ n →
 Calls Tryz.prog 112 #[.pointer (some ⟨g, 0, none⟩), .int .i64 (d : Int)] w (Itemed b r p g A n c w) := by
 intro r;induction r with
 | zero => exact fun d p w hrd h hr hp => item_step b 0 d p g A n c w hrd h hr hA hb hp hn fun r' _ _ e => by omega
 | succ r ih =>
   intro d p w hrd h hr hp;refine item_step b (r + 1) d p g A n c w hrd h hr hA hb hp hn fun r' p w e h hr hp => ?_;obtain rfl : r = r' := (by omega);have := ih (d + 1) p w (by omega) h hr hp;rwa [show ((d + 1 : Nat) : Int) = (d : Int) + 1 by omega] at this
end Go.Proofs.YtkejjdoaljoooaaGreatDoor.Cp
/- codec.harvest: the item of a tree, with lists of its own. -/
namespace Go.Proofs.YtkejjdoaljoooaaGreatDoor.Cp
open Lib (hid)
open Go.RowKit Mem Cod
def Harv (x : It) (w : World) (e : Ending) (w' : World) : Prop :=
 ∃ A c, e = .returned (.agg #[.int .i64 x.kind, .int .u64 (x.num : Int), .string x.str, .slice A x.kids.length c]) ∧ Whole w' w.heap.size x A c ∧ Below w.heap.size w w'
def HarvRel (w : World) (l : List It) (parts i : Value) (wr : World) : Prop :=
 ∃ (k : Nat) (V : Option Addr) (cv : Nat) (hs : List Hung), k ≤ l.length ∧ i = .int .i64 k ∧ parts = .slice V k cv ∧ wr.ownsRow w.heap.size 95 4 (.slice V k cv) k (cells4 hs) ∧ hs.map (·.x) = l.take k ∧ Below w.heap.size w wr ∧
  ∀ h ∈ hs, Lies wr (fun b => w.heap.size ≤ b ∧ some b ≠ (Value.slice V k cv).ownBlock) h.x h.A h.c
theorem blk4_soft {w : World} {g : Nat} {t : TypeId} {a b c d : Value} (h : Blk w g t #[a, b, c, d]) : w.frozen? ⟨g, 0, none⟩ = false ∧ w.frozen? ⟨g, 1, none⟩ = false ∧ w.frozen? ⟨g, 2, none⟩ = false ∧ w.frozen? ⟨g, 3, none⟩ = false :=
 ⟨h.soft 0, h.soft 1, h.soft 2, h.soft 3⟩
theorem item_end {x : It} {w w1 : World} {A : Option Addr} {c : Nat} (hb : Below w.heap.size w w1) (hl : Whole w1 (w.heap.size + 1) x A c) (hk : Blk w1 w.heap.size 95 #[.int .i64 0, .int .u64 0, .string ⟨#[]⟩, .slice none 0 0]) :
 Harv x w (.returned (.agg #[.int .i64 x.kind, .int .u64 (x.num : Int), .string x.str, .slice A x.kids.length c])) ((((w1.setCell ⟨w.heap.size, 0, none⟩ (.int .i64 x.kind)).setCell ⟨w.heap.size, 1, none⟩ (.int .u64 (x.num : Int))).setCell ⟨w.heap.size, 2, none⟩ (.string x.str)).setCell ⟨w.heap.size, 3, none⟩ (.slice A x.kids.length c)) := by
 obtain ⟨_, hg⟩ := blk4_set hk (.int .i64 x.kind) (.int .u64 (x.num : Int)) (.string x.str) (.slice A x.kids.length c);refine ⟨A, c, rfl, (hl.grown hg fun b hb => by simp; omega).more fun b hb _ => by omega, hb.trans (gr_below hg hb.size fun b hb => by cases hb; exact Nat.le_refl _)⟩
theorem own_row4 {w : World} {base : Nat} {V : Option Addr} {n c : Nat} {hs : List Hung} {S : Nat → Prop} (h : w.ownsRow base 95 4 (.slice V n c) n (cells4 hs)) (hS : ∀ b, base ≤ b → S b) (hL : ∀ h ∈ hs, Lies w S h.x h.A h.c) :
 Row w S V n c (hs.map (·.x)) := by
 have hl := h.1;rw [length_cells4] at hl;rcases h.2 with ⟨e, h0⟩ | ⟨g, cap, cur, e, hb, hg, hnc, hm, hs', ht⟩
 · cases e
   exact Row.of_hung (by omega) ⟨Nat.le_refl _, by omega, fun _ => rfl⟩ hL fun h => by omega
 · cases e
   unfold maxLen at hm;exact Row.of_hung (by omega) ⟨hnc, by omega, fun e => by cases e⟩ hL fun _ => ⟨⟨g, 0, none⟩, rfl, hS _ hb, (Array.getElem?_eq_some_iff.1 hg).1, h.cells (g := g) rfl⟩
set_option maxRecDepth 20000 in
theorem harvest_num (n : Nat) (w : World) (hn : n ≤ 18446744073709551615) : Calls Tryz.prog 113 #[.iface 196 (.int .u64 (n : Int))] w (Harv (.mk 0 n ByteArray.empty []) w) := by
 have a1 := as_num_num;go_enter Tryz.func113, Tryz.ntmps113
 go_wp2_with fail
 refine (num_any n _).mono ?_;rintro e w1 ⟨rfl, hb⟩;have hk := (Blk.new w 95 #[.int .i64 0, .int .u64 0, .string ⟨#[]⟩, .slice none 0 0]).bel hb;obtain ⟨c0, c1, c2, c3⟩ := blk4 hk;obtain ⟨z0, z1, z2, z3⟩ := blk4_soft hk;go_wp2_with fail
 refine bodyPost_ret (v := .agg #[.int .i64 0, .int .u64 (n : Int), .string ByteArray.empty, .slice none 0 0]) (by simp [results, Tryz.results113, go_sem, c0, c1, c2, c3]) rfl ?_;exact item_end (x := .mk 0 n ByteArray.empty []) ((bel_alloc (Below.refl _ _) _).trans (hb.mono (by rw [size_alloc]; omega))) (Whole.bare (Row.lies (l := []) (m := 0) ⟨rfl, ⟨by omega, by omega, fun _ => rfl⟩, fun i y h => by simp at h⟩ (by omega) hn (by show (0 : Nat) ≤ _; omega)) rfl) hk
set_option maxRecDepth 20000 in
theorem harvest_text (s : ByteArray) (w : World) (hn : s.size ≤ 140737488355328) : Calls Tryz.prog 113 #[.iface 197 (.string s)] w (Harv (.mk 1 0 s []) w) := by
 have a1 := as_text_num;have a2 := as_text_text;go_enter Tryz.func113, Tryz.ntmps113
 go_wp2_with fail
 refine (text_any s _).mono ?_;rintro e w1 ⟨rfl, hb⟩;have hk := (Blk.new w 95 #[.int .i64 0, .int .u64 0, .string ⟨#[]⟩, .slice none 0 0]).bel hb;obtain ⟨c0, c1, c2, c3⟩ := blk4 hk;obtain ⟨z0, z1, z2, z3⟩ := blk4_soft hk;go_wp2_with fail
 refine bodyPost_ret (v := .agg #[.int .i64 1, .int .u64 0, .string s, .slice none 0 0]) (by simp [results, Tryz.results113, go_sem, c0, c1, c2, c3]) rfl ?_;exact item_end (x := .mk 1 0 s []) ((bel_alloc (Below.refl _ _) _).trans (hb.mono (by rw [size_alloc]; omega))) (Whole.bare (Row.lies (l := []) (m := 0) ⟨rfl, ⟨by omega, by omega, fun _ => rfl⟩, fun i y h => by simp at h⟩ (by omega) (by omega) hn) rfl) hk
set_option maxRecDepth 20000 in
set_option maxHeartbeats 4000000 in
theorem harvest_list (l : List It) (A : Option Addr) (cl : Nat) (S : Nat → Prop) (w : World) (hx : IsNode w S (.mk 2 0 ByteArray.empty l) (.iface 199 (.slice A l.length cl))) (hS : ∀ b, S b → b < w.heap.size) (hlen : l.length ≤ 2000000)
 (ih : ∀ (y : It) (u : Value) (w' : World), y ∈ l → IsNode w' S y u → w.heap.size ≤ w'.heap.size → Calls Tryz.prog 113 #[u] w' (Harv y w')) :
 Calls Tryz.prog 113 #[.iface 199 (.slice A l.length cl)] w (Harv (.mk 2 0 ByteArray.empty l) w) := by
 obtain ⟨i0, hi, hz0, hz1, hz2⟩ := info_parts info25;have HX := hid hx;have HS := hid hS;have IH := hid ih;clear hx hS ih;have a1 := as_list_num;have a2 := as_list_text;have a3 := as_list;go_enter Tryz.func113, Tryz.ntmps113
 go_wp2_with fail
 have hk0 := Blk.new w 95 #[.int .i64 0, .int .u64 0, .string ⟨#[]⟩, .slice none 0 0];have hw0 : Below w.heap.size w (w.alloc (.cells #[.int .i64 0, .int .u64 0, .string ⟨#[]⟩, .slice none 0 0] 95)) := bel_alloc (Below.refl _ _) _;have hsz0 : (w.alloc (.cells #[.int .i64 0, .int .u64 0, .string ⟨#[]⟩, .slice none 0 0] 95)).heap.size = w.heap.size + 1 := size_alloc _ _
 have hst : HarvRel (w.alloc (.cells #[.int .i64 0, .int .u64 0, .string ⟨#[]⟩, .slice none 0 0] 95)) l (.slice none 0 0) (.int .i64 0) (w.alloc (.cells #[.int .i64 0, .int .u64 0, .string ⟨#[]⟩, .slice none 0 0] 95)) :=
  ⟨0, none, 0, [], Nat.zero_le _, rfl, rfl, ⟨rfl, .inl ⟨rfl, rfl⟩⟩, by simp, Below.refl _ _, fun h hh => by simp at hh⟩
 generalize (w.alloc (.cells #[.int .i64 0, .int .u64 0, .string ⟨#[]⟩, .slice none 0 0] 95)) = w0 at hk0 hw0 hsz0 hst ⊢;have HK0 := hid hk0;have HW0 := hid hw0;have HSZ0 := hid hsz0;clear hk0 hw0 hsz0;go_loopw [7, 29] (HarvRel w0 l) (fun _ i _ => l.length - (intOf i).toNat)
 case atStart => exact hst
 case round =>
  clear hst;obtain ⟨k, V, cv, hs, hk, rfl, rfl, hown, hmap, hbw, hlies⟩ := hrel;have HO := hid hown;have HM := hid hmap;have HB := hid hbw;have HLS := hid hlies;clear hown hmap hbw hlies;have hsr : w.heap.size + 1 ≤ wr.heap.size := by have := HB.out.size; have := HSZ0.out; omega
  by_cases hlt : k < l.length
  · obtain ⟨ad, cc, u, e, hSb, hblk, hcell, hnu⟩ := ((node_eq _ _ _ _).1 HX.out).2 k hlt
    simp only [It.kids] at e hnu;injection e with _ e;injection e with e1 _ e2;subst e1;subst e2;have hbw2 : Below w.heap.size w wr := HW0.out.trans (HB.out.mono (by have := HSZ0.out; omega));have hc : wr.cell? (ad.add k) = some u := (hbw2.cell (by rw [add_block]; exact HS.out _ hSb)).trans hcell;have HC := hid hcell;have HNU := hid (hnu.below (S' := S) hbw2 fun b hb _ => ⟨HS.out b hb, hb⟩);clear hcell hnu hbw2;go_wp2_with fail
    refine (IH.out l[k] u wr (List.getElem_mem hlt) HNU.out (by omega)).mono ?_;rintro e w4 ⟨A4, c4, rfl, hl4, hb4⟩;have HL4 := hid hl4.lies;have HB4 := hid hb4;have hs4 : wr.heap.size ≤ w4.heap.size := hb4.size;clear hl4 hb4;generalize hy : l[k] = y at HL4;have HY := hid hy;clear hy HNU;have hown4 : w4.ownsRow w0.heap.size 95 4 (.slice V k cv) k (cells4 hs) := HO.out.kept (below_gr HB4.out none) (by cases (Value.slice V k cv).ownBlock <;> simp);have HNB := hid (World.news_of_block (Blk.new w4 95 #[.int .i64 y.kind, .int .u64 (y.num : Int), .string y.str, .slice A4 y.kids.length c4]));go_wp2_with (at_builtin; refine wpList_append_lies _ rfl (.tmp 33) (.tmp 36) 93 rfl w0.heap.size 95 i0 _ 4 56 Tryz.underlying93 hi hz0 hz1 hz2 rfl (by omega) (.slice V k cv) k (cells4 hs) rfl (hown4.alloc _) ⟨w4.heap.size, 0, none⟩ 1 1 [.int .i64 y.kind, .int .u64 (y.num : Int), .string y.str, .slice A4 y.kids.length c4] rfl rfl HNB.out (by intro u hu; simp at hu; rcases hu with rfl | rfl | rfl | rfl <;> rfl) (by omega) (by unfold maxLen; omega) (by omega) (by rw [size_alloc]; have := HSZ0.out; omega) (w4.heap.size + 1) (by rw [size_alloc]) ?_; intro g' cap' w7 hown7 hgr7 hat7 hlt7)
    have hs7 : w4.heap.size + 1 ≤ w7.heap.size := by have := hgr7.size; rw [size_alloc] at this; exact this
    have hg'5 : ∀ b, b < w4.heap.size → some b ≠ (Value.slice V k cv).ownBlock → some b ≠ (Value.slice (some ⟨g', 0, none⟩) (k + 1) cap').ownBlock := by
     intro b hb hne e;have e' : b = g' := (by simpa [Value.ownBlock] using e);rcases hat7 with h | h
     · exact hne (by rw [h, e'])
     · omega
    have hcell7 : ∀ b, b < w4.heap.size → some b ≠ (Value.slice V k cv).ownBlock → w7.heap[b]? = w4.heap[b]? := fun b hb hne =>
     (hgr7.block b (by rw [size_alloc]; omega) hne).trans (Below.heap_alloc _ _ b hb)
    refine ⟨⟨k + 1, _, cap', hs ++ [⟨y, A4, c4⟩], by omega, by simp, rfl, by rw [show cells4 (hs ++ [⟨y, A4, c4⟩]) = cells4 hs ++ [.int .i64 y.kind, .int .u64 (y.num : Int), .string y.str, .slice A4 y.kids.length c4] by simp [cells4, Hung.cells]]; exact hown7, ?_, ?_, ?_⟩, by simp [intOf]; omega⟩
    · rw [List.map_append, HM.out, List.map_cons, List.map_nil, ← HY.out, List.take_add_one, List.getElem?_eq_getElem hlt]
      rfl
    · refine (HB.out.trans (HB4.out.mono (by have := HSZ0.out; omega))).trans (((bel_alloc (Below.refl _ _) _).mono (by have := HSZ0.out; omega)).trans (gr_below hgr7 (by rw [size_alloc]; have := HSZ0.out; omega) fun b hb => (HO.out.lt b hb).1))
    · intro h hh
      rcases List.mem_append.1 hh with hh | hh
      · refine (HLS.out h hh).keep h.x (fun b hb hlt' => ⟨hb.1, hg'5 b (by omega) hb.2⟩) (by omega) fun p hp hlt' => ?_
        exact World.cell?_of_block ((hcell7 _ (by omega) hp.2).trans (HB4.out.block _ hlt'))
      · have : h = ⟨y, A4, c4⟩ := by simpa using hh
        subst this;refine HL4.out.keep _ (fun b hb hlt' => ⟨by have := HSZ0.out; omega, hg'5 b hlt' fun e => ?_⟩) (by omega) fun p hp hlt' => World.cell?_of_block (hcell7 _ hlt' fun e => ?_)
        · have := (HO.out.lt b e.symm).2; omega
        · have := (HO.out.lt _ e.symm).2; omega
  · obtain rfl : k = l.length := by omega
    have hk1 := HK0.out.below HB.out (by have := HSZ0.out; omega);obtain ⟨c0, c1, c2, c3⟩ := blk4 hk1;obtain ⟨z0, z1, z2, z3⟩ := blk4_soft hk1;go_wp2_with fail
    refine bodyPost_ret (v := .agg #[.int .i64 2, .int .u64 0, .string ByteArray.empty, .slice V l.length cv]) (by simp [results, Tryz.results113, go_sem, c0, c1, c2, c3]; rfl) rfl ?_;have hm := HM.out;rw [List.take_length] at hm;have hr := own_row4 (S := fun b => w.heap.size + 1 ≤ b) HO.out (fun b hb => by have := HSZ0.out; omega) fun h hh => (HLS.out h hh).more fun b hb _ => (by have := HSZ0.out; omega);rw [hm] at hr;exact item_end (x := .mk 2 0 ByteArray.empty l) (HW0.out.trans (HB.out.mono (by have := HSZ0.out; omega))) ⟨hr.lies (by omega) (by omega) (by show (0 : Nat) ≤ _; omega), hs, owns_low HO.out fun b hb _ => by have := HSZ0.out; omega, hm, fun h hh => (HLS.out h hh).more fun b hb _ => ⟨by have := HSZ0.out; omega, hb.2⟩⟩ hk1
theorem harvest_any (x : It) : ∀ (v : Value) (S : Nat → Prop) (w : World), IsNode w S x v → (∀ b, S b → b < w.heap.size) → wt x ≤ 2000000 → Calls Tryz.prog 113 #[v] w (Harv x w) := by
 induction x using It.ind with
 | h x ih =>
 intro v S w hx hS hn;rcases ((node_eq _ _ _ _).1 hx).1 with ⟨e, h1, rfl⟩ | ⟨e, h1, rfl⟩ | ⟨e, A, cl, rfl, h1, h2, h3⟩
 · have := harvest_num x.num w h1
   rwa [← e] at this
 · have := harvest_text x.str w h1
   rwa [← e] at this
 · have hx' := hx
   rw [e] at hx'
   have hlen : x.kids.length ≤ 2000000 := by
    have := wt_eq x;have := length_wts x.kids;omega
   have := harvest_list x.kids A cl S w hx' hS hlen fun y u w' hy hnu hs => ih y hy u S w' hnu (fun b hb => by have := hS b hb; omega) (by
    have := wt_mem hy;have := wt_eq x;omega)
   rwa [← e] at this
end Go.Proofs.YtkejjdoaljoooaaGreatDoor.Cp
/- codec.Get: the item that bytes are, or what is wrong with them, and where; a fault goes up by a panic, and is caught. -/
namespace Go.Proofs.YtkejjdoaljoooaaGreatDoor.Cp
open Lib (hid)
open Go.RowKit Mem Cod
def GetDone (b : List Nat) (bx : Nat) (w : World) (e : Ending) (w' : World) : Prop :=
 (∃ x, get b = .ok x 0 ∧ e = .returned (.tuple #[]) ∧ w.grownBy w' (some bx) ∧ ∃ A c, Blk w' bx 95 #[.int .i64 x.kind, .int .u64 (x.num : Int), .string x.str, .slice A x.kids.length c] ∧ Whole w' w.heap.size x A c) ∨
 (∃ er q, get b = .bad er q ∧ e = .panicked (flt er q) ∧ Below w.heap.size w w')
set_option maxRecDepth 20000 in
set_option maxHeartbeats 2000000 in
theorem get1_any (b : List Nat) (A : Option Addr) (n c bb bx : Nat) (w : World) (hbb : Blk w bb 71 #[.slice A n c]) (hbx : Blk w bx 95 #[.int .i64 0, .int .u64 0, .string ⟨#[]⟩, .slice none 0 0])
 (hr : Rd w A n c (cs b)) (hb : ∀ x ∈ b, x < 256) (hn : n ≤ 1000000) :
 Calls Tryz.prog 111 #[.pointer (some ⟨bb, 0, none⟩), .pointer (some ⟨bx, 0, none⟩)] w (GetDone b bx w) := by
 have hlb := hr.len;rw [length_cs] at hlb;have c0 : w.cell? ⟨bb, 0, none⟩ = some (.slice A n c) := hbb.cell 0;have hltx := hbx.lt;have hltb := hbb.lt;have hgt : decide ((1048576 : Int) < n) = false := by simp; omega
 have hA : 0 < n → ∀ ad, A = some ad → ad.block ≠ w.heap.size := fun h0 ad e => by
  obtain ⟨ad', e', hb', _⟩ := hr.spot h0;cases e.symm.trans e';omega
 have HBB := hid hbb;have HBX := hid hbx;have HR := hid hr;have HB := hid hb;have HA := hid hA;have HLB := hid hlb;clear hbb hbx hr hb hA hlb;go_enter Tryz.func111, Tryz.ntmps111
 go_wp2_with fail
 have hrn : Rdr (w.alloc (.cells #[.slice A n c, .int .i64 0] 185)) w.heap.size A n c 0 := Blk.new w _ _;refine (item_any b w.heap.size A n c HA.out HB.out (by omega) 16 0 0 _ rfl hrn (HR.out.alloc _) (Nat.zero_le _)).mono ?_;rintro e w2 ⟨hg2, ⟨x, q, v, htk, rfl, hnv, hrd⟩ | ⟨er, q, htk, rfl⟩⟩
 · have hgood := tk_good HB.out (by have := HLB.out; omega) 16 0 x q (by omega) htk
   have hq : q ≤ n := by have := hgood.2.2.2.1; have := HLB.out; omega
   have hwt : wt x ≤ 2000000 := by
    have h1 := wt_le_form x _ hgood.1;rw [hgood.2.2.2.2, seg, List.length_take] at h1;omega
   have c1 : w2.cell? ⟨w.heap.size, 1, none⟩ = some (.int .i64 (q : Int)) := Blk.cell hrd 1;have hs2 : w.heap.size + 1 ≤ w2.heap.size := (by have := hg2.size; rw [size_alloc] at this; exact this);have hb2 : Below w.heap.size w w2 := (bel_alloc (Below.refl _ _) _).trans (gr_below hg2 (by rw [size_alloc]; omega) fun b hb => by cases hb; exact Nat.le_refl _);have c2 : w2.cell? ⟨bb, 0, none⟩ = some (.slice A n c) := (hb2.cell hltb).trans c0;have HT := hid htk;have HB2 := hid hb2;have HNV := hid (hnv.keep (S' := fun b => b < w2.heap.size) x (fun b _ h => h) (Nat.le_refl _) fun _ _ _ => rfl);clear hgood htk hb2 hnv hg2;by_cases hlt : q < n
   · have hltb : decide ((q : Int) < n) = true := by simp; omega
     go_wp2_with fail
     refine (fail_3p q _).mono ?_;rintro e w3 ⟨rfl, rfl⟩;refine ⟨rfl, .inr ⟨3, q, ?_, rfl, HB2.out⟩⟩;rw [Cod.get, if_neg (by have := HLB.out; omega), HT.out];simp only;rw [if_pos (by have := HLB.out; omega)]
   · have hltb : decide ((q : Int) < n) = false := by simp; omega
     go_wp2_with fail
     refine (harvest_any x v _ w2 HNV.out (fun b h => h) hwt).mono ?_;rintro e w3 ⟨A3, c3, rfl, hl3, hb3⟩;have hbx3 := HBX.out.below (HB2.out.trans (hb3.mono (by omega))) hltx;obtain ⟨d0, d1, d2, d3⟩ := blk4 hbx3;obtain ⟨z0, z1, z2, z3⟩ := blk4_soft hbx3;have HL3 := hid hl3;have HB3 := hid hb3;clear hl3 hb3;go_wp2_with fail
     go_end0
     obtain ⟨hk, hg⟩ := blk4_set hbx3 (.int .i64 x.kind) (.int .u64 (x.num : Int)) (.string x.str) (.slice A3 x.kids.length c3);refine .inl ⟨x, ?_, rfl, ?_, A3, c3, hk, ?_⟩
     · rw [Cod.get, if_neg (by have := HLB.out; omega), HT.out]
       simp only;rw [if_neg (by have := HLB.out; omega)]
     · exact (below_gr (HB2.out.trans (HB3.out.mono (by omega))) _).trans hg
     · exact (HL3.out.grown hg fun b hb => by simp; omega).more fun b hb _ => by omega
 · refine ⟨rfl, .inr ⟨er, q, ?_, rfl, ?_⟩⟩
   · rw [Cod.get, if_neg (by have := HLB.out; omega), htk]
   · exact (bel_alloc (Below.refl _ _) _).trans (gr_below hg2 (by rw [size_alloc]; omega) fun b hb => by cases hb; exact Nat.le_refl _)
def getX (b : List Nat) : It := match Cod.get b with | .ok x _ => x | .bad _ _ => .mk 0 0 ByteArray.empty []
def getE (b : List Nat) : Nat := match Cod.get b with | .ok _ _ => 0 | .bad e _ => e
def getP (b : List Nat) : Nat := match Cod.get b with | .ok _ _ => 0 | .bad _ p => p
theorem get_parts_ok {b : List Nat} {x : It} {q : Nat} (h : Cod.get b = .ok x q) : getX b = x ∧ getE b = 0 ∧ getP b = 0 := by simp [getX, getE, getP, h]
theorem get_parts_bad {b : List Nat} {e p : Nat} (h : Cod.get b = .bad e p) : getX b = .mk 0 0 ByteArray.empty [] ∧ getE b = e ∧ getP b = p := by simp [getX, getE, getP, h]
def GetIs (b : List Nat) (w : World) (e : Ending) (w' : World) : Prop :=
 ∃ A c, e = .returned (.tuple #[.agg #[.int .i64 (getX b).kind, .int .u64 ((getX b).num : Int), .string (getX b).str, .slice A (getX b).kids.length c], .int .i64 (getE b : Int), .int .i64 (getP b : Int)]) ∧ Lies w' (fun b => w.heap.size ≤ b) (getX b) A c ∧ Below w.heap.size w w'
def GetsW (b : List Nat) (w : World) (e : Ending) (w' : World) : Prop :=
 ∃ A c, e = .returned (.tuple #[.agg #[.int .i64 (getX b).kind, .int .u64 ((getX b).num : Int), .string (getX b).str, .slice A (getX b).kids.length c], .int .i64 (getE b : Int), .int .i64 (getP b : Int)]) ∧ Whole w' w.heap.size (getX b) A c ∧ Below w.heap.size w w'
theorem GetsW.is {b : List Nat} {w : World} {e : Ending} {w' : World} (h : GetsW b w e w') : GetIs b w e w' := by
 obtain ⟨A, c, he, hl, hb⟩ := h;exact ⟨A, c, he, hl.lies, hb⟩
def GetOk (b : List Nat) (w : World) (w' : World) : Prop :=
 ∃ x, Cod.get b = .ok x 0 ∧ Below w.heap.size w w' ∧ w.heap.size + 2 < w'.heap.size ∧ ∃ A c, Blk w' (w.heap.size + 1) 95 #[.int .i64 x.kind, .int .u64 (x.num : Int), .string x.str, .slice A x.kids.length c] ∧ Whole w' (w.heap.size + 3) x A c
def GetNo (b : List Nat) (w : World) (a p : Nat) (w' : World) : Prop :=
 Cod.get b = .bad a p ∧ Below w.heap.size w w' ∧ w.heap.size + 2 < w'.heap.size ∧ Blk w' (w.heap.size + 1) 95 #[.int .i64 0, .int .u64 0, .string ⟨#[]⟩, .slice none 0 0]
theorem getdone_does {b : List Nat} {w : World} {e : Ending} {w' : World} {o1 : Obj} (h : GetDone b (w.heap.size + 1) (((w.alloc o1).alloc (.cells #[.int .i64 0, .int .u64 0, .string ⟨#[]⟩, .slice none 0 0] 95)).alloc (.cells #[.int .i64 0, .int .i64 0] 137)) e w') :
 Does ((w.alloc o1).alloc (.cells #[.int .i64 0, .int .u64 0, .string ⟨#[]⟩, .slice none 0 0] 95)) (GetOk b w) (GetNo b w) e w' := by
 have hf : Blk (((w.alloc o1).alloc (.cells #[.int .i64 0, .int .u64 0, .string ⟨#[]⟩, .slice none 0 0] 95)).alloc (.cells #[.int .i64 0, .int .i64 0] 137)) (w.heap.size + 2) 137 #[.int .i64 0, .int .i64 0] := by
  have := Blk.new ((w.alloc o1).alloc (.cells #[.int .i64 0, .int .u64 0, .string ⟨#[]⟩, .slice none 0 0] 95)) 137 #[.int .i64 0, .int .i64 0];simpa only [size_alloc] using this
 have hb0 : Blk (((w.alloc o1).alloc (.cells #[.int .i64 0, .int .u64 0, .string ⟨#[]⟩, .slice none 0 0] 95)).alloc (.cells #[.int .i64 0, .int .i64 0] 137)) (w.heap.size + 1) 95 #[.int .i64 0, .int .u64 0, .string ⟨#[]⟩, .slice none 0 0] := by
  have := (Blk.new (w.alloc o1) 95 #[.int .i64 0, .int .u64 0, .string ⟨#[]⟩, .slice none 0 0]).alloc (.cells #[.int .i64 0, .int .i64 0] 137);simpa only [size_alloc] using this
 have hw0 : Below w.heap.size w (((w.alloc o1).alloc (.cells #[.int .i64 0, .int .u64 0, .string ⟨#[]⟩, .slice none 0 0] 95)).alloc (.cells #[.int .i64 0, .int .i64 0] 137)) := bel_alloc (bel_alloc (bel_alloc (Below.refl _ _) _) _) _;have hsz0 : (((w.alloc o1).alloc (.cells #[.int .i64 0, .int .u64 0, .string ⟨#[]⟩, .slice none 0 0] 95)).alloc (.cells #[.int .i64 0, .int .i64 0] 137)).heap.size = w.heap.size + 3 := by simp only [size_alloc]
 unfold Does;simp only [size_alloc];generalize (((w.alloc o1).alloc (.cells #[.int .i64 0, .int .u64 0, .string ⟨#[]⟩, .slice none 0 0] 95)).alloc (.cells #[.int .i64 0, .int .i64 0] 137)) = W at *;rcases h with ⟨x, h0, rfl, hg, A, c, hb, hl⟩ | ⟨er, q, h0, rfl, hb⟩
 · have := hg.size
   exact ⟨by omega, hf.grown hg (by simp), .inl ⟨rfl, x, h0, hw0.trans (gr_below hg (by omega) fun b hb => by cases hb; omega), by omega, A, c, hb, hl.more fun b hb _ => by omega⟩⟩
 · have := hb.size
   exact ⟨by omega, hf.bel hb, .inr ⟨_, _, rfl, h0, hw0.trans (hb.mono (by omega)), by omega, hb0.bel hb⟩⟩
theorem call_get1 (cap : Array Value) (W : World) : (callFunc 111 cap).run Tryz.prog W = .ok (.enter 111 cap) W := by kernel_rfl
set_option maxRecDepth 20000 in
set_option maxHeartbeats 2000000 in
theorem get_whole (b : List Nat) (A : Option Addr) (n c : Nat) (w : World) (hr : Rd w A n c (cs b)) (hb : ∀ x ∈ b, x < 256) (hn : n ≤ 1000000) :
 Calls Tryz.prog 61 #[.slice A n c] w (GetsW b w) := by
 have hmf : ∀ (fn : Fn) (first cap : Array Value) (w : World), (Instr.makeFunc fn first cap).run Tryz.prog w = .ok (.func fn first cap) w := fun _ _ _ _ => rfl;have HR := hid hr;have HB := hid hb;clear hr hb;go_enter Tryz.func61, Tryz.ntmps61
 go_wp2_with fail
 refine (caught_any 111 _ _ (GetOk b w) (GetNo b w) (call_get1 _) ?_).mono ?_
 · refine (get1_any b A n c w.heap.size (w.heap.size + 1) _ (((Blk.new w _ _).alloc _).alloc _) ((by have := Blk.new (w.alloc (.cells #[.slice A n c] 71)) 95 #[.int .i64 0, .int .u64 0, .string ⟨#[]⟩, .slice none 0 0]; rw [size_alloc] at this; exact this.alloc _))
    (((HR.out.alloc _).alloc _).alloc _) HB.out hn).mono ?_
   exact fun e w' h => getdone_does h
 simp only [Caught, size_alloc];rintro e w2 ⟨a, p, w1, rfl, hg, h⟩;rcases h with ⟨rfl, rfl, x, h0, hbl, hs, A1, c1, hb1, hl1⟩ | ⟨h0, hbl, hs, hb1⟩
 · have hb2 := hb1.grown hg (by simp)
   have hl2 := hl1.grown hg fun b hb => (by simp; omega);have hbw : Below w.heap.size w w2 := hbl.trans (gr_below hg (by omega) fun b hb => by cases hb; omega);have hs2 : w.heap.size + 2 < w2.heap.size := (by have := hg.size; omega);obtain ⟨d0, d1, d2, d3⟩ := blk4 (hb2.alloc (.cells #[.int .i64 0, .int .i64 0] 137));obtain ⟨z0, z1, z2, z3⟩ := blk4_soft (hb2.alloc (.cells #[.int .i64 0, .int .i64 0] 137));have HB2 := hid hb2;have H0 := hid h0;have HL2 := hid hl2;have HBW := hid hbw;clear hb1 hl1 hbl hs hg h0 hl2 hbw hb2;go_wp2_with fail
   go_region;go_wp2_with fail
   have hp := get_parts_ok H0.out;obtain ⟨hk, hgr⟩ := blk4_set (HB2.out.alloc (.cells #[.int .i64 0, .int .i64 0] 137)) (.int .i64 x.kind) (.int .u64 (x.num : Int)) (.string x.str) (.slice A1 x.kids.length c1);have hl3 := (HL2.out.alloc (.cells #[.int .i64 0, .int .i64 0] 137)).grown hgr fun b hb => (by simp; omega);have hb3 : Below w.heap.size w _ := (bel_alloc HBW.out (.cells #[.int .i64 0, .int .i64 0] 137)).trans (gr_below hgr (by rw [size_alloc]; omega) fun b hb => by cases hb; omega);generalize (((((w2.alloc (.cells #[.int .i64 0, .int .i64 0] 137)).setCell ⟨w.heap.size + 1, 0, none⟩ (.int .i64 x.kind)).setCell ⟨w.heap.size + 1, 1, none⟩ (.int .u64 (x.num : Int))).setCell ⟨w.heap.size + 1, 2, none⟩ (.string x.str)).setCell ⟨w.heap.size + 1, 3, none⟩ (.slice A1 x.kids.length c1)) = w3 at hk hl3 hb3 ⊢;obtain ⟨e0, e1, e2, e3⟩ := blk4 (show Blk w3.drew (w.heap.size + 1) 95 #[.int .i64 x.kind, .int .u64 (x.num : Int), .string x.str, .slice A1 x.kids.length c1] from hk);refine bodyPost_ret (v := .tuple #[.agg #[.int .i64 x.kind, .int .u64 (x.num : Int), .string x.str, .slice A1 x.kids.length c1], .int .i64 0, .int .i64 0]) (by simp [results, Tryz.results61, go_sem, e0, e1, e2, e3]) rfl ?_;refine ⟨A1, c1, by rw [hp.1, hp.2.1, hp.2.2]; rfl, ?_, hb3.drew⟩;rw [hp.1];exact (hl3.more fun b hb _ => by omega).drew
 · have hb2 := hb1.grown hg (by simp)
   have hbw : Below w.heap.size w w2 := hbl.trans (gr_below hg (by omega) fun b hb => by cases hb; omega);have hs2 : w.heap.size + 2 < w2.heap.size := (by have := hg.size; omega);obtain ⟨d0, d1, d2, d3⟩ := blk4 (hb2.alloc (.cells #[.int .i64 (a : Int), .int .i64 (p : Int)] 137));obtain ⟨z0, z1, z2, z3⟩ := blk4_soft (hb2.alloc (.cells #[.int .i64 (a : Int), .int .i64 (p : Int)] 137));have HB2 := hid hb2;have H0 := hid h0;have HBW := hid hbw;clear hb1 hbl hs hg h0 hbw hb2;go_wp2_with fail
   go_region;go_wp2_with fail
   have hp := get_parts_bad H0.out;obtain ⟨hk, hgr⟩ := blk4_set (HB2.out.alloc (.cells #[.int .i64 (a : Int), .int .i64 (p : Int)] 137)) (.int .i64 0) (.int .u64 0) (.string ⟨#[]⟩) (.slice none 0 0);have hb3 : Below w.heap.size w _ := (bel_alloc HBW.out (.cells #[.int .i64 (a : Int), .int .i64 (p : Int)] 137)).trans (gr_below hgr (by rw [size_alloc]; omega) fun b hb => by cases hb; omega);generalize (((((w2.alloc (.cells #[.int .i64 (a : Int), .int .i64 (p : Int)] 137)).setCell ⟨w.heap.size + 1, 0, none⟩ (.int .i64 0)).setCell ⟨w.heap.size + 1, 1, none⟩ (.int .u64 0)).setCell ⟨w.heap.size + 1, 2, none⟩ (.string ⟨#[]⟩)).setCell ⟨w.heap.size + 1, 3, none⟩ (.slice none 0 0)) = w3 at hk hb3 ⊢;obtain ⟨e0, e1, e2, e3⟩ := blk4 (show Blk w3.drew (w.heap.size + 1) 95 #[.int .i64 0, .int .u64 0, .string ⟨#[]⟩, .slice none 0 0] from hk);refine bodyPost_ret (v := .tuple #[.agg #[.int .i64 0, .int .u64 0, .string ⟨#[]⟩, .slice none 0 0], .int .i64 (a : Int), .int .i64 (p : Int)]) (by simp [results, Tryz.results61, go_sem, e0, e1, e2, e3]) rfl ?_;refine ⟨none, 0, by rw [hp.1, hp.2.1, hp.2.2]; rfl, ?_, hb3.drew⟩;rw [hp.1];exact Whole.bare (Row.lies (l := []) (m := 0) ⟨rfl, ⟨by omega, by omega, fun _ => rfl⟩, fun i y h => by simp at h⟩ (by omega) (by omega) (by show (0 : Nat) ≤ _; omega)) rfl
theorem get_item (b : List Nat) (A : Option Addr) (n c : Nat) (w : World) (hr : Rd w A n c (cs b)) (hb : ∀ x ∈ b, x < 256) (hn : n ≤ 1000000) :
 Calls Tryz.prog 61 #[.slice A n c] w (GetIs b w) := (get_whole b A n c w hr hb hn).mono fun _ _ h => h.is
theorem rows_bad_ne {f : Nat → Res It} (hf : ∀ p e q, f p = .bad e q → e ≠ 0) : ∀ k p e q, rows f k p = .bad e q → e ≠ 0 := by
 intro k;induction k with
 | zero => intro p e q h; rw [rows] at h; cases h
 | succ k ih =>
   intro p e q h;rw [rows] at h;cases hr : rows f k p with
   | bad e' q' => rw [hr] at h; cases h; exact ih _ _ _ hr
   | ok xs q' =>
     rw [hr] at h;simp only at h;cases hq : f q' with
     | bad e2 q2 => rw [hq] at h; cases h; exact hf _ _ _ hq
     | ok x q2 => rw [hq] at h; cases h
theorem tk_bad_ne (b : List Nat) : ∀ r p e q, tk b r p = .bad e q → e ≠ 0 := by
 intro r;induction r with
 | zero => intro p e q h; rw [tk] at h; split at h <;> cases h <;> omega
 | succ r ih =>
   intro p e q h;rw [tk] at h;split at h
   · cases h; omega
   rw [one] at h;split at h
   · cases h; omega
   split at h
   · rename_i h1; cases h; exact h1
   rw [body] at h;split at h
   · cases h
   split at h
   · cases h; omega
   split at h
   · cases h
   revert h
   split
   · rename_i hr
     intro h;cases h;exact rows_bad_ne ih _ _ _ _ hr
   · intro h; cases h
theorem get_bad_ne {b : List Nat} {e q : Nat} (h : Cod.get b = .bad e q) : e ≠ 0 := by
 rw [Cod.get] at h;split at h
 · cases h; omega
 cases ht : tk b 16 0 with
 | bad e' p => rw [ht] at h; cases h; exact tk_bad_ne _ _ _ _ _ ht
 | ok x p =>
   rw [ht] at h;simp only at h;split at h <;> cases h;omega
end Go.Proofs.YtkejjdoaljoooaaGreatDoor.Cp
