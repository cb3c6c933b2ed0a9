/-
  codec's head and write: behind bytes of the call's own the form of a right item's tree.
-/
import Derived.Test.YthlhlhihllgfiaaCodNode
import Derived.Test.YthlhlhihllgfiaaCodRefForm
import Derived.Test.YthlhlhihllgfiaaCodAssert
import Derived.Test.YthlhlhihllgfiaaNumCalls
namespace Go.Proofs.Ythlhlhihllgfiaa
open Go.RowKit Mem Cod

/-- The ending: the call's own bytes, with more behind them. -/
def Wrote (base n : Nat) (xs : List Value) (bs : List Nat) (w : World) (e : Ending) (w' : World) : Prop :=
  ∃ V c, e = .returned (.slice V (n + bs.length) c) ∧ w'.ownsRow base 5 1 (.slice V (n + bs.length) c) (n + bs.length) (xs ++ cs bs) ∧ Below base w w'

set_option maxHeartbeats 2000000 in
theorem head_any (base n : Nat) (V : Option Addr) (c : Nat) (xs : List Value) (k : Nat) (v : Int) (w : World) (hown : w.ownsRow base 5 1 (.slice V n c) n xs) (hb : base ≤ w.heap.size) (hn : n ≤ 2000000) (h0 : 0 ≤ v) (h1 : v ≤ 18446744073709551615) (m : Nat) (p : List Nat) (hp : Num.put v.toNat = p) (hm : p.length = m) (hm9 : m ≤ 9) :
    Calls Try.prog 39 #[.slice V n c, .int .u8 (k : Int), .int .u64 v] w (Wrote base n xs (k :: p) w) := by
  obtain ⟨i0, hi, hz0, hz1, hz2⟩ := info_parts info5
  have HP := Lib.hid hp
  have HM := Lib.hid hm
  have HO := Lib.hid hown
  clear hp hm hown
  go_enter Try.func39, Try.ntmps39
  go_wp2_with (at_builtin; refine wpList_append_rd rfl (.tmp 7) (.tmp 9) 28 rfl base 5 i0 _ 1 Try.underlying28 hi hz0 hz1 hz2 rfl V n c xs rfl (HO.out.alloc _) _ 1 1 [_] rfl (Rd.one _ _ _) (by intro u hu; simp at hu; subst hu; rfl) (by unfold maxLen; omega) (by omega) (by rw [size_alloc]; omega) ?_; intro V2 c2 w2 hown2 hb2)
  refine (put_gives none 0 0 m [] p v _ (Rd.nil_ _) h0 h1 (by omega) (by simpa using HP.out) HM.out).mono ?_
  rintro e w3 ⟨V3, c3, rfl, hr3, hb3⟩
  have hs2 : base ≤ w2.heap.size := by have := hb2.size; rw [size_alloc] at this; omega
  have hs3 : base ≤ w3.heap.size := by have := hb3.size; omega
  have hown3 := ownsRow_below hown2 hb3
  go_wp2_with (at_builtin; refine wpList_append_rd rfl (.tmp 10) (.tmp 12) 28 rfl base 5 i0 _ 1 Try.underlying28 hi hz0 hz1 hz2 rfl V2 (n + 1) c2 _ rfl hown3 V3 m c3 (cs p) rfl hr3 (cs_one _) (by unfold maxLen; omega) (by omega) hs3 ?_; intro V4 c4 w4 hown4 hb4)
  go_ret
  have e : n + (k :: p).length = n + 1 + m := by rw [List.length_cons, HM.out]; omega
  refine ⟨V4, c4, by rw [e]; rfl, ?_, ?_⟩
  · rw [e, show cs (k :: p) = [.int .u8 (k : Int)] ++ cs p from rfl, ← List.append_assoc]
    exact hown4
  · exact ((((Below.refl _ _).alloc hb _).trans hb2).trans (hb3.mono hs2)).trans hb4

def WriteRel (w : World) (base n : Nat) (xs : List Value) (l : List It) (bs : List Nat) (b i : Value) (wr : World) : Prop :=
  ∃ (k : Nat) (V : Option Addr) (c : Nat), k ≤ l.length ∧ i = .int .i64 k ∧ b = .slice V (n + (bs ++ forms (l.take k)).length) c ∧
    wr.ownsRow base 5 1 (.slice V (n + (bs ++ forms (l.take k)).length) c) (n + (bs ++ forms (l.take k)).length) (xs ++ cs (bs ++ forms (l.take k))) ∧ Below base w wr

set_option maxHeartbeats 2000000 in
theorem write_num (nn : Nat) (base n : Nat) (V : Option Addr) (c : Nat) (xs : List Value) (w : World) (hown : w.ownsRow base 5 1 (.slice V n c) n xs) (hb : base ≤ w.heap.size) (hn : n ≤ 2000000) (h1 : nn ≤ 18446744073709551615) :
    Calls Try.prog 27 #[.slice V n c, .iface 75 (.int .u64 (nn : Int))] w (Wrote base n xs (0 :: Num.put nn) w) := by
  have h9 : (Num.put nn).length ≤ 9 := by rw [Num.length_put]; exact Num.size_le nn (by omega)
  have a1 := as_num_num
  go_enter Try.func27, Try.ntmps27
  go_wp2_with fail
  refine (head_any base n V c xs 0 nn _ hown hb hn (by omega) (by omega) _ (Num.put nn) (by simp) rfl h9).mono ?_
  rintro e w2 ⟨V2, c2, rfl, hown2, hb2⟩
  go_wp2_with fail
  go_ret
  exact ⟨V2, c2, rfl, hown2, hb2⟩

set_option maxHeartbeats 2000000 in
theorem write_text (s : ByteArray) (base n : Nat) (V : Option Addr) (c : Nat) (xs : List Value) (w : World) (hown : w.ownsRow base 5 1 (.slice V n c) n xs) (hb : base ≤ w.heap.size) (hn : n ≤ 2000000) (h1 : s.size ≤ 2000000) :
    Calls Try.prog 27 #[.slice V n c, .iface 76 (.string s)] w (Wrote base n xs (1 :: (Num.put s.size ++ bts s)) w) := by
  obtain ⟨i0, hi, hz0, hz1, hz2⟩ := info_parts info5
  have h9 : (Num.put s.size).length ≤ 9 := by rw [Num.length_put]; exact Num.size_le s.size (by omega)
  generalize hP : Num.put s.size = P at h9 ⊢
  have HP := Lib.hid hP
  clear hP
  have a1 := as_text_num
  have a2 := as_text_text
  go_enter Try.func27, Try.ntmps27
  go_wp2_with fail
  refine (head_any base n V c xs 1 s.size _ hown hb hn (by omega) (by omega) _ P (by simpa using HP.out) rfl h9).mono ?_
  rintro e w2 ⟨V2, c2, rfl, hown2, hb2⟩
  have hs2 : base ≤ w2.heap.size := by have := hb2.size; omega
  generalize hN : n + (1 :: P).length = N at hown2 ⊢
  have hN2 : N ≤ 2000010 := by rw [← hN, List.length_cons]; omega
  have HN := Lib.hid hN
  clear hN
  go_wp2_with (at_builtin; refine Lib.wpList_append_own_string _ rfl (.tmp 25) (.tmp 26) 28 76 rfl base 5 i0 Try.underlying28 Try.underlying76 hi hz0 hz1 hz2 (.slice V2 N c2) N _ rfl hown2 s rfl (by unfold maxLen; omega) (by omega) hs2 ?_; intro v3 w3 hown3 hg3 _; obtain ⟨V3, c3, rfl, hr3⟩ := Rd.of_own hown3)
  go_ret
  have e : n + (1 :: (P ++ bts s)).length = N + s.size := by
    have := HN.out
    rw [List.length_cons] at this ⊢
    rw [List.length_append, length_bts]
    omega
  refine ⟨V3, c3, by rw [e]; rfl, ?_, hb2.trans (gr_below hg3 hs2 fun b hb' => (hown2.lt b hb').1)⟩
  rw [e, show cs (1 :: (P ++ bts s)) = cs (1 :: P) ++ cs (bts s) from by rw [← cs_append]; rfl, ← List.append_assoc, ← strCells_bts]
  exact hown3

set_option maxHeartbeats 2000000 in
theorem write_list (l : List It) (A : Option Addr) (cl : Nat) (S : Nat → Prop) (base n : Nat) (V : Option Addr) (c : Nat) (xs : List Value) (w : World) (hx : IsNode w S (.mk 2 0 ByteArray.empty l) (.iface 78 (.slice A l.length cl))) (hS : ∀ b, S b → b < base)
    (hown : w.ownsRow base 5 1 (.slice V n c) n xs) (hb : base ≤ w.heap.size) (hn : n + (form (.mk 2 0 ByteArray.empty l)).length ≤ 2000000)
    (ih : ∀ (y : It) (u : Value) (n : Nat) (V : Option Addr) (c : Nat) (xs : List Value) (w : World), y ∈ l → IsNode w S y u → w.ownsRow base 5 1 (.slice V n c) n xs → base ≤ w.heap.size → n + (form y).length ≤ 2000000 →
      Calls Try.prog 27 #[.slice V n c, u] w (Wrote base n xs (form y) w)) :
    Calls Try.prog 27 #[.slice V n c, .iface 78 (.slice A l.length cl)] w (Wrote base n xs (2 :: (Num.put l.length ++ forms l)) w) := by
  rw [form2 rfl] at hn
  simp only [It.kids, List.length_cons, List.length_append] at hn
  have hlen : l.length ≤ 2000000 := by have := length_forms l; omega
  have h9 : (Num.put l.length).length ≤ 9 := by rw [Num.length_put]; exact Num.size_le l.length (by omega)
  generalize hP : Num.put l.length = P at h9 hn ⊢
  have HP := Lib.hid hP
  have HX := Lib.hid hx
  have HS := Lib.hid hS
  have IH := Lib.hid ih
  clear hP hx hS ih
  have a1 := as_list_num
  have a2 := as_list_text
  have a3 := as_list_list
  go_enter Try.func27, Try.ntmps27
  go_wp2_with fail
  refine (head_any base n V c xs 2 l.length _ hown hb (by omega) (by omega) (by omega) _ P (by simpa using HP.out) rfl h9).mono ?_
  rintro e w2 ⟨V2, c2, rfl, hown2, hb2⟩
  have hst : WriteRel w base n xs l (2 :: P) (.slice V2 (n + (2 :: P).length) c2) (.int .i64 0) w2 := by
    refine ⟨0, V2, c2, Nat.zero_le _, rfl, by simp [forms], by simpa [forms] using hown2, hb2⟩
  clear hown2 hb2
  go_wp2_with fail
  go_loopw [0, 38] (WriteRel w base n xs l (2 :: P)) (fun _ i _ => l.length - (intOf i).toNat)
  case atStart => exact hst
  case round =>
    clear hst
    obtain ⟨k, V3, c3, hk, rfl, rfl, hown3, hb3⟩ := hrel
    have hs3 : base ≤ wr.heap.size := by have := hb3.size; omega
    generalize hN : n + (2 :: P ++ forms (l.take k)).length = N at hown3 ⊢
    have HN := Lib.hid hN
    have HO := Lib.hid hown3
    have HB := Lib.hid hb3
    clear hN hown3 hb3
    by_cases hlt : k < l.length
    · obtain ⟨ad, cc, u, e, hSb, hblk, hcell, hnu⟩ := ((node_eq _ _ _ _).1 HX.out).2 k hlt
      simp only [It.kids] at e hnu
      injection e with _ e
      injection e with e1 _ e2
      subst e1
      subst e2
      have hc : wr.cell? (ad.add k) = some u := (HB.out.cell (by rw [add_block]; exact HS.out _ hSb)).trans hcell
      have HC := Lib.hid hcell
      have HNU := Lib.hid (hnu.below (S' := S) HB.out fun b hb _ => ⟨HS.out b hb, hb⟩)
      clear hcell hnu
      have hfk : (forms (l.take k)).length + (form l[k]).length ≤ (forms l).length := by
        have h1 := length_forms_take l (k + 1)
        rwa [forms_take hlt, List.length_append] at h1
      go_wp2_with fail
      refine (IH.out l[k] u N V3 c3 _ _ (List.getElem_mem hlt) HNU.out HO.out hs3 (by have := HN.out; simp at this; omega)).mono ?_
      rintro e w4 ⟨V4, c4, rfl, hown4, hb4⟩
      have e4 : 2 :: P ++ forms (l.take (k + 1)) = (2 :: P ++ forms (l.take k)) ++ form l[k] := by rw [forms_take hlt, List.append_assoc]
      have e5 : n + ((2 :: P ++ forms (l.take k)) ++ form l[k]).length = N + (form l[k]).length := by rw [List.length_append, ← Nat.add_assoc, HN.out]
      have E4 := Lib.hid e4
      have E5 := Lib.hid e5
      clear e4 e5
      go_wp2_with fail
      refine ⟨⟨k + 1, V4, c4, by omega, by simp, by rw [E4.out, E5.out], ?_, HB.out.trans hb4⟩, by simp [intOf]; omega⟩
      rw [E4.out, E5.out, cs_append, ← List.append_assoc]
      exact hown4
    · obtain rfl : k = l.length := by omega
      go_wp2_with fail
      go_ret
      have hN := HN.out
      have hO := HO.out
      rw [List.take_length] at hN hO
      have e : n + (2 :: (P ++ forms l)).length = N := hN
      refine ⟨V3, c3, by rw [e]; rfl, ?_, HB.out⟩
      rw [e]
      exact hO

theorem write_any (x : It) : ∀ (v : Value) (S : Nat → Prop) (base n : Nat) (V : Option Addr) (c : Nat) (xs : List Value) (w : World), IsNode w S x v → (∀ b, S b → b < base) → w.ownsRow base 5 1 (.slice V n c) n xs → base ≤ w.heap.size → n + (form x).length ≤ 2000000 →
    Calls Try.prog 27 #[.slice V n c, v] w (Wrote base n xs (form x) w) := by
  induction x using It.ind with
  | h x ih =>
  intro v S base n V c xs w hx hS hown hb hn
  rcases ((node_eq _ _ _ _).1 hx).1 with ⟨e, h1, rfl⟩ | ⟨e, h1, rfl⟩ | ⟨e, A, cl, rfl, h1, h2, h3⟩
  · have ef : form x = 0 :: Num.put x.num := by rw [e]; exact form0 rfl
    rw [ef] at hn ⊢
    exact write_num x.num base n V c xs w hown hb (by omega) h1
  · have ef : form x = 1 :: (Num.put x.str.size ++ bts x.str) := by rw [e]; exact form1 rfl
    rw [ef] at hn ⊢
    simp only [List.length_cons, List.length_append, length_bts] at hn
    exact write_text x.str base n V c xs w hown hb (by omega) (by omega)
  · have ef : form x = 2 :: (Num.put x.kids.length ++ forms x.kids) := by rw [e]; exact form2 rfl
    rw [ef]
    have hx' := hx
    rw [e] at hx' hn
    refine write_list x.kids A cl S base n V c xs w hx' hS hown hb hn fun y u n V c xs w hy hnu ho hb hn => ?_
    exact ih y hy u S base n V c xs w hnu hS ho hb hn
end Go.Proofs.Ythlhlhihllgfiaa
