/-
  The document's Form of a right item is its form; the document's Put answers it, or what is wrong.
-/
import Derived.Test.YthlhlhihllgfiaaCodCheck
import Derived.Test.YthlhlhihllgfiaaCodText
import Derived.Test.YthlhlhihllgfiaaNumRefPut
namespace Go.Proofs.Ythlhlhihllgfiaa
open Go.RowKit Mem Cod

def FormRel (w0 : World) (base : Nat) (l : List It) (bs : List Nat) (b i : Value) (wr : World) : Prop :=
  ∃ (k : Nat) (V : Option Addr) (c : Nat), k ≤ l.length ∧ i = .int .i64 k ∧ b = .slice V (bs ++ forms (l.take k)).length c ∧
    wr.ownsRow base 5 1 (.slice V (bs ++ forms (l.take k)).length c) (bs ++ forms (l.take k)).length (cs (bs ++ forms (l.take k))) ∧ Below w0.heap.size w0 wr

theorem forms_take {l : List It} {k : Nat} (hk : k < l.length) : forms (l.take (k + 1)) = forms (l.take k) ++ form l[k] := by
  rw [List.take_add_one, List.getElem?_eq_getElem hk, forms_append]
  simp [forms_one]
theorem length_forms_take (l : List It) (k : Nat) : (forms (l.take k)).length ≤ (forms l).length := by
  conv => rhs; rw [← List.take_append_drop k l, forms_append]
  simp

/-- The row that was just laid with one byte, behind a call that keeps what was there. -/
theorem own_one {W w1 : World} {v : Value} (hb : Below (W.alloc (.cells #[v] 5)).heap.size (W.alloc (.cells #[v] 5)) w1) : w1.ownsRow W.heap.size 5 1 (.slice (some ⟨W.heap.size, 0, none⟩) 1 1) 1 [v] :=
  ownsRow_below (World.ownsRow_lit W #[v] 1 (Nat.le_refl _) (by simp [maxLen]) rfl) hb

set_option maxHeartbeats 2000000 in
theorem refform_num (n : Nat) (A : Option Addr) (c : Nat) (w : World) (hn : n ≤ 18446744073709551615) (m : Nat) (p : List Nat) (hp : Num.put n = p) (hm : p.length = m) (hm9 : m ≤ 9) :
    Calls Try.prog 29 #[.agg #[.int .i64 0, .int .u64 (n : Int), .string ByteArray.empty, .slice A 0 c]] w (Gives w (1 + m) (0 :: p)) := by
  obtain ⟨i0, hi, hz0, hz1, hz2⟩ := info_parts info5
  have HP := Lib.hid hp
  have HM := Lib.hid hm
  clear hp hm
  go_enter Try.func29, Try.ntmps29
  go_wp2_with fail
  refine (refput_any n _ (by omega) (by omega) m p (by simpa using HP.out) HM.out).mono ?_
  rintro e w1 ⟨V1, c1, rfl, hr1, hb1⟩
  have ho1 := own_one hb1
  rw [size_alloc] at ho1
  go_wp2_with (at_builtin; refine wpList_append_rd rfl (.tmp 12) (.tmp 15) 28 rfl (w.heap.size + 1) 5 i0 _ 1 Try.underlying28 hi hz0 hz1 hz2 rfl _ 1 1 _ rfl ho1 V1 m c1 (cs p) rfl hr1 (cs_one _) (by unfold maxLen; omega) (by omega) (by have := hb1.size; simp at this; omega) ?_; intro V2 c2 w2 hown2 hb2)
  go_ret
  refine ⟨V2, c2, rfl, ?_, ?_⟩
  · have := Rd.own hown2
    simpa [cs] using this
  · exact (bel_alloc (Below.refl _ _) _).trans (((bel_alloc (Below.refl _ _) _).trans (hb1.mono (by simp))).mono (by simp)) |>.trans (hb2.mono (by omega))

set_option maxHeartbeats 2000000 in
theorem refform_text (s : ByteArray) (A : Option Addr) (c : Nat) (w : World) (hs : s.size ≤ 1000000) (m : Nat) (p : List Nat) (hp : Num.put s.size = p) (hm : p.length = m) (hm9 : m ≤ 9) :
    Calls Try.prog 29 #[.agg #[.int .i64 1, .int .u64 0, .string s, .slice A 0 c]] w (Gives w (1 + m + s.size) (1 :: (p ++ bts s))) := by
  obtain ⟨i0, hi, hz0, hz1, hz2⟩ := info_parts info5
  have HP := Lib.hid hp
  have HM := Lib.hid hm
  clear hp hm
  have hcv : ∀ W : World, (convert 9 28 (.string s)).run Try.prog W = .ok (.slice (some ⟨W.heap.size, 0, none⟩) s.size (grownCap W s.size 0 5)) (Lib.bytesWorld W 5 s) :=
    fun W => Lib.run_convert_string_bytes W 9 28 5 s Try.underlying9 Try.underlying28 Try.underlying5
  go_enter Try.func29, Try.ntmps29
  go_wp2_with fail
  refine (refput_any s.size _ (by omega) (by omega) m p (by simpa using HP.out) HM.out).mono ?_
  rintro e w1 ⟨V1, c1, rfl, hr1, hb1⟩
  have ho1 := own_one hb1
  rw [size_alloc] at ho1
  have hblk := (Blk.new w 25 #[.int .i64 1, .int .u64 0, .string s, .slice A 0 c]).alloc (.cells #[.int .u8 1] 5)
  have hblk1 := hblk.bel hb1
  have hsz1 : w.heap.size + 2 ≤ w1.heap.size := by have := hb1.size; simp at this; omega
  have HB1 := Lib.hid hb1
  clear hblk hb1
  go_wp2_with (first
    | (at_builtin; refine wpList_append_rd rfl (.tmp 20) (.tmp 25) 28 rfl (w.heap.size + 1) 5 i0 _ 1 Try.underlying28 hi hz0 hz1 hz2 rfl _ 1 1 _ rfl ho1 V1 m c1 (cs p) rfl hr1 (cs_one _) (by unfold maxLen; omega) (by omega) (by omega) ?_; intro V2 c2 w2 hown2 hb2; obtain ⟨_, _, hc2, _⟩ := blk4 (hblk1.below hb2 (by omega)))
    | (at_builtin; refine wpList_append_rd rfl (.tmp 27) (.tmp 30) 28 rfl (w.heap.size + 1) 5 i0 _ 1 Try.underlying28 hi hz0 hz1 hz2 rfl _ (1 + m) c2 _ rfl (ownsRow_below hown2 (below_ofText _ _ _)) _ s.size _ (cs (bts s)) rfl (Rd.ofText _ _ _ (by unfold maxLen; omega)) (cs_one _) (by unfold maxLen; omega) (by omega) (by have := hb2.size; rw [Lib.bytesWorld_size]; omega) ?_; intro V3 c3 w3 hown3 hb3))
  go_ret
  refine ⟨V3, c3, rfl, ?_, ?_⟩
  · have := Rd.own hown3
    simpa [cs] using this
  · refine (bel_alloc (Below.refl _ _) _).trans (((bel_alloc (Below.refl _ _) _).trans (HB1.out.mono (by simp))).mono (by simp)) |>.trans (hb2.mono (by omega)) |>.trans ?_
    exact ((below_ofText _ _ _).mono (by have := hb2.size; omega)).trans (hb3.mono (by omega))

set_option maxHeartbeats 2000000 in
/-- The walk of a list. -/
theorem refform_list (l : List It) (A : Option Addr) (c : Nat) (S : Nat → Prop) (w : World) (hl : Lies w S (.mk 2 0 ByteArray.empty l) A c) (hsz : (forms l).length ≤ 1000000) (m : Nat) (p : List Nat) (hp : Num.put l.length = p) (hm : p.length = m) (hm9 : m ≤ 9)
    (ih : ∀ (y : It) (A : Option Addr) (c : Nat) (S : Nat → Prop) (w : World), y ∈ l → Lies w S y A c →
      Calls Try.prog 29 #[.agg #[.int .i64 y.kind, .int .u64 (y.num : Int), .string y.str, .slice A y.kids.length c]] w (Gives w (form y).length (form y))) :
    Calls Try.prog 29 #[.agg #[.int .i64 2, .int .u64 0, .string ByteArray.empty, .slice A l.length c]] w (Gives w (2 :: (p ++ forms l)).length (2 :: (p ++ forms l))) := by
  obtain ⟨i0, hi, hz0, hz1, hz2⟩ := info_parts info5
  have HP := Lib.hid hp
  have HM := Lib.hid hm
  have HL := Lib.hid hl
  have IH := Lib.hid ih
  obtain ⟨_, _, _, _, b5, b6⟩ := hl.bounds
  simp only [It.kids] at b5
  clear hp hm hl ih
  go_enter Try.func29, Try.ntmps29
  go_wp2_with fail
  refine (refput_any l.length _ (by omega) (by omega) m p (by simpa using HP.out) HM.out).mono ?_
  rintro e w1 ⟨V1, c1, rfl, hr1, hb1⟩
  have ho1 := own_one hb1
  rw [size_alloc] at ho1
  have hblk := (Blk.new w 25 #[.int .i64 2, .int .u64 0, .string ByteArray.empty, .slice A l.length c]).alloc (.cells #[.int .u8 2] 5)
  have hblk1 := hblk.bel hb1
  have hsz1 : w.heap.size + 2 ≤ w1.heap.size := by have := hb1.size; simp at this; omega
  have HB1 := Lib.hid hb1
  clear hblk hb1
  go_wp2_with (at_builtin; refine wpList_append_rd rfl (.tmp 32) (.tmp 37) 28 rfl (w.heap.size + 1) 5 i0 _ 1 Try.underlying28 hi hz0 hz1 hz2 rfl _ 1 1 _ rfl ho1 V1 m c1 (cs p) rfl hr1 (cs_one _) (by unfold maxLen; omega) (by omega) (by omega) ?_; intro V2 c2 w2 hown2 hb2)
  have hbw0 : Below (w.heap.size + 1) (w.alloc (.cells #[.int .i64 2, .int .u64 0, .string ByteArray.empty, .slice A l.length c] 25)) w2 :=
    ((((Below.refl _ _).alloc (by simp) _).trans (HB1.out.mono (by simp))).trans hb2)
  have hst : FormRel (w.alloc (.cells #[.int .i64 2, .int .u64 0, .string ByteArray.empty, .slice A l.length c] 25)) (w.heap.size + 1) l (2 :: p) (.slice V2 (1 + m) c2) (.int .i64 0) w2 := by
    have e : (2 :: p ++ forms (l.take 0)) = 2 :: p := by simp [forms]
    have e2 : (2 :: p).length = 1 + m := by simp [HM.out]; omega
    refine ⟨0, V2, c2, Nat.zero_le _, rfl, by rw [e, e2], ?_, by rw [size_alloc]; exact hbw0⟩
    rw [e, e2]
    simpa [cs] using hown2
  clear hown2 hb2 hbw0 hblk1 ho1 hr1
  go_loopw [3, 4] (FormRel (w.alloc (.cells #[.int .i64 2, .int .u64 0, .string ByteArray.empty, .slice A l.length c] 25)) (w.heap.size + 1) l (2 :: p)) (fun _ i _ => l.length - (intOf i).toNat)
  case atStart => exact hst
  case round =>
    clear hst
    obtain ⟨k, V, cv, hk, rfl, rfl, hown, hb⟩ := hrel
    generalize hN : (2 :: p ++ forms (l.take k)).length = N at hown ⊢
    have hN2 : N ≤ 1000010 := by
      rw [← hN]
      have := length_forms_take l k
      have := HM.out
      simp; omega
    have HN := Lib.hid hN
    have HO := Lib.hid hown
    clear hN hown
    obtain ⟨_, _, _, hc3⟩ := blk4 ((Blk.new w _ _).bel hb)
    have hbw : Below w.heap.size w wr := (bel_alloc (Below.refl _ _) _).trans (hb.mono (by simp))
    have HB := Lib.hid hb
    clear hb
    by_cases hlt : k < l.length
    · obtain ⟨ad, A', c', rfl, _, hblk, hsp, hl'⟩ := ((lies_eq _ _ _ _ _).1 HL.out).2.2 k hlt
      simp only [It.kids] at hsp hl'
      obtain ⟨s0, s1, s2, s3⟩ := hsp.keep (w' := wr) fun p hp => hbw.cell (by rw [hp, add_block]; exact hblk)
      generalize hea : ad.add (k * 4) = ea at s0 s1 s2 s3
      have HSP := Lib.hid hsp
      have HL' := Lib.hid (hl'.keep (w' := wr) (S' := S) _ (fun _ h _ => h) hbw.size fun p _ hp => hbw.cell hp)
      clear hsp hl'
      go_wp2_with fail
      refine (IH.out l[k] A' c' S wr (List.getElem_mem hlt) HL'.out).mono ?_
      rintro e w3 ⟨V3, c3, rfl, hr3, hb3⟩
      have hfl : (form l[k]).length ≤ 1000000 := by
        have h1 := length_forms_take l (k + 1)
        rw [forms_take hlt, List.length_append] at h1
        omega
      have hown3 := ownsRow_below HO.out hb3
      have hs3 : w.heap.size + 1 ≤ w3.heap.size := by have := HB.out.size; have := hb3.size; simp at *; omega
      generalize hF : (form l[k]).length = F at hfl hr3 ⊢
      have HF := Lib.hid hF
      clear hF
      go_wp2_with (at_builtin; refine wpList_append_rd rfl (.tmp 46) (.tmp 52) 28 rfl (w.heap.size + 1) 5 i0 _ 1 Try.underlying28 hi hz0 hz1 hz2 rfl V N cv _ rfl hown3 V3 F c3 (cs (form l[k])) rfl hr3 (cs_one _) (by unfold maxLen; omega) (by omega) (by omega) ?_; intro V4 c4 w4 hown4 hb4)
      have e4 : 2 :: p ++ forms (l.take (k + 1)) = (2 :: p ++ forms (l.take k)) ++ form l[k] := by rw [forms_take hlt, List.append_assoc]
      have e5 : ((2 :: p ++ forms (l.take k)) ++ form l[k]).length = N + F := by rw [List.length_append, HN.out, HF.out]
      refine ⟨⟨k + 1, V4, c4, by omega, by simp, by rw [e4, e5], ?_, ?_⟩, by simp [intOf]; omega⟩
      · rw [e4, e5, cs_append]
        exact hown4
      · rw [size_alloc]
        have hB := HB.out
        rw [size_alloc] at hB
        exact (hB.trans (hb3.mono (by have := hB.size; simp at this; omega))).trans hb4
    · obtain rfl : k = l.length := by omega
      go_wp2_with fail
      go_ret
      have hN := HN.out
      have hO := HO.out
      rw [List.take_length] at hN hO
      refine ⟨V, cv, ?_, ?_, (bel_alloc (Below.refl _ _) _).trans (HB.out.mono (by simp))⟩
      · rw [← hN]
        rfl
      · have := Rd.own hO
        rw [← hN] at this
        exact this

theorem refform_any (x : It) : ∀ (A : Option Addr) (c : Nat) (S : Nat → Prop) (w : World) (d : Nat), chk x d = 0 → (form x).length ≤ 1000000 → Lies w S x A c →
    Calls Try.prog 29 #[.agg #[.int .i64 x.kind, .int .u64 (x.num : Int), .string x.str, .slice A x.kids.length c]] w (Gives w (form x).length (form x)) := by
  induction x using It.ind with
  | h x ih =>
  intro A c S w d hc hsz hl
  rw [chk_eq] at hc
  split at hc
  · omega
  rename_i hfo
  split at hc
  · omega
  have hkid := chks_zero.1 hc
  have hfit := (fit_eq x).1 hl.fit
  have hb := hl.bounds
  rcases formed_cases hfo with ⟨n, rfl⟩ | ⟨s, rfl⟩ | ⟨l, rfl⟩ <;> simp only [It.num, It.str, It.kids, It.kind] at hfit hb ih hkid ⊢
  · rw [form0 rfl]
    simp only [It.num]
    have h9 := Num.size_le n hfit.1
    have := refform_num n A c w hb.2.2.1 _ _ rfl rfl (by rw [Num.length_put]; exact h9)
    rw [List.length_cons, Nat.add_comm]
    exact this
  · rw [form1 rfl] at hsz ⊢
    simp only [It.str, List.length_cons, List.length_append, length_bts] at hsz ⊢
    have h9 := Num.size_le s.size (by omega)
    have := refform_text s A c w (by omega) _ _ rfl rfl (by rw [Num.length_put]; exact h9)
    rw [show (Num.put s.size).length + s.size + 1 = 1 + (Num.put s.size).length + s.size by omega]
    exact this
  · rw [form2 rfl] at hsz ⊢
    simp only [It.kids, List.length_cons, List.length_append] at hsz
    have h9 := Num.size_le l.length (by omega)
    refine refform_list l A c S w hl (by omega) _ _ rfl rfl (by rw [Num.length_put]; exact h9) fun y A c S w hy hl' => ?_
    refine ih y hy A c S w (d + 1) (hkid y hy) ?_ hl'
    obtain ⟨i, hi, rfl⟩ := List.getElem_of_mem hy
    have h1 := length_forms_take l (i + 1)
    rw [forms_take hi, List.length_append] at h1
    omega

/-- The ending: the form of the item and OK, or nothing and what is wrong. -/
def PutIs (x : It) (w : World) (e : Ending) (w' : World) : Prop :=
  ∃ A n c, e = .returned (.tuple #[.slice A n c, .int .i64 ((chk x 0 : Nat) : Int)]) ∧ Rd w' A n c (cs (if chk x 0 = 0 then form x else [])) ∧ Below w.heap.size w w'

set_option maxHeartbeats 2000000 in
theorem refputi_any (x : It) (A : Option Addr) (c : Nat) (S : Nat → Prop) (w : World) (hsz : (form x).length ≤ 1000000) (hl : Lies w S x A c) :
    Calls Try.prog 12 #[.agg #[.int .i64 x.kind, .int .u64 (x.num : Int), .string x.str, .slice A x.kids.length c]] w (PutIs x w) := by
  have HL := Lib.hid hl
  clear hl
  go_enter Try.func12, Try.ntmps12
  go_wp2_with fail
  refine (check_any x A c S _ 0 (by omega) (HL.out.alloc _)).mono ?_
  rintro e w1 ⟨rfl, hb1⟩
  by_cases h0 : chk x 0 = 0
  · have H0 := Lib.hid h0
    rw [show ((chk x 0 : Nat) : Int) = 0 by omega]
    obtain ⟨hc0, hc1, hc2, hc3⟩ := blk4 ((Blk.new w _ _).bel hb1)
    have HB1 := Lib.hid hb1
    clear h0 hb1
    go_wp2_with fail
    refine (refform_any x A c S _ 0 H0.out hsz ((HL.out.alloc _).keep x (fun _ h _ => h) HB1.out.size fun p _ hp => HB1.out.cell hp)).mono ?_
    rintro e w2 ⟨A2, c2, rfl, hr2, hb2⟩
    have HR2 := Lib.hid hr2
    clear hr2
    generalize hF : (form x).length = F at hsz HR2
    have HF := Lib.hid hF
    clear hF
    go_wp2_with fail
    go_ret2
    refine ⟨A2, F, c2, by rw [H0.out]; rfl, by rw [if_pos H0.out]; exact HR2.out, ?_⟩
    exact (bel_alloc (Below.refl _ _) _).trans ((HB1.out.trans (hb2.mono HB1.out.size)).mono (by simp))
  · have H0 := Lib.hid h0
    have e0 : (((chk x 0 : Nat) : Int) != 0) = true := by rw [bne_iff_ne]; omega
    generalize hv : chk x 0 = v at e0
    have HV := Lib.hid hv
    clear h0 hv
    go_wp2_with fail
    go_ret2
    refine ⟨none, 0, 0, by rw [HV.out]; rfl, by rw [if_neg H0.out]; exact Rd.nil_ _, ?_⟩
    exact (bel_alloc (Below.refl _ _) _).trans (hb1.mono (by simp))

end Go.Proofs.Ythlhlhihllgfiaa
