/-
  Texts of earlier layers, as one.
-/
import Derived.Lib.BitFns
/- Plain mathematics of layer 1 (num), without any program: the form of a number as a list of bytes, and how it is read back. Every fact is for numbers below 2^64 where it says so. -/
namespace Go.Proofs.Ytlcggldcofncgaa.Num

/-- How many bytes a number takes. -/
def nby (v : Nat) : Nat := (Lib.bitLen v + 7) / 8

/-- The size of a number's form. -/
def size (v : Nat) : Nat := if v < 248 then 1 else 1 + nby v

/-- The first i of the k bytes of v, the highest first. -/
def beTo (k v i : Nat) : List Nat := (List.range i).map fun j => v / 256 ^ (k - 1 - j) % 256

/-- A number's form. -/
def put (v : Nat) : List Nat := if v < 248 then [v] else (247 + nby v) :: beTo (nby v) v (nby v)

/-- The number of bytes that are read as digits to the base 256. -/
def val (l : List Nat) : Nat := l.foldl (fun a b => a * 256 + b) 0

/-- What the bytes begin with: the number, how many bytes, the error. -/
def take (l : List Nat) : Nat × Nat × Nat :=
  match l with
  | [] => (0, 0, 2)
  | b :: r => if b < 248 then (b, 1, 0) else if r.length < b - 247 then (0, 0, 2)
    else if size (val (r.take (b - 247))) ≠ 1 + (b - 247) then (0, 0, 4) else (val (r.take (b - 247)), 1 + (b - 247), 0)

theorem bitLen_pos (v : Nat) (h : 1 ≤ v) (hv : v < 2 ^ 64) : 1 ≤ Lib.bitLen v := by
  rw [Lib.bitLen_half v (by omega) hv]; omega

theorem bitLen_lt : ∀ (k v : Nat), v < 2 ^ 64 → Lib.bitLen v ≤ k → v < 2 ^ k
  | 0, v, hv, h => by
    rcases Nat.eq_zero_or_pos v with h0 | h0
    · subst h0; simp
    · have := bitLen_pos v h0 hv; omega
  | k + 1, v, hv, h => by
    rcases Nat.eq_zero_or_pos v with h0 | h0
    · subst h0; exact Nat.two_pow_pos _
    · rw [Lib.bitLen_half v (by omega) hv] at h
      have := bitLen_lt k (v / 2) (by omega) (by omega)
      rw [Nat.pow_succ]; omega

theorem pow256 (k : Nat) : 256 ^ k = 2 ^ (8 * k) := by rw [Nat.pow_mul]

theorem nby_le (v : Nat) (hv : v < 2 ^ 64) : nby v ≤ 8 := by
  have := Lib.bitLen_le v 64 (by omega) hv
  unfold nby; omega

theorem nby_pos (v : Nat) (h : 1 ≤ v) (hv : v < 2 ^ 64) : 1 ≤ nby v := by
  have := bitLen_pos v h hv
  unfold nby; omega

theorem lt_nby (v : Nat) (hv : v < 2 ^ 64) : v < 256 ^ nby v := by
  rw [pow256]
  exact bitLen_lt _ v hv (by unfold nby; omega)

/-- The least number of bytes. -/
theorem nby_least (v k : Nat) (hk : k ≤ 8) (h : v < 256 ^ k) : nby v ≤ k := by
  rw [pow256] at h
  have := Lib.bitLen_le v (8 * k) (by omega) h
  unfold nby; omega

theorem nby_eq (v k : Nat) (h1 : 1 ≤ k) (hk : k ≤ 8) (hl : 256 ^ (k - 1) ≤ v) (hv : v < 256 ^ k) : nby v = k := by
  have a := nby_least v k hk hv
  have hv64 : v < 2 ^ 64 := Nat.lt_of_lt_of_le hv (by rw [pow256]; exact Nat.pow_le_pow_right (by omega) (by omega))
  have b := lt_nby v hv64
  rcases Nat.lt_or_ge (nby v) k with h | h
  · have : 256 ^ nby v ≤ 256 ^ (k - 1) := Nat.pow_le_pow_right (by omega) (by omega)
    omega
  · omega

theorem nby_mono (a b : Nat) (hb : b < 2 ^ 64) (h : a ≤ b) : nby a ≤ nby b :=
  nby_least a _ (nby_le b hb) (Nat.lt_of_le_of_lt h (lt_nby b hb))

theorem length_beTo (k v i : Nat) : (beTo k v i).length = i := by simp [beTo]

theorem beTo_succ (k v i : Nat) : beTo k v (i + 1) = beTo k v i ++ [v / 256 ^ (k - 1 - i) % 256] := by
  simp [beTo, List.range_succ]

theorem beTo_lt (k v i : Nat) : ∀ b ∈ beTo k v i, b < 256 := by
  intro b hb
  obtain ⟨j, _, rfl⟩ := List.mem_map.1 hb
  exact Nat.mod_lt _ (by omega)

theorem val_snoc (l : List Nat) (b : Nat) : val (l ++ [b]) = val l * 256 + b := by simp [val]

theorem snoc_ind {α : Type} {P : List α → Prop} (h0 : P []) (h1 : ∀ l a, P l → P (l ++ [a])) : ∀ l, P l := by
  intro l
  rw [← List.reverse_reverse l]
  induction l.reverse with
  | nil => exact h0
  | cons a l ih => rw [List.reverse_cons]; exact h1 _ _ ih

theorem val_lt : ∀ (l : List Nat), (∀ b ∈ l, b < 256) → val l < 256 ^ l.length := by
  refine snoc_ind (fun _ => by simp [val]) ?_
  · intro l b ih h
    have h1 := ih (fun x hx => h x (by simp [hx]))
    have h2 := h b (by simp)
    rw [val_snoc, List.length_append, List.length_singleton, Nat.pow_succ]
    omega

theorem val_beTo (k v : Nat) : ∀ i, i ≤ k → val (beTo k v i) = v / 256 ^ (k - i) % 256 ^ i
  | 0, _ => by simp [beTo, val, Nat.mod_one]
  | i + 1, h => by
    rw [beTo_succ, val_snoc, val_beTo k v i (by omega)]
    have e : k - i = (k - (i + 1)) + 1 := by omega
    have e2 : k - 1 - i = k - (i + 1) := by omega
    rw [e, e2, Nat.pow_succ, ← Nat.div_div_eq_div_mul, Nat.pow_succ, Nat.mul_comm (256 ^ i) 256, Nat.mod_mul]
    omega

theorem val_be (k v : Nat) (h : v < 256 ^ k) : val (beTo k v k) = v := by
  rw [val_beTo k v k (Nat.le_refl _)]
  simp [Nat.mod_eq_of_lt h]

theorem length_put (v : Nat) : (put v).length = size v := by
  unfold put size
  split
  · rfl
  · simp [length_beTo]; omega

theorem size_pos (v : Nat) : 1 ≤ size v := by unfold size; split <;> omega
theorem size_le (v : Nat) (hv : v < 2 ^ 64) : size v ≤ 9 := by
  have := nby_le v hv
  unfold size; split <;> omega

theorem put_lt (v : Nat) (hv : v < 2 ^ 64) : ∀ b ∈ put v, b < 256 := by
  have := nby_le v hv
  intro b hb
  unfold put at hb
  split at hb
  · simp at hb; omega
  · rcases List.mem_cons.1 hb with h | h
    · omega
    · exact beTo_lt _ _ _ b h

/-- What is put is taken as it was, whatever stands behind. -/
theorem take_put (v : Nat) (hv : v < 2 ^ 64) (r : List Nat) : take (put v ++ r) = (v, size v, 0) := by
  unfold put
  by_cases h : v < 248
  · simp [take, h, size]
  · have h1 := nby_pos v (by omega) hv
    have h2 := nby_le v hv
    have e : (beTo (nby v) v (nby v) ++ r).take (nby v) = beTo (nby v) v (nby v) := by
      rw [List.take_append_of_le_length (by rw [length_beTo]; exact Nat.le_refl _), List.take_of_length_le (by rw [length_beTo]; exact Nat.le_refl _)]
    have e2 : 247 + nby v - 247 = nby v := by omega
    have e3 : ¬ 247 + nby v < 248 := by omega
    have e4 : ¬ (beTo (nby v) v (nby v) ++ r).length < nby v := by rw [List.length_append, length_beTo]; omega
    rw [if_neg h]
    simp only [List.cons_append, take, if_neg e3, e2, if_neg e4, e, val_be _ _ (lt_nby v hv)]
    have e5 : size v = 1 + nby v := by simp [size, h]
    rw [if_neg (by simpa using e5), e5]

/-- Cut off it is short. -/
theorem take_cut (v : Nat) (hv : v < 2 ^ 64) (j : Nat) (hj : j < size v) : take ((put v).take j) = (0, 0, 2) := by
  rcases Nat.eq_zero_or_pos j with h0 | h0
  · subst h0; simp [take]
  · obtain ⟨i, rfl⟩ : ∃ i, j = i + 1 := ⟨j - 1, by omega⟩
    have h : ¬ v < 248 := by
      intro h
      simp [size, h] at hj
    have h1 := nby_pos v (by omega) hv
    have e3 : ¬ 247 + nby v < 248 := by omega
    simp only [size, if_neg h] at hj
    unfold put
    rw [if_neg h, List.take_succ_cons]
    simp only [take, if_neg e3]
    rw [if_pos]
    rw [List.length_take, length_beTo]
    omega

theorem size_mono (a b : Nat) (hb : b < 2 ^ 64) (h : a ≤ b) : size a ≤ size b := by
  have := nby_mono a b hb h
  have p := size_pos b
  unfold size at *
  split <;> split <;> omega

/-- No form is the beginning of another number's. -/
theorem put_apart (a b : Nat) (ha : a < 2 ^ 64) (hb : b < 2 ^ 64) (hne : a ≠ b) : put a ≠ (put b).take (size a) := by
  intro h
  have e : put b = put a ++ (put b).drop (size a) := by
    conv => lhs; rw [← List.take_append_drop (size a) (put b)]
    rw [← h]
  have t1 := take_put a ha ((put b).drop (size a))
  have t2 := take_put b hb []
  rw [List.append_nil, e] at t2
  rw [t2] at t1
  exact hne (Prod.mk.inj t1).1.symm

/-- What take answers when all is well. -/
theorem take_val_lt (r : List Nat) (k : Nat) (h : ∀ b ∈ r, b < 256) : val (r.take k) < 256 ^ (r.take k).length :=
  val_lt _ fun b hb => h b (List.mem_of_mem_take hb)

/-- The document's answer: the digits of a number. -/
def digits (v : Nat) : List Nat := if v < 256 then [v] else digits (v / 256) ++ [v % 256]
decreasing_by omega

theorem nby_div (v : Nat) (h : 256 ≤ v) (hv : v < 2 ^ 64) : nby v = nby (v / 256) + 1 := by
  unfold nby
  rw [Lib.bitLen_shift8 v h (by omega)]
  omega

theorem beTo_div (k v : Nat) : ∀ i, i ≤ k → beTo (k + 1) v i = beTo k (v / 256) i
  | 0, _ => rfl
  | i + 1, h => by
    rw [beTo_succ, beTo_succ, beTo_div k v i (by omega)]
    have e : k + 1 - 1 - i = (k - 1 - i) + 1 := by omega
    rw [e, Nat.pow_succ, Nat.mul_comm, ← Nat.div_div_eq_div_mul]

theorem digits_eq (v : Nat) (h : 1 ≤ v) (hv : v < 2 ^ 64) : digits v = beTo (nby v) v (nby v) := by
  rw [digits]
  by_cases h2 : v < 256
  · rw [if_pos h2, nby_eq v 1 (by omega) (by omega) (by simpa using h) (by simpa using h2)]
    simp [beTo, List.range_succ]
    omega
  · rw [if_neg h2, nby_div v (by omega) hv, beTo_succ, beTo_div _ _ _ (Nat.le_refl _), digits_eq (v / 256) (by omega) (by omega)]
    simp
termination_by v
decreasing_by omega

theorem beTo_val : ∀ (l : List Nat), (∀ b ∈ l, b < 256) → beTo l.length (val l) l.length = l := by
  refine snoc_ind (fun _ => rfl) ?_
  · intro l b ih h
    have hb := h b (by simp)
    have e := ih (fun x hx => h x (by simp [hx]))
    rw [List.length_append, List.length_singleton, beTo_succ, beTo_div _ _ _ (Nat.le_refl _), val_snoc]
    have e1 : (val l * 256 + b) / 256 = val l := by omega
    rw [e1, e]
    simp
    omega

/-- The document's answer: a number read, and put anew, is the same bytes just if its size is theirs. -/
theorem put_same (b : Nat) (r : List Nat) (hb : 248 ≤ b) (hb2 : b < 256) (hl : b - 247 ≤ r.length) (h : ∀ x ∈ r, x < 256) :
    (put (val (r.take (b - 247))) = (b :: r).take (1 + (b - 247)) ↔ size (val (r.take (b - 247))) = 1 + (b - 247)) := by
  have hlen : (r.take (b - 247)).length = b - 247 := by rw [List.length_take]; omega
  have hlt : ∀ x ∈ r.take (b - 247), x < 256 := fun x hx => h x (List.mem_of_mem_take hx)
  have e : (b :: r).take (1 + (b - 247)) = b :: r.take (b - 247) := by rw [Nat.add_comm, List.take_succ_cons]
  rw [e]
  constructor
  · intro hp
    have := congrArg List.length hp
    rw [length_put, List.length_cons, hlen] at this
    omega
  · intro hs
    generalize hv : val (r.take (b - 247)) = v at *
    have h248 : ¬ v < 248 := by
      intro h; simp [size, h] at hs; omega
    have hn : nby v = b - 247 := by simp [size, h248] at hs; omega
    rw [put, if_neg h248, hn]
    have := beTo_val (r.take (b - 247)) hlt
    rw [hlen, hv] at this
    rw [this, show 247 + (b - 247) = b from by omega]

end Go.Proofs.Ytlcggldcofncgaa.Num
/- Plain mathematics of layer 3 (codec), without any program: items, their forms as lists of bytes, what is wrong with one, and how bytes are read back; what is put is read as it was, what is read is put as it was, cut off it is short. -/
namespace Go.Proofs.Ytlcggldcofncgaa.Cod

/-- An item: its kind, its number, its text, its list. -/
inductive It where
  | mk (kind : Int) (n : Nat) (s : ByteArray) (l : List It)

namespace It
def kind : It → Int | mk k _ _ _ => k
def num : It → Nat | mk _ n _ _ => n
def str : It → ByteArray | mk _ _ s _ => s
def kids : It → List It | mk _ _ _ l => l
end It

/-- The bytes of a text; a text of bytes. -/
def bts (s : ByteArray) : List Nat := s.data.toList.map (·.toNat)
def txt (l : List Nat) : ByteArray := ⟨(l.map UInt8.ofNat).toArray⟩
theorem length_bts (s : ByteArray) : (bts s).length = s.size := by simp [bts]
theorem size_txt (l : List Nat) : (txt l).size = l.length := by
  show (txt l).data.size = _
  simp [txt]
theorem bts_lt (s : ByteArray) : ∀ b ∈ bts s, b < 256 := by
  intro b hb
  obtain ⟨u, _, rfl⟩ := List.mem_map.1 hb
  exact u.toNat_lt
theorem txt_bts (s : ByteArray) : txt (bts s) = s := by
  cases s with
  | mk d =>
    have e : ((UInt8.ofNat ∘ fun x : UInt8 => x.toNat) : UInt8 → UInt8) = id := by funext u; simp [Function.comp]
    simp only [txt, bts, List.map_map]
    rw [e, List.map_id]
theorem bts_txt (l : List Nat) (h : ∀ b ∈ l, b < 256) : bts (txt l) = l := by
  simp only [bts, txt, List.map_map]
  conv => rhs; rw [← List.map_id l]
  refine List.map_congr_left fun b hb => ?_
  have := h b hb
  simp [Function.comp, UInt8.toNat_ofNat', Nat.mod_eq_of_lt this]
theorem size_zero (s : ByteArray) : s.size = 0 ↔ s = ByteArray.empty := by
  constructor
  · intro h
    have h1 : bts s = [] := List.eq_nil_of_length_eq_zero (by rw [length_bts]; exact h)
    have h2 := txt_bts s
    rw [h1] at h2
    rw [← h2]
    rfl
  · rintro rfl; rfl

mutual
/-- How many items and bytes there are. -/
def wt : It → Nat
  | .mk _ _ s l => 1 + s.size + wts l
def wts : List It → Nat
  | [] => 0
  | x :: r => wt x + wts r
end
theorem wts_append (a b : List It) : wts (a ++ b) = wts a + wts b := by
  induction a with
  | nil => simp [wts]
  | cons x a ih => simp [wts, ih]; omega
theorem wts_one (x : It) : wts [x] = wt x := by simp [wts]
theorem wt_pos (x : It) : 1 ≤ wt x := by cases x; simp [wt]; omega
theorem wt_mem {x : It} {l : List It} (h : x ∈ l) : wt x ≤ wts l := by
  induction l with
  | nil => cases h
  | cons y l ih =>
    rcases List.mem_cons.1 h with rfl | h
    · simp [wts]
    · have := ih h; simp [wts]; omega
theorem length_wts (l : List It) : l.length ≤ wts l := by
  induction l with
  | nil => simp
  | cons x l ih => have := wt_pos x; simp [wts]; omega
theorem wt_eq (x : It) : wt x = 1 + x.str.size + wts x.kids := by cases x; simp [wt, It.str, It.kids]

theorem It.ind {P : It → Prop} (h : ∀ x : It, (∀ y ∈ x.kids, P y) → P x) (x : It) : P x := by
  suffices H : ∀ n (x : It), wt x ≤ n → P x from H _ x (Nat.le_refl _)
  intro n
  induction n with
  | zero => intro x hx; have := wt_pos x; omega
  | succ n ih =>
    intro x hx
    refine h x fun y hy => ih y ?_
    have := wt_mem hy
    rw [wt_eq] at hx
    omega

/-- It is of a kind, and has nothing that this kind doesn't have. -/
def formed (x : It) : Bool :=
  if x.kind = 0 then decide (x.str.size = 0) && decide (x.kids.length = 0) else if x.kind = 1 then decide (x.num = 0) && decide (x.kids.length = 0)
  else if x.kind = 2 then decide (x.num = 0) && decide (x.str.size = 0) else false

mutual
/-- What is wrong with it, nested so deep, but for its length. -/
def chk : It → Nat → Nat
  | .mk k n s l, d => if formed (.mk k n s l) = false then 4 else if 15 < d then 12 else chks l (d + 1)
def chks : List It → Nat → Nat
  | [], _ => 0
  | x :: r, d => if chk x d = 0 then chks r d else chk x d
end
theorem chk_eq (x : It) (d : Nat) : chk x d = if formed x = false then 4 else if 15 < d then 12 else chks x.kids (d + 1) := by cases x; simp [chk, It.kids]
theorem chks_append (a b : List It) (d : Nat) : chks (a ++ b) d = if chks a d = 0 then chks b d else chks a d := by
  induction a with
  | nil => simp [chks]
  | cons x a ih => simp only [List.cons_append, chks, ih]; split <;> simp_all
theorem chks_one (x : It) (d : Nat) : chks [x] d = chk x d := by simp only [chks]; split <;> simp_all
theorem chks_zero {l : List It} {d : Nat} : chks l d = 0 ↔ ∀ x ∈ l, chk x d = 0 := by
  induction l with
  | nil => simp [chks]
  | cons y l ih =>
    simp only [chks, List.mem_cons, forall_eq_or_imp]
    split
    · simp_all
    · simp_all

mutual
/-- The form of an item. -/
def form : It → List Nat
  | .mk k n s l => if k = 0 then 0 :: Num.put n else if k = 1 then 1 :: (Num.put s.size ++ bts s) else 2 :: (Num.put l.length ++ forms l)
def forms : List It → List Nat
  | [] => []
  | x :: r => form x ++ forms r
end
theorem forms_append (a b : List It) : forms (a ++ b) = forms a ++ forms b := by
  induction a with
  | nil => simp [forms]
  | cons x a ih => simp [forms, ih]
theorem forms_one (x : It) : forms [x] = form x := by simp [forms]
theorem form0 {x : It} (h : x.kind = 0) : form x = 0 :: Num.put x.num := by cases x; simp [It.kind] at h; simp [form, h, It.num]
theorem form1 {x : It} (h : x.kind = 1) : form x = 1 :: (Num.put x.str.size ++ bts x.str) := by cases x; simp [It.kind] at h; simp [form, h, It.str]
theorem form2 {x : It} (h : x.kind = 2) : form x = 2 :: (Num.put x.kids.length ++ forms x.kids) := by cases x; simp [It.kind] at h; simp [form, h, It.kids]

theorem length_form_pos (x : It) : 2 ≤ (form x).length := by
  cases x with
  | mk k n s l =>
    simp only [form]
    have a := Num.size_pos n
    have b := Num.size_pos s.size
    have c := Num.size_pos l.length
    split
    · simp [Num.length_put]; omega
    · split <;> simp [Num.length_put] <;> omega
theorem length_forms (l : List It) : l.length ≤ (forms l).length := by
  induction l with
  | nil => simp
  | cons x l ih => have := length_form_pos x; simp [forms]; omega

/-- Numbers and lengths are such as memory can hold. -/
def Fit (x : It) : Prop := x.num < 2 ^ 64 ∧ x.str.size < 2 ^ 63 ∧ x.kids.length < 2 ^ 63 ∧ ∀ y, y ∈ x.kids → Fit y
termination_by wt x
decreasing_by
  rename_i h
  have := wt_mem h
  rw [wt_eq x]
  omega
theorem fit_eq (x : It) : Fit x ↔ x.num < 2 ^ 64 ∧ x.str.size < 2 ^ 63 ∧ x.kids.length < 2 ^ 63 ∧ ∀ y, y ∈ x.kids → Fit y := by
  conv => lhs; unfold Fit

mutual
theorem length_form_le : ∀ (x : It), Fit x → (form x).length ≤ 10 * wt x
  | .mk k n s l, hf => by
    rw [fit_eq] at hf
    simp only [It.num, It.str, It.kids] at hf
    have a := Num.size_le n hf.1
    have b := Num.size_le s.size (by omega)
    have c := Num.size_le l.length (by omega)
    have d := length_forms_le l hf.2.2.2
    simp only [form, wt]
    split
    · simp [Num.length_put]; omega
    · split <;> simp [Num.length_put, length_bts] <;> omega
theorem length_forms_le : ∀ (l : List It), (∀ y, y ∈ l → Fit y) → (forms l).length ≤ 10 * wts l
  | [], _ => by simp [forms]
  | x :: r, hf => by
    have a := length_form_le x (hf x (by simp))
    have b := length_forms_le r fun y hy => hf y (by simp [hy])
    simp [forms, wts]; omega
end
/-- What reading comes to: an error and its place, or a thing and the place behind it. -/
inductive Res (α : Type) where
  | bad (e p : Nat)
  | ok (x : α) (p : Nat)

/-- So many, one behind the other. -/
def rows (f : Nat → Res It) : Nat → Nat → Res (List It)
  | 0, p => .ok [] p
  | k + 1, p => match rows f k p with
    | .bad e q => .bad e q
    | .ok xs q => match f q with
      | .bad e q' => .bad e q'
      | .ok x q' => .ok (xs ++ [x]) q'

/-- What stands behind a kind and a number that can be read. -/
def body (b : List Nat) (f : Nat → Res It) (kind v q : Nat) : Res It :=
  if kind = 0 then .ok (.mk 0 v ByteArray.empty []) q
  else if b.length - q < v then .bad 2 q
  else if kind = 1 then .ok (.mk 1 0 (txt ((b.drop q).take v)) []) (q + v)
  else match rows f v q with
    | .bad e q' => .bad e q'
    | .ok xs q' => .ok (.mk 2 0 ByteArray.empty xs) q'

/-- The item that begins at a place; f: the items of its list. -/
def one (b : List Nat) (f : Nat → Res It) (p : Nat) : Res It :=
  if 2 < b.getD p 0 then .bad 4 p
  else if (Num.take (b.drop (p + 1))).2.2 ≠ 0 then .bad (Num.take (b.drop (p + 1))).2.2 (p + 1)
  else body b f (b.getD p 0) (Num.take (b.drop (p + 1))).1 (p + 1 + (Num.take (b.drop (p + 1))).2.1)

/-- The item that begins at a place, nested so that there may be r lists more around what is in it. -/
def tk (b : List Nat) : Nat → Nat → Res It
  | 0, p => if b.length ≤ p then .bad 2 p else .bad 12 p
  | r + 1, p => if b.length ≤ p then .bad 2 p else one b (tk b r) p

/-- All bytes. -/
def get (b : List Nat) : Res It :=
  if 1048576 < b.length then .bad 12 0 else match tk b 16 0 with
    | .bad e p => .bad e p
    | .ok x q => if q < b.length then .bad 3 q else .ok x 0

theorem rows_cons (f : Nat → Res It) (k p : Nat) : rows f (k + 1) p = match f p with
    | .bad e q => .bad e q
    | .ok x q => match rows f k q with
      | .bad e q' => .bad e q'
      | .ok xs q' => .ok (x :: xs) q' := by
  induction k with
  | zero => simp only [rows]; cases f p <;> simp
  | succ k ih =>
    rw [rows, ih]
    cases hp : f p with
    | bad e q => simp
    | ok x q =>
      simp only
      rw [rows]
      cases rows f k q with
      | bad e q' => simp
      | ok xs q' =>
        simp only
        cases f q' <;> simp

theorem rows_bad (f : Nat → Res It) (k p e q : Nat) (h : rows f k p = .bad e q) : ∀ m, rows f (k + m) p = .bad e q
  | 0 => h
  | m + 1 => by rw [← Nat.add_assoc, rows, rows_bad f k p e q h m]

/-- The list of items that lies in bytes one behind the other is read. -/
theorem rows_forms {b : List Nat} {f : Nat → Res It} (l : List It) (hf : ∀ x ∈ l, ∀ p suf, b.drop p = form x ++ suf → f p = .ok x (p + (form x).length)) :
    ∀ p suf, b.drop p = forms l ++ suf → rows f l.length p = .ok l (p + (forms l).length) := by
  induction l with
  | nil => intro p suf _; simp [rows, forms]
  | cons x l ih =>
    intro p suf h
    simp only [forms, List.append_assoc] at h
    have h1 := hf x (by simp) p _ h
    have h2 := ih (fun y hy => hf y (by simp [hy])) (p + (form x).length) suf (by
      rw [← List.drop_drop, h, List.drop_left])
    rw [List.length_cons, rows_cons, h1]
    simp only [h2]
    simp [forms, Nat.add_assoc]

theorem drop_cons_facts {b : List Nat} {p k : Nat} {r : List Nat} (h : b.drop p = k :: r) : p < b.length ∧ b.getD p 0 = k ∧ b.drop (p + 1) = r := by
  have hl : p < b.length := by
    rcases Nat.lt_or_ge p b.length with hlt | hge
    · exact hlt
    · rw [List.drop_of_length_le hge] at h; cases h
  rw [List.drop_eq_getElem_cons hl] at h
  injection h with h1 h2
  exact ⟨hl, by simp [List.getD, List.getElem?_eq_getElem hl, h1], h2⟩

theorem formed_cases {x : It} (h : formed x ≠ false) : (∃ n, x = .mk 0 n ByteArray.empty []) ∨ (∃ s, x = .mk 1 0 s []) ∨ (∃ l, x = .mk 2 0 ByteArray.empty l) := by
  rw [ne_eq, Bool.not_eq_false] at h
  unfold formed at h
  by_cases hk : x.kind = 0
  · rw [if_pos hk] at h
    simp only [Bool.and_eq_true, decide_eq_true_eq, List.length_eq_zero_iff] at h
    obtain ⟨k, n, s, l⟩ := x
    simp only [It.kind, It.str, It.kids] at hk h
    left
    exact ⟨n, by rw [hk, (size_zero s).1 h.1, h.2]⟩
  · rw [if_neg hk] at h
    by_cases hk1 : x.kind = 1
    · rw [if_pos hk1] at h
      simp only [Bool.and_eq_true, decide_eq_true_eq, List.length_eq_zero_iff] at h
      obtain ⟨k, n, s, l⟩ := x
      simp only [It.kind, It.num, It.kids] at hk1 h
      right; left
      exact ⟨s, by rw [hk1, h.1, h.2]⟩
    · rw [if_neg hk1] at h
      by_cases hk2 : x.kind = 2
      · rw [if_pos hk2] at h
        simp only [Bool.and_eq_true, decide_eq_true_eq] at h
        obtain ⟨k, n, s, l⟩ := x
        simp only [It.kind, It.num, It.str] at hk2 h
        right; right
        exact ⟨l, by rw [hk2, h.1, (size_zero s).1 h.2]⟩
      · rw [if_neg hk2] at h
        cases h

/-- The head of a form is read. -/
theorem tk_head {b : List Nat} {p k v r : Nat} {rest : List Nat} (h : b.drop p = k :: (Num.put v ++ rest)) (hk : k ≤ 2) (hv : v < 2 ^ 64) :
    tk b (r + 1) p = body b (tk b r) k v (p + 1 + Num.size v) ∧ b.drop (p + 1 + Num.size v) = rest ∧ b.length - (p + 1 + Num.size v) = rest.length := by
  obtain ⟨hlt, hg, hdr⟩ := drop_cons_facts h
  have e : b.drop (p + 1 + Num.size v) = rest := by rw [← List.drop_drop, hdr, ← Num.length_put, List.drop_left]
  refine ⟨?_, e, by have := congrArg List.length e; simpa using this⟩
  rw [tk, if_neg (by omega), one, hg, hdr, Num.take_put v hv, if_neg (by omega), if_neg (by simp)]

theorem wt_le_form (x : It) : ∀ d, chk x d = 0 → wt x ≤ (form x).length := by
  induction x using It.ind with
  | h x ih =>
  intro d h
  rw [chk_eq] at h
  split at h
  · omega
  rename_i hf
  split at h
  · omega
  have hz := chks_zero.1 h
  have hl : wts x.kids ≤ (forms x.kids).length := by
    clear h hf
    generalize x.kids = l at ih hz
    induction l with
    | nil => simp [wts]
    | cons y l ihl =>
      have a := ih y (by simp) (d + 1) (hz y (by simp))
      have b := ihl (fun x hx => ih x (by simp [hx])) (fun x hx => hz x (by simp [hx]))
      simp [wts, forms]; omega
  rcases formed_cases hf with ⟨n, rfl⟩ | ⟨s, rfl⟩ | ⟨l, rfl⟩ <;> simp only [It.kids, wt, form, wts, forms] at hl ⊢
  · have := Num.size_pos n
    simp [Num.length_put]
    try omega
  · have := Num.size_pos s.size
    simp [Num.length_put, length_bts]
    try omega
  · have := Num.size_pos l.length
    simp [Num.length_put]
    try omega

/-- WHAT IS PUT IS READ AS IT WAS, whatever stands behind. -/
theorem tk_form (x : It) : ∀ (b : List Nat) (r d p : Nat) (suf : List Nat), chk x d = 0 → Fit x → r + d = 16 → b.drop p = form x ++ suf → tk b r p = .ok x (p + (form x).length) := by
  induction x using It.ind with
  | h x ih =>
  intro b r d p suf hc hfit hr hb
  rw [chk_eq] at hc
  split at hc
  · omega
  rename_i hfo
  split at hc
  · omega
  obtain ⟨r, rfl⟩ : ∃ r', r = r' + 1 := ⟨r - 1, by omega⟩
  have hkid := chks_zero.1 hc
  rw [fit_eq] at hfit
  obtain ⟨hf1, hf2, hf3, hf4⟩ := hfit
  rcases formed_cases hfo with ⟨n, rfl⟩ | ⟨s, rfl⟩ | ⟨l, rfl⟩ <;> simp only [It.num, It.str, It.kids] at hf1 hf2 hf3 hf4 ih hkid
  · rw [form0 rfl] at hb ⊢
    simp only [It.num, List.cons_append] at hb ⊢
    obtain ⟨h1, h2, h3⟩ := tk_head (r := r) hb (by omega) hf1
    rw [h1, body, if_pos rfl]
    simp [Num.length_put]; omega
  · rw [form1 rfl] at hb ⊢
    simp only [It.str, List.cons_append, List.append_assoc] at hb ⊢
    obtain ⟨h1, h2, h3⟩ := tk_head (r := r) hb (by omega) (show s.size < 2 ^ 64 by omega)
    rw [List.length_append, length_bts] at h3
    rw [h1, body, if_neg (by omega), if_neg (by omega), if_pos rfl, h2, ← length_bts s, List.take_left, txt_bts]
    simp [Num.length_put, length_bts]; omega
  · rw [form2 rfl] at hb ⊢
    simp only [It.kids, List.cons_append, List.append_assoc] at hb ⊢
    obtain ⟨h1, h2, h3⟩ := tk_head (r := r) hb (by omega) (show l.length < 2 ^ 64 by omega)
    rw [List.length_append] at h3
    have hle := length_forms l
    rw [h1, body, if_neg (by omega), if_neg (by omega), if_neg (by omega)]
    rw [rows_forms l (fun x hx p suf h => ih x hx b r (d + 1) p suf (hkid x hx) (hf4 x hx) (by omega) h) _ _ h2]
    simp [Num.length_put]; omega

/-- The list of items that is cut off is short. -/
theorem rows_cut {b : List Nat} {f : Nat → Res It} (l : List It) (hf : ∀ x ∈ l, ∀ p suf, b.drop p = form x ++ suf → f p = .ok x (p + (form x).length))
    (hc : ∀ x ∈ l, ∀ p j, p ≤ b.length → j < (form x).length → b.drop p = (form x).take j → ∃ q, f p = .bad 2 q) :
    ∀ p j, p ≤ b.length → j < (forms l).length → b.drop p = (forms l).take j → ∃ q, rows f l.length p = .bad 2 q := by
  induction l with
  | nil => intro p j _ h; simp [forms] at h
  | cons x l ih =>
    intro p j hp hj h
    simp only [forms] at h hj
    rw [List.length_cons, rows_cons]
    by_cases hjx : j < (form x).length
    · rw [List.take_append_of_le_length (by omega)] at h
      obtain ⟨q, hq⟩ := hc x (by simp) p j hp hjx h
      exact ⟨q, by rw [hq]⟩
    · rw [List.take_append, List.take_of_length_le (by omega)] at h
      have h1 := hf x (by simp) p _ h
      have hl := congrArg List.length h
      simp only [List.length_drop, List.length_append, List.length_take] at hl
      obtain ⟨q, hq⟩ := ih (fun y hy => hf y (by simp [hy])) (fun y hy => hc y (by simp [hy])) (p + (form x).length) (j - (form x).length) (by omega)
        (by simp only [List.length_append] at hj; omega) (by rw [← List.drop_drop, h, List.drop_left])
      exact ⟨q, by rw [h1]; simp only [hq]⟩

/-- The head of a form, cut off. -/
theorem tk_head_cut {b : List Nat} {p k v r j : Nat} {rest : List Nat} (hp : p ≤ b.length) (h : b.drop p = (k :: (Num.put v ++ rest)).take j) (hk : k ≤ 2) (hv : v < 2 ^ 64) :
    (∃ q, tk b (r + 1) p = .bad 2 q) ∨ (1 + Num.size v ≤ j ∧ tk b (r + 1) p = body b (tk b r) k v (p + 1 + Num.size v) ∧ b.drop (p + 1 + Num.size v) = rest.take (j - (1 + Num.size v)) ∧
      b.length - (p + 1 + Num.size v) = (rest.take (j - (1 + Num.size v))).length ∧ p + 1 + Num.size v ≤ b.length) := by
  rcases Nat.eq_zero_or_pos j with h0 | h0
  · subst h0
    have : b.length ≤ p := by
      have := congrArg List.length h
      simp at this; omega
    left
    exact ⟨p, by rw [tk, if_pos this]⟩
  · obtain ⟨i, rfl⟩ : ∃ i, j = i + 1 := ⟨j - 1, by omega⟩
    rw [List.take_succ_cons] at h
    by_cases hi : i < Num.size v
    · left
      obtain ⟨hlt, hg, hdr⟩ := drop_cons_facts h
      rw [List.take_append_of_le_length (by rw [Num.length_put]; omega)] at hdr
      refine ⟨p + 1, ?_⟩
      rw [tk, if_neg (by omega), one, hg, hdr, Num.take_cut v hv i hi, if_neg (by omega), if_pos (by simp)]
    · right
      rw [List.take_append, List.take_of_length_le (by rw [Num.length_put]; omega), Num.length_put] at h
      obtain ⟨h1, h2, h3⟩ := tk_head (r := r) h hk hv
      have e : i + 1 - (1 + Num.size v) = i - Num.size v := by omega
      rw [e]
      have hl := congrArg List.length h
      simp only [List.length_drop, List.length_cons, List.length_append, Num.length_put] at hl
      exact ⟨by omega, h1, h2, h3, by omega⟩

/-- CUT OFF IT IS SHORT. -/
theorem tk_cut (x : It) : ∀ (b : List Nat) (r d p j : Nat), chk x d = 0 → Fit x → r + d = 16 → p ≤ b.length → j < (form x).length → b.drop p = (form x).take j → ∃ q, tk b r p = .bad 2 q := by
  induction x using It.ind with
  | h x ih =>
  intro b r d p j hc hfit hr hp hj hb
  rw [chk_eq] at hc
  split at hc
  · omega
  rename_i hfo
  split at hc
  · omega
  obtain ⟨r, rfl⟩ : ∃ r', r = r' + 1 := ⟨r - 1, by omega⟩
  have hkid := chks_zero.1 hc
  rw [fit_eq] at hfit
  obtain ⟨hf1, hf2, hf3, hf4⟩ := hfit
  rcases formed_cases hfo with ⟨n, rfl⟩ | ⟨s, rfl⟩ | ⟨l, rfl⟩ <;> simp only [It.num, It.str, It.kids] at hf1 hf2 hf3 hf4 ih hkid
  · rw [form0 rfl] at hb hj
    simp only [It.num] at hb hj
    rw [← List.append_nil (Num.put n)] at hb
    rcases tk_head_cut (r := r) hp hb (by omega) hf1 with h | ⟨h1, _⟩
    · exact h
    · simp [Num.length_put] at hj; omega
  · rw [form1 rfl] at hb hj
    simp only [It.str] at hb hj
    rcases tk_head_cut (r := r) hp hb (by omega) (show s.size < 2 ^ 64 by omega) with h | ⟨h1, h2, h3, h4, h5⟩
    · exact h
    · simp only [List.length_cons, List.length_append, Num.length_put, length_bts] at hj
      rw [List.length_take, length_bts] at h4
      exact ⟨_, by rw [h2, body, if_neg (by omega), if_pos (by omega)]⟩
  · rw [form2 rfl] at hb hj
    simp only [It.kids] at hb hj
    rcases tk_head_cut (r := r) hp hb (by omega) (show l.length < 2 ^ 64 by omega) with h | ⟨h1, h2, h3, h4, h5⟩
    · exact h
    · simp only [List.length_cons, List.length_append, Num.length_put] at hj
      rw [List.length_take] at h4
      by_cases hs : b.length - (p + 1 + Num.size l.length) < l.length
      · exact ⟨_, by rw [h2, body, if_neg (by omega), if_pos hs]⟩
      · obtain ⟨q, hq⟩ := rows_cut l (f := tk b r) (fun x hx p suf h => tk_form x b r (d + 1) p suf (hkid x hx) (hf4 x hx) (by omega) h)
          (fun x hx p j hp hj h => ih x hx b r (d + 1) p j (hkid x hx) (hf4 x hx) (by omega) hp hj h) _ _ h5 (by omega) h3
        exact ⟨q, by rw [h2, body, if_neg (by omega), if_neg hs, if_neg (by omega), hq]⟩

/-- What a number's bytes are, where they are read. -/
theorem take_ok (l : List Nat) (hb : ∀ x ∈ l, x < 256) (h : (Num.take l).2.2 = 0) :
    Num.put (Num.take l).1 = l.take (Num.take l).2.1 ∧ (Num.take l).2.1 = Num.size (Num.take l).1 ∧ (Num.take l).2.1 ≤ l.length ∧ (Num.take l).1 < 2 ^ 64 := by
  cases l with
  | nil => simp [Num.take] at h
  | cons b r =>
    have hb0 := hb b (by simp)
    have hr : ∀ x ∈ r, x < 256 := fun x hx => hb x (by simp [hx])
    by_cases h1 : b < 248
    · have e : Num.take (b :: r) = (b, 1, 0) := by simp [Num.take, h1]
      rw [e]
      simp [Num.put, Num.size, h1]
      omega
    · by_cases h2 : r.length < b - 247
      · have e : Num.take (b :: r) = (0, 0, 2) := by simp [Num.take, h1, h2]
        rw [e] at h; cases h
      · by_cases h3 : Num.size (Num.val (r.take (b - 247))) = 1 + (b - 247)
        · have e : Num.take (b :: r) = (Num.val (r.take (b - 247)), 1 + (b - 247), 0) := by
            simp only [Num.take, if_neg h1, if_neg h2]
            rw [if_neg (by simpa using h3)]
          simp only [e]
          have hps := (Num.put_same b r (by omega) hb0 (by omega) hr).2 h3
          have hlr : 1 + (b - 247) ≤ (b :: r).length := by rw [List.length_cons]; omega
          refine ⟨hps, h3.symm, hlr, ?_⟩
          clear hps h3 e
          show Num.val (r.take (b - 247)) < 2 ^ 64
          have hv := Num.take_val_lt r (b - 247) hr
          have h8 : 256 ^ (r.take (b - 247)).length ≤ 256 ^ 8 := Nat.pow_le_pow_right (by omega) (by rw [List.length_take]; omega)
          have e8 : (2 : Nat) ^ 64 = 256 ^ 8 := by decide
          rw [e8]
          exact Nat.lt_of_lt_of_le hv h8
        · have e : Num.take (b :: r) = (0, 0, 4) := by
            simp only [Num.take, if_neg h1, if_neg h2]
            rw [if_pos (by simpa using h3)]
          rw [e] at h; cases h

/-- What lies in bytes from one place to another. -/
def seg (b : List Nat) (p q : Nat) : List Nat := (b.drop p).take (q - p)
theorem seg_append (b : List Nat) {p q r : Nat} (h1 : p ≤ q) (h2 : q ≤ r) : seg b p q ++ seg b q r = seg b p r := by
  unfold seg
  rw [show r - p = (q - p) + (r - q) by omega, List.take_add, List.drop_drop, show p + (q - p) = q by omega]
theorem seg_self (b : List Nat) (p : Nat) : seg b p p = [] := by simp [seg]
theorem seg_one (b : List Nat) {p : Nat} (h : p < b.length) : seg b p (p + 1) = [b.getD p 0] := by
  simp only [seg, show p + 1 - p = 1 by omega]
  rw [List.drop_eq_getElem_cons h, List.take_succ_cons, List.take_zero, List.getD, List.getElem?_eq_getElem h]
  rfl

/-- What is read at a place is right, and is put as it was. -/
def Good (b : List Nat) (d p : Nat) (x : It) (q : Nat) : Prop := chk x d = 0 ∧ Fit x ∧ p < q ∧ q ≤ b.length ∧ form x = seg b p q

theorem rows_good {b : List Nat} {f : Nat → Res It} {d : Nat} (hf : ∀ p x q, f p = .ok x q → Good b d p x q) : ∀ k p xs q, p ≤ b.length → rows f k p = .ok xs q →
    xs.length = k ∧ chks xs d = 0 ∧ (∀ y, y ∈ xs → Fit y) ∧ p ≤ q ∧ q ≤ b.length ∧ forms xs = seg b p q := by
  intro k
  induction k with
  | zero =>
    intro p xs q hp h
    simp only [rows] at h
    injection h with h1 h2
    subst h1; subst h2
    exact ⟨rfl, rfl, by simp, Nat.le_refl _, hp, by simp [forms, seg_self]⟩
  | succ k ih =>
    intro p xs q hp h
    rw [rows] at h
    cases hr : rows f k p with
    | bad e q' => rw [hr] at h; cases h
    | ok ys q1 =>
      rw [hr] at h
      simp only at h
      cases hq : f q1 with
      | bad e q' => rw [hq] at h; cases h
      | ok y q2 =>
        rw [hq] at h
        simp only at h
        injection h with h1 h2
        subst h1; subst h2
        obtain ⟨a1, a2, a3, a4, a5, a6⟩ := ih p ys q1 hp hr
        obtain ⟨b1, b2, b3, b4, b5⟩ := hf q1 y q2 hq
        refine ⟨by simp [a1], by rw [chks_append, if_pos a2, chks_one, b1], ?_, by omega, b4, ?_⟩
        · intro z hz
          rcases List.mem_append.1 hz with hz | hz
          · exact a3 z hz
          · rw [List.mem_singleton.1 hz]; exact b2
        · rw [forms_append, forms_one, a6, b5, seg_append b a4 (by omega)]

/-- WHAT IS READ IS PUT AS IT WAS. -/
theorem tk_good {b : List Nat} (hb : ∀ x ∈ b, x < 256) (hl : b.length < 2 ^ 63) : ∀ r p x q, r ≤ 16 → tk b r p = .ok x q → Good b (16 - r) p x q := by
  intro r
  induction r with
  | zero =>
    intro p x q _ h
    rw [tk] at h
    split at h <;> cases h
  | succ r ih =>
    intro p x q hr h
    rw [tk] at h
    split at h
    · cases h
    rename_i hp
    rw [one] at h
    split at h
    · cases h
    rename_i hk
    split at h
    · cases h
    rename_i hn
    obtain ⟨t1, t2, t3, t4⟩ := take_ok (b.drop (p + 1)) (fun x hx => hb x (List.mem_of_mem_drop hx)) (by simpa using hn)
    have t5 := Num.size_pos (Num.take (b.drop (p + 1))).1
    rw [List.length_drop] at t3
    rw [t2] at t1 t3 h
    generalize (Num.take (b.drop (p + 1))).1 = v at *
    have hseg : seg b p (p + 1 + Num.size v) = b.getD p 0 :: Num.put v := by
      rw [← seg_append b (show p ≤ p + 1 by omega) (show p + 1 ≤ p + 1 + Num.size v by omega), seg_one b (by omega), t1, seg, show p + 1 + Num.size v - (p + 1) = Num.size v by omega]
      rfl
    have h16 : 16 - r = 16 - (r + 1) + 1 := by omega
    rw [body] at h
    split at h
    · rename_i h0
      injection h with h1 h2
      subst h1; subst h2
      refine ⟨?_, ?_, by omega, by omega, ?_⟩
      · rw [chk_eq]
        simp [formed, It.kind, It.str, It.kids, chks]
      · rw [fit_eq]; simp [It.num, It.str, It.kids]; omega
      · rw [hseg, h0, form0 rfl]; rfl
    · split at h
      · cases h
      rename_i h0 hs
      split at h
      · rename_i h1
        injection h with h2 h3
        subst h2; subst h3
        have hlen : ((b.drop (p + 1 + Num.size v)).take v).length = v := by rw [List.length_take, List.length_drop]; omega
        refine ⟨?_, ?_, by omega, by omega, ?_⟩
        · rw [chk_eq]
          simp [formed, It.kind, It.num, It.kids, chks]
        · rw [fit_eq]; simp [It.num, It.str, It.kids, size_txt, -List.length_take, hlen]; omega
        · rw [form1 rfl, ← seg_append b (show p ≤ p + 1 + Num.size v by omega) (Nat.le_add_right _ v), hseg, h1]
          simp only [It.str, size_txt, hlen]
          rw [bts_txt _ (fun x hx => hb x (List.mem_of_mem_drop (List.mem_of_mem_take hx)))]
          simp [seg, show p + 1 + Num.size v + v - (p + 1 + Num.size v) = v by omega]
      · rename_i h1
        cases hrw : rows (tk b r) v (p + 1 + Num.size v) with
        | bad e q' => rw [hrw] at h; cases h
        | ok xs q' =>
          rw [hrw] at h
          simp only at h
          injection h with h2 h3
          subst h2; subst h3
          obtain ⟨a1, a2, a3, a4, a5, a6⟩ := rows_good (d := 16 - r) (fun p x q h => ih p x q (by omega) h) v _ _ _ (by omega) hrw
          refine ⟨?_, ?_, by omega, a5, ?_⟩
          · rw [chk_eq]
            simp only [It.kids]
            rw [if_neg (by simp [formed, It.kind, It.num, It.str]), if_neg (by omega), ← h16, a2]
          · rw [fit_eq]
            simp only [It.num, It.str, It.kids, a1]
            exact ⟨by omega, by show (0 : Nat) < _; omega, by omega, a3⟩
          · rw [form2 rfl, ← seg_append b (show p ≤ p + 1 + Num.size v by omega) a4, hseg]
            have : b.getD p 0 = 2 := by omega
            rw [this]
            simp only [It.kids, a1, a6]
            rfl

/-- Two right items with one form are the same. -/
theorem form_inj {x y : It} (hx : chk x 0 = 0) (hy : chk y 0 = 0) (fx : Fit x) (fy : Fit y) (h : form x = form y) : x = y := by
  have h1 := tk_form x (form x) 16 0 0 [] hx fx rfl (by simp)
  have h2 := tk_form y (form x) 16 0 0 [] hy fy rfl (by simp [h])
  rw [h1] at h2
  injection h2

theorem get_form {x : It} (hx : chk x 0 = 0) (fx : Fit x) (hl : (form x).length ≤ 1048576) : get (form x) = .ok x 0 := by
  have h1 := tk_form x (form x) 16 0 0 [] hx fx rfl (by simp)
  rw [get, if_neg (by omega), h1]
  simp
theorem get_cut {x : It} {j : Nat} (hx : chk x 0 = 0) (fx : Fit x) (hl : (form x).length ≤ 1048576) (hj : j < (form x).length) : ∃ q, get ((form x).take j) = .bad 2 q := by
  obtain ⟨q, hq⟩ := tk_cut x ((form x).take j) 16 0 0 j hx fx rfl (Nat.zero_le _) hj (by simp)
  exact ⟨q, by rw [get, if_neg (by rw [List.length_take]; omega), hq]⟩
theorem get_more {x : It} {c : Nat} (hx : chk x 0 = 0) (fx : Fit x) (hl : (form x).length < 1048576) : get (form x ++ [c]) = .bad 3 (form x).length := by
  have h1 := tk_form x (form x ++ [c]) 16 0 0 [c] hx fx rfl (by simp)
  rw [get, if_neg (by simp; omega), h1]
  simp
theorem get_good {b : List Nat} {x : It} {q : Nat} (hb : ∀ x ∈ b, x < 256) (h : get b = .ok x q) : chk x 0 = 0 ∧ Fit x ∧ form x = b := by
  rw [get] at h
  split at h
  · cases h
  rename_i hl
  cases ht : tk b 16 0 with
  | bad e p => rw [ht] at h; cases h
  | ok y p =>
    rw [ht] at h
    simp only at h
    split at h
    · cases h
    · rename_i hp
      injection h with h1 h2
      subst h1
      obtain ⟨a1, a2, a3, a4, a5⟩ := tk_good hb (by omega) 16 0 y p (by omega) ht
      refine ⟨a1, a2, ?_⟩
      rw [a5, seg, List.drop_zero, List.take_of_length_le (by omega)]

mutual
/-- The same items? -/
def same : It → It → Bool
  | .mk k n s l, .mk k' n' s' l' => decide (k = k') && decide (n = n') && decide (s = s') && sames l l'
def sames : List It → List It → Bool
  | [], [] => true
  | x :: r, y :: t => same x y && sames r t
  | _, _ => false
end
theorem same_iff (x : It) : ∀ y, same x y = true ↔ x = y := by
  induction x using It.ind with
  | h x ih =>
  intro y
  obtain ⟨k, n, s, l⟩ := x
  obtain ⟨k', n', s', l'⟩ := y
  have hs : sames l l' = true ↔ l = l' := by
    simp only [It.kids] at ih
    induction l generalizing l' with
    | nil => cases l' <;> simp [sames]
    | cons x l ihl =>
      cases l' with
      | nil => simp [sames]
      | cons y l' => simp [sames, ih x (by simp) y, ihl (fun x hx => ih x (by simp [hx])) l']
  simp [same, hs, and_assoc]

end Go.Proofs.Ytlcggldcofncgaa.Cod
