/-
  Texts of earlier layers, as one.
-/
import Derived.Lib.BitFns
import Derived.Test.YthlhchaoedcdbaaGreatDoorRBase
import Derived.Deep.AppendLies
import Derived.Test.YthlhchaoedcdbaaGreatDoorProg
import Derived.Laws.Cover3
import Derived.Deep.LoopGhost
import Derived.Deep.Slices
import Derived.Deep.Fields
import Derived.ChangeSame
import Derived.SizedLaws
/- Plain mathematics of layer 1 (num), without any program: the form of a number as a list of bytes, and how it is read back. Every fact is for numbers below 2^64 where it says so. -/
namespace Go.Proofs.YthlhchaoedcdbaaGreatDoor.Num
open Lib (hid)
def nby (v : Nat) : Nat := (Lib.bitLen v + 7) / 8
def size (v : Nat) : Nat := if v < 248 then 1 else 1 + nby v
def beTo (k v i : Nat) : List Nat := (List.range i).map fun j => v / 256 ^ (k - 1 - j) % 256
def put (v : Nat) : List Nat := if v < 248 then [v] else (247 + nby v) :: beTo (nby v) v (nby v)
def val (l : List Nat) : Nat := l.foldl (fun a b => a * 256 + b) 0
def take (l : List Nat) : Nat × Nat × Nat :=
 match l with
 | [] => (0, 0, 2)
 | b :: r => if b < 248 then (b, 1, 0) else if r.length < b - 247 then (0, 0, 2)
   else if size (val (r.take (b - 247))) ≠ 1 + (b - 247) then (0, 0, 4) else (val (r.take (b - 247)), 1 + (b - 247), 0)
theorem bitLen_pos (v : Nat) (h : 1 ≤ v) (hv : v < 2 ^ 64) : 1 ≤ Lib.bitLen v := by
 rw [Lib.bitLen_half v (by omega) hv]; omega
theorem bitLen_lt : ∀ (k v : Nat), v < 2 ^ 64 → Lib.bitLen v ≤ k → v < 2 ^ k
 | 0, v, hv, h => by
   rcases Nat.eq_zero_or_pos v with h0 | h0
   · subst h0; simp
   · have := bitLen_pos v h0 hv; omega
 | k + 1, v, hv, h => by
   rcases Nat.eq_zero_or_pos v with h0 | h0
   · subst h0; exact Nat.two_pow_pos _
   · rw [Lib.bitLen_half v (by omega) hv] at h
     have := bitLen_lt k (v / 2) (by omega) (by omega);rw [Nat.pow_succ]; omega
theorem pow256 (k : Nat) : 256 ^ k = 2 ^ (8 * k) := by rw [Nat.pow_mul]
theorem nby_le (v : Nat) (hv : v < 2 ^ 64) : nby v ≤ 8 := by
 have := Lib.bitLen_le v 64 (by omega) hv;unfold nby; omega
theorem nby_pos (v : Nat) (h : 1 ≤ v) (hv : v < 2 ^ 64) : 1 ≤ nby v := by
 have := bitLen_pos v h hv;unfold nby; omega
theorem lt_nby (v : Nat) (hv : v < 2 ^ 64) : v < 256 ^ nby v := by
 rw [pow256];exact bitLen_lt _ v hv (by unfold nby; omega)
theorem nby_least (v k : Nat) (hk : k ≤ 8) (h : v < 256 ^ k) : nby v ≤ k := by
 rw [pow256] at h;have := Lib.bitLen_le v (8 * k) (by omega) h;unfold nby; omega
theorem nby_eq (v k : Nat) (h1 : 1 ≤ k) (hk : k ≤ 8) (hl : 256 ^ (k - 1) ≤ v) (hv : v < 256 ^ k) : nby v = k := by
 have a := nby_least v k hk hv;have hv64 : v < 2 ^ 64 := Nat.lt_of_lt_of_le hv (by rw [pow256]; exact Nat.pow_le_pow_right (by omega) (by omega));have b := lt_nby v hv64;rcases Nat.lt_or_ge (nby v) k with h | h
 · have : 256 ^ nby v ≤ 256 ^ (k - 1) := Nat.pow_le_pow_right (by omega) (by omega)
   omega
 · omega
theorem length_beTo (k v i : Nat) : (beTo k v i).length = i := by simp [beTo]
theorem beTo_succ (k v i : Nat) : beTo k v (i + 1) = beTo k v i ++ [v / 256 ^ (k - 1 - i) % 256] := by
 simp [beTo, List.range_succ]
theorem beTo_lt (k v i : Nat) : ∀ b ∈ beTo k v i, b < 256 := by
 intro b hb;obtain ⟨j, _, rfl⟩ := List.mem_map.1 hb;exact Nat.mod_lt _ (by omega)
theorem val_snoc (l : List Nat) (b : Nat) : val (l ++ [b]) = val l * 256 + b := by simp [val]
theorem snoc_ind {α : Type} {P : List α → Prop} (h0 : P []) (h1 : ∀ l a, P l → P (l ++ [a])) : ∀ l, P l := by
 intro l;rw [← List.reverse_reverse l];induction l.reverse with
 | nil => exact h0
 | cons a l ih => rw [List.reverse_cons]; exact h1 _ _ ih
theorem val_lt : ∀ (l : List Nat), (∀ b ∈ l, b < 256) → val l < 256 ^ l.length := by
 refine snoc_ind (fun _ => by simp [val]) ?_
 · intro l b ih h
   have h1 := ih (fun x hx => h x (by simp [hx]));have h2 := h b (by simp);rw [val_snoc, List.length_append, List.length_singleton, Nat.pow_succ];omega
theorem val_beTo (k v : Nat) : ∀ i, i ≤ k → val (beTo k v i) = v / 256 ^ (k - i) % 256 ^ i
 | 0, _ => by simp [beTo, val, Nat.mod_one]
 | i + 1, h => by
   rw [beTo_succ, val_snoc, val_beTo k v i (by omega)];have e : k - i = (k - (i + 1)) + 1 := (by omega);have e2 : k - 1 - i = k - (i + 1) := (by omega);rw [e, e2, Nat.pow_succ, ← Nat.div_div_eq_div_mul, Nat.pow_succ, Nat.mul_comm (256 ^ i) 256, Nat.mod_mul];omega
theorem val_be (k v : Nat) (h : v < 256 ^ k) : val (beTo k v k) = v := by
 rw [val_beTo k v k (Nat.le_refl _)];simp [Nat.mod_eq_of_lt h]
theorem length_put (v : Nat) : (put v).length = size v := by
 unfold put size;split
 · rfl
 · simp [length_beTo]; omega
theorem size_pos (v : Nat) : 1 ≤ size v := by unfold size; split <;> omega
theorem size_le (v : Nat) (hv : v < 2 ^ 64) : size v ≤ 9 := by
 have := nby_le v hv;unfold size; split <;> omega
theorem put_lt (v : Nat) (hv : v < 2 ^ 64) : ∀ b ∈ put v, b < 256 := by
 have := nby_le v hv;intro b hb;unfold put at hb;split at hb
 · simp at hb; omega
 · rcases List.mem_cons.1 hb with h | h
   · omega
   · exact beTo_lt _ _ _ b h
theorem take_put (v : Nat) (hv : v < 2 ^ 64) (r : List Nat) : take (put v ++ r) = (v, size v, 0) := by
 unfold put;by_cases h : v < 248
 · simp [take, h, size]
 · have h1 := nby_pos v (by omega) hv
   have h2 := nby_le v hv
   have e : (beTo (nby v) v (nby v) ++ r).take (nby v) = beTo (nby v) v (nby v) := by
    rw [List.take_append_of_le_length (by rw [length_beTo]; exact Nat.le_refl _), List.take_of_length_le (by rw [length_beTo]; exact Nat.le_refl _)]
   have e2 : 247 + nby v - 247 = nby v := (by omega);have e3 : ¬ 247 + nby v < 248 := (by omega);have e4 : ¬ (beTo (nby v) v (nby v) ++ r).length < nby v := (by rw [List.length_append, length_beTo]; omega);rw [if_neg h];simp only [List.cons_append, take, if_neg e3, e2, if_neg e4, e, val_be _ _ (lt_nby v hv)];have e5 : size v = 1 + nby v := (by simp [size, h]);rw [if_neg (by simpa using e5), e5]
theorem take_val_lt (r : List Nat) (k : Nat) (h : ∀ b ∈ r, b < 256) : val (r.take k) < 256 ^ (r.take k).length :=
 val_lt _ fun b hb => h b (List.mem_of_mem_take hb)
def digits (v : Nat) : List Nat := if v < 256 then [v] else digits (v / 256) ++ [v % 256]
decreasing_by omega
theorem nby_div (v : Nat) (h : 256 ≤ v) (hv : v < 2 ^ 64) : nby v = nby (v / 256) + 1 := by
 unfold nby;rw [Lib.bitLen_shift8 v h (by omega)];omega
theorem beTo_div (k v : Nat) : ∀ i, i ≤ k → beTo (k + 1) v i = beTo k (v / 256) i
 | 0, _ => rfl
 | i + 1, h => by
   rw [beTo_succ, beTo_succ, beTo_div k v i (by omega)];have e : k + 1 - 1 - i = (k - 1 - i) + 1 := (by omega);rw [e, Nat.pow_succ, Nat.mul_comm, ← Nat.div_div_eq_div_mul]
theorem digits_eq (v : Nat) (h : 1 ≤ v) (hv : v < 2 ^ 64) : digits v = beTo (nby v) v (nby v) := by
 rw [digits];by_cases h2 : v < 256
 · rw [if_pos h2, nby_eq v 1 (by omega) (by omega) (by simpa using h) (by simpa using h2)]
   simp [beTo, List.range_succ];omega
 · rw [if_neg h2, nby_div v (by omega) hv, beTo_succ, beTo_div _ _ _ (Nat.le_refl _), digits_eq (v / 256) (by omega) (by omega)]
   simp
termination_by v
decreasing_by omega
theorem beTo_val : ∀ (l : List Nat), (∀ b ∈ l, b < 256) → beTo l.length (val l) l.length = l := by
 refine snoc_ind (fun _ => rfl) ?_
 · intro l b ih h
   have hb := h b (by simp);have e := ih (fun x hx => h x (by simp [hx]));rw [List.length_append, List.length_singleton, beTo_succ, beTo_div _ _ _ (Nat.le_refl _), val_snoc];have e1 : (val l * 256 + b) / 256 = val l := (by omega);rw [e1, e];simp;omega
theorem put_same (b : Nat) (r : List Nat) (hb : 248 ≤ b) (hb2 : b < 256) (hl : b - 247 ≤ r.length) (h : ∀ x ∈ r, x < 256) :
 (put (val (r.take (b - 247))) = (b :: r).take (1 + (b - 247)) ↔ size (val (r.take (b - 247))) = 1 + (b - 247)) := by
 have hlen : (r.take (b - 247)).length = b - 247 := by rw [List.length_take]; omega
 have hlt : ∀ x ∈ r.take (b - 247), x < 256 := fun x hx => h x (List.mem_of_mem_take hx);have e : (b :: r).take (1 + (b - 247)) = b :: r.take (b - 247) := by rw [Nat.add_comm, List.take_succ_cons]
 rw [e];constructor
 · intro hp
   have := congrArg List.length hp;rw [length_put, List.length_cons, hlen] at this;omega
 · intro hs
   generalize hv : val (r.take (b - 247)) = v at *
   have h248 : ¬ v < 248 := by
    intro h; simp [size, h] at hs; omega
   have hn : nby v = b - 247 := (by simp [size, h248] at hs; omega);rw [put, if_neg h248, hn];have := beTo_val (r.take (b - 247)) hlt;rw [hlen, hv] at this;rw [this, show 247 + (b - 247) = b from by omega]
end Go.Proofs.YthlhchaoedcdbaaGreatDoor.Num
/- Plain mathematics of layer 3 (codec), without any program: items, their forms as lists of bytes, what is wrong with one, and how bytes are read back; what is put is read as it was, what is read is put as it was, cut off it is short. -/
namespace Go.Proofs.YthlhchaoedcdbaaGreatDoor.Cod
open Lib (hid)
inductive It where
 | mk (kind : Int) (n : Nat) (s : ByteArray) (l : List It)
namespace It
def kind : It → Int | mk k _ _ _ => k
def num : It → Nat | mk _ n _ _ => n
def str : It → ByteArray | mk _ _ s _ => s
def kids : It → List It | mk _ _ _ l => l
end It
def bts (s : ByteArray) : List Nat := s.data.toList.map (·.toNat)
def txt (l : List Nat) : ByteArray := ⟨(l.map UInt8.ofNat).toArray⟩
theorem length_bts (s : ByteArray) : (bts s).length = s.size := by simp [bts]
theorem size_txt (l : List Nat) : (txt l).size = l.length := by
 show (txt l).data.size = _;simp [txt]
theorem bts_lt (s : ByteArray) : ∀ b ∈ bts s, b < 256 := by
 intro b hb;obtain ⟨u, _, rfl⟩ := List.mem_map.1 hb;exact u.toNat_lt
theorem txt_bts (s : ByteArray) : txt (bts s) = s := by
 cases s with
 | mk d =>
   have e : ((UInt8.ofNat ∘ fun x : UInt8 => x.toNat) : UInt8 → UInt8) = id := (by funext u; simp [Function.comp]);simp only [txt, bts, List.map_map];rw [e, List.map_id]
theorem bts_txt (l : List Nat) (h : ∀ b ∈ l, b < 256) : bts (txt l) = l := by
 simp only [bts, txt, List.map_map]
 conv => rhs; rw [← List.map_id l]
 refine List.map_congr_left fun b hb => ?_;have := h b hb;simp [Function.comp, UInt8.toNat_ofNat', Nat.mod_eq_of_lt this]
theorem size_zero (s : ByteArray) : s.size = 0 ↔ s = ByteArray.empty := by
 constructor
 · intro h
   have h1 : bts s = [] := List.eq_nil_of_length_eq_zero (by rw [length_bts]; exact h);have h2 := txt_bts s;rw [h1] at h2;rw [← h2];rfl
 · rintro rfl; rfl
mutual
def wt : It → Nat
 | .mk _ _ s l => 1 + s.size + wts l
def wts : List It → Nat
 | [] => 0
 | x :: r => wt x + wts r
end
theorem wts_append (a b : List It) : wts (a ++ b) = wts a + wts b := by
 induction a with
 | nil => simp [wts]
 | cons x a ih => simp [wts, ih]; omega
theorem wts_one (x : It) : wts [x] = wt x := by simp [wts]
theorem wt_pos (x : It) : 1 ≤ wt x := by cases x; simp [wt]; omega
theorem wt_mem {x : It} {l : List It} (h : x ∈ l) : wt x ≤ wts l := by
 induction l with
 | nil => cases h
 | cons y l ih =>
   rcases List.mem_cons.1 h with rfl | h
   · simp [wts]
   · have := ih h; simp [wts]; omega
theorem length_wts (l : List It) : l.length ≤ wts l := by
 induction l with
 | nil => simp
 | cons x l ih => have := wt_pos x; simp [wts]; omega
theorem wt_eq (x : It) : wt x = 1 + x.str.size + wts x.kids := by cases x; simp [wt, It.str, It.kids]
theorem It.ind {P : It → Prop} (h : ∀ x : It, (∀ y ∈ x.kids, P y) → P x) (x : It) : P x := by
 suffices H : ∀ n (x : It), wt x ≤ n → P x from H _ x (Nat.le_refl _)
 intro n;induction n with
 | zero => intro x hx; have := wt_pos x; omega
 | succ n ih =>
   intro x hx;refine h x fun y hy => ih y ?_;have := wt_mem hy;rw [wt_eq] at hx;omega
def formed (x : It) : Bool :=
 if x.kind = 0 then decide (x.str.size = 0) && decide (x.kids.length = 0) else if x.kind = 1 then decide (x.num = 0) && decide (x.kids.length = 0)
 else if x.kind = 2 then decide (x.num = 0) && decide (x.str.size = 0) else false
mutual
def chk : It → Nat → Nat
 | .mk k n s l, d => if formed (.mk k n s l) = false then 4 else if 15 < d then 12 else chks l (d + 1)
def chks : List It → Nat → Nat
 | [], _ => 0
 | x :: r, d => if chk x d = 0 then chks r d else chk x d
end
theorem chk_eq (x : It) (d : Nat) : chk x d = if formed x = false then 4 else if 15 < d then 12 else chks x.kids (d + 1) := by cases x; simp [chk, It.kids]
theorem chks_append (a b : List It) (d : Nat) : chks (a ++ b) d = if chks a d = 0 then chks b d else chks a d := by
 induction a with
 | nil => simp [chks]
 | cons x a ih => simp only [List.cons_append, chks, ih]; split <;> simp_all
theorem chks_one (x : It) (d : Nat) : chks [x] d = chk x d := by simp only [chks]; split <;> simp_all
theorem chks_zero {l : List It} {d : Nat} : chks l d = 0 ↔ ∀ x ∈ l, chk x d = 0 := by
 induction l with
 | nil => simp [chks]
 | cons y l ih =>
   simp only [chks, List.mem_cons, forall_eq_or_imp];split
   · simp_all
   · simp_all
mutual
def form : It → List Nat
 | .mk k n s l => if k = 0 then 0 :: Num.put n else if k = 1 then 1 :: (Num.put s.size ++ bts s) else 2 :: (Num.put l.length ++ forms l)
def forms : List It → List Nat
 | [] => []
 | x :: r => form x ++ forms r
end
theorem forms_append (a b : List It) : forms (a ++ b) = forms a ++ forms b := by
 induction a with
 | nil => simp [forms]
 | cons x a ih => simp [forms, ih]
theorem forms_one (x : It) : forms [x] = form x := by simp [forms]
theorem form0 {x : It} (h : x.kind = 0) : form x = 0 :: Num.put x.num := by cases x; simp [It.kind] at h; simp [form, h, It.num]
theorem form1 {x : It} (h : x.kind = 1) : form x = 1 :: (Num.put x.str.size ++ bts x.str) := by cases x; simp [It.kind] at h; simp [form, h, It.str]
theorem form2 {x : It} (h : x.kind = 2) : form x = 2 :: (Num.put x.kids.length ++ forms x.kids) := by cases x; simp [It.kind] at h; simp [form, h, It.kids]
theorem length_form_pos (x : It) : 2 ≤ (form x).length := by
 cases x with
 | mk k n s l =>
   simp only [form];have a := Num.size_pos n;have b := Num.size_pos s.size;have c := Num.size_pos l.length;split
   · simp [Num.length_put]; omega
   · split <;> simp [Num.length_put] <;> omega
theorem length_forms (l : List It) : l.length ≤ (forms l).length := by
 induction l with
 | nil => simp
 | cons x l ih => have := length_form_pos x; simp [forms]; omega
def Fit (x : It) : Prop := x.num < 2 ^ 64 ∧ x.str.size < 2 ^ 63 ∧ x.kids.length < 2 ^ 63 ∧ ∀ y, y ∈ x.kids → Fit y
termination_by wt x
decreasing_by
 rename_i h;have := wt_mem h;rw [wt_eq x];omega
theorem fit_eq (x : It) : Fit x ↔ x.num < 2 ^ 64 ∧ x.str.size < 2 ^ 63 ∧ x.kids.length < 2 ^ 63 ∧ ∀ y, y ∈ x.kids → Fit y := by
 conv => lhs; unfold Fit
mutual
theorem length_form_le : ∀ (x : It), Fit x → (form x).length ≤ 10 * wt x
 | .mk k n s l, hf => by
   rw [fit_eq] at hf;simp only [It.num, It.str, It.kids] at hf;have a := Num.size_le n hf.1;have b := Num.size_le s.size (by omega);have c := Num.size_le l.length (by omega);have d := length_forms_le l hf.2.2.2;simp only [form, wt];split
   · simp [Num.length_put]; omega
   · split <;> simp [Num.length_put, length_bts] <;> omega
theorem length_forms_le : ∀ (l : List It), (∀ y, y ∈ l → Fit y) → (forms l).length ≤ 10 * wts l
 | [], _ => by simp [forms]
 | x :: r, hf => by
   have a := length_form_le x (hf x (by simp));have b := length_forms_le r fun y hy => hf y (by simp [hy]);simp [forms, wts]; omega
end
inductive Res (α : Type) where
 | bad (e p : Nat)
 | ok (x : α) (p : Nat)
def rows (f : Nat → Res It) : Nat → Nat → Res (List It)
 | 0, p => .ok [] p
 | k + 1, p => match rows f k p with
   | .bad e q => .bad e q
   | .ok xs q => match f q with
     | .bad e q' => .bad e q'
     | .ok x q' => .ok (xs ++ [x]) q'
def body (b : List Nat) (f : Nat → Res It) (kind v q : Nat) : Res It :=
 if kind = 0 then .ok (.mk 0 v ByteArray.empty []) q
 else if b.length - q < v then .bad 2 q
 else if kind = 1 then .ok (.mk 1 0 (txt ((b.drop q).take v)) []) (q + v)
 else match rows f v q with
  | .bad e q' => .bad e q'
  | .ok xs q' => .ok (.mk 2 0 ByteArray.empty xs) q'
def one (b : List Nat) (f : Nat → Res It) (p : Nat) : Res It :=
 if 2 < b.getD p 0 then .bad 4 p
 else if (Num.take (b.drop (p + 1))).2.2 ≠ 0 then .bad (Num.take (b.drop (p + 1))).2.2 (p + 1)
 else body b f (b.getD p 0) (Num.take (b.drop (p + 1))).1 (p + 1 + (Num.take (b.drop (p + 1))).2.1)
def tk (b : List Nat) : Nat → Nat → Res It
 | 0, p => if b.length ≤ p then .bad 2 p else .bad 12 p
 | r + 1, p => if b.length ≤ p then .bad 2 p else one b (tk b r) p
def get (b : List Nat) : Res It :=
 if 1048576 < b.length then .bad 12 0 else match tk b 16 0 with
  | .bad e p => .bad e p
  | .ok x q => if q < b.length then .bad 3 q else .ok x 0
theorem rows_cons (f : Nat → Res It) (k p : Nat) : rows f (k + 1) p = match f p with
 | .bad e q => .bad e q
 | .ok x q => match rows f k q with
   | .bad e q' => .bad e q'
   | .ok xs q' => .ok (x :: xs) q' := by
 induction k with
 | zero => simp only [rows]; cases f p <;> simp
 | succ k ih =>
   rw [rows, ih];cases hp : f p with
   | bad e q => simp
   | ok x q =>
     simp only;rw [rows];cases rows f k q with
     | bad e q' => simp
     | ok xs q' =>
       simp only;cases f q' <;> simp
theorem rows_bad (f : Nat → Res It) (k p e q : Nat) (h : rows f k p = .bad e q) : ∀ m, rows f (k + m) p = .bad e q
 | 0 => h
 | m + 1 => by rw [← Nat.add_assoc, rows, rows_bad f k p e q h m]
theorem rows_forms {b : List Nat} {f : Nat → Res It} (l : List It) (hf : ∀ x ∈ l, ∀ p suf, b.drop p = form x ++ suf → f p = .ok x (p + (form x).length)) :
 ∀ p suf, b.drop p = forms l ++ suf → rows f l.length p = .ok l (p + (forms l).length) := by
 induction l with
 | nil => intro p suf _; simp [rows, forms]
 | cons x l ih =>
   intro p suf h;simp only [forms, List.append_assoc] at h;have h1 := hf x (by simp) p _ h
   have h2 := ih (fun y hy => hf y (by simp [hy])) (p + (form x).length) suf (by
    rw [← List.drop_drop, h, List.drop_left])
   rw [List.length_cons, rows_cons, h1];simp only [h2];simp [forms, Nat.add_assoc]
theorem drop_cons_facts {b : List Nat} {p k : Nat} {r : List Nat} (h : b.drop p = k :: r) : p < b.length ∧ b.getD p 0 = k ∧ b.drop (p + 1) = r := by
 have hl : p < b.length := by
  rcases Nat.lt_or_ge p b.length with hlt | hge
  · exact hlt
  · rw [List.drop_of_length_le hge] at h; cases h
 rw [List.drop_eq_getElem_cons hl] at h;injection h with h1 h2;exact ⟨hl, by simp [List.getD, List.getElem?_eq_getElem hl, h1], h2⟩
theorem formed_cases {x : It} (h : formed x ≠ false) : (∃ n, x = .mk 0 n ByteArray.empty []) ∨ (∃ s, x = .mk 1 0 s []) ∨ (∃ l, x = .mk 2 0 ByteArray.empty l) := by
 rw [ne_eq, Bool.not_eq_false] at h;unfold formed at h;by_cases hk : x.kind = 0
 · rw [if_pos hk] at h
   simp only [Bool.and_eq_true, decide_eq_true_eq, List.length_eq_zero_iff] at h;obtain ⟨k, n, s, l⟩ := x;simp only [It.kind, It.str, It.kids] at hk h;left;exact ⟨n, by rw [hk, (size_zero s).1 h.1, h.2]⟩
 · rw [if_neg hk] at h
   by_cases hk1 : x.kind = 1
   · rw [if_pos hk1] at h
     simp only [Bool.and_eq_true, decide_eq_true_eq, List.length_eq_zero_iff] at h;obtain ⟨k, n, s, l⟩ := x;simp only [It.kind, It.num, It.kids] at hk1 h;right; left;exact ⟨s, by rw [hk1, h.1, h.2]⟩
   · rw [if_neg hk1] at h
     by_cases hk2 : x.kind = 2
     · rw [if_pos hk2] at h
       simp only [Bool.and_eq_true, decide_eq_true_eq] at h;obtain ⟨k, n, s, l⟩ := x;simp only [It.kind, It.num, It.str] at hk2 h;right; right;exact ⟨l, by rw [hk2, h.1, (size_zero s).1 h.2]⟩
     · rw [if_neg hk2] at h
       cases h
theorem tk_head {b : List Nat} {p k v r : Nat} {rest : List Nat} (h : b.drop p = k :: (Num.put v ++ rest)) (hk : k ≤ 2) (hv : v < 2 ^ 64) :
 tk b (r + 1) p = body b (tk b r) k v (p + 1 + Num.size v) ∧ b.drop (p + 1 + Num.size v) = rest ∧ b.length - (p + 1 + Num.size v) = rest.length := by
 obtain ⟨hlt, hg, hdr⟩ := drop_cons_facts h;have e : b.drop (p + 1 + Num.size v) = rest := by rw [← List.drop_drop, hdr, ← Num.length_put, List.drop_left]
 refine ⟨?_, e, by have := congrArg List.length e; simpa using this⟩;rw [tk, if_neg (by omega), one, hg, hdr, Num.take_put v hv, if_neg (by omega), if_neg (by simp)]
theorem wt_le_form (x : It) : ∀ d, chk x d = 0 → wt x ≤ (form x).length := by
 induction x using It.ind with
 | h x ih =>
 intro d h;rw [chk_eq] at h;split at h
 · omega
 rename_i hf;split at h
 · omega
 have hz := chks_zero.1 h
 have hl : wts x.kids ≤ (forms x.kids).length := by
  clear h hf;generalize x.kids = l at ih hz;induction l with
  | nil => simp [wts]
  | cons y l ihl =>
    have a := ih y (by simp) (d + 1) (hz y (by simp));have b := ihl (fun x hx => ih x (by simp [hx])) (fun x hx => hz x (by simp [hx]));simp [wts, forms]; omega
 rcases formed_cases hf with ⟨n, rfl⟩ | ⟨s, rfl⟩ | ⟨l, rfl⟩ <;> simp only [It.kids, wt, form, wts, forms] at hl ⊢
 · have := Num.size_pos n
   simp [Num.length_put];try omega
 · have := Num.size_pos s.size
   simp [Num.length_put, length_bts];try omega
 · have := Num.size_pos l.length
   simp [Num.length_put];try omega
theorem tk_form (x : It) : ∀ (b : List Nat) (r d p : Nat) (suf : List Nat), chk x d = 0 → Fit x → r + d = 16 → b.drop p = form x ++ suf → tk b r p = .ok x (p + (form x).length) := by
 induction x using It.ind with
 | h x ih =>
 intro b r d p suf hc hfit hr hb;rw [chk_eq] at hc;split at hc
 · omega
 rename_i hfo;split at hc
 · omega
 obtain ⟨r, rfl⟩ : ∃ r', r = r' + 1 := ⟨r - 1, by omega⟩
 have hkid := chks_zero.1 hc;rw [fit_eq] at hfit;obtain ⟨hf1, hf2, hf3, hf4⟩ := hfit;rcases formed_cases hfo with ⟨n, rfl⟩ | ⟨s, rfl⟩ | ⟨l, rfl⟩ <;> simp only [It.num, It.str, It.kids] at hf1 hf2 hf3 hf4 ih hkid
 · rw [form0 rfl] at hb ⊢
   simp only [It.num, List.cons_append] at hb ⊢;obtain ⟨h1, h2, h3⟩ := tk_head (r := r) hb (by omega) hf1;rw [h1, body, if_pos rfl];simp [Num.length_put]; omega
 · rw [form1 rfl] at hb ⊢
   simp only [It.str, List.cons_append, List.append_assoc] at hb ⊢;obtain ⟨h1, h2, h3⟩ := tk_head (r := r) hb (by omega) (show s.size < 2 ^ 64 by omega);rw [List.length_append, length_bts] at h3;rw [h1, body, if_neg (by omega), if_neg (by omega), if_pos rfl, h2, ← length_bts s, List.take_left, txt_bts];simp [Num.length_put, length_bts]; omega
 · rw [form2 rfl] at hb ⊢
   simp only [It.kids, List.cons_append, List.append_assoc] at hb ⊢;obtain ⟨h1, h2, h3⟩ := tk_head (r := r) hb (by omega) (show l.length < 2 ^ 64 by omega);rw [List.length_append] at h3;have hle := length_forms l;rw [h1, body, if_neg (by omega), if_neg (by omega), if_neg (by omega)];rw [rows_forms l (fun x hx p suf h => ih x hx b r (d + 1) p suf (hkid x hx) (hf4 x hx) (by omega) h) _ _ h2];simp [Num.length_put]; omega
theorem take_ok (l : List Nat) (hb : ∀ x ∈ l, x < 256) (h : (Num.take l).2.2 = 0) :
 Num.put (Num.take l).1 = l.take (Num.take l).2.1 ∧ (Num.take l).2.1 = Num.size (Num.take l).1 ∧ (Num.take l).2.1 ≤ l.length ∧ (Num.take l).1 < 2 ^ 64 := by
 cases l with
 | nil => simp [Num.take] at h
 | cons b r =>
   have hb0 := hb b (by simp);have hr : ∀ x ∈ r, x < 256 := fun x hx => hb x (by simp [hx]);by_cases h1 : b < 248
   · have e : Num.take (b :: r) = (b, 1, 0) := by simp [Num.take, h1]
     rw [e];simp [Num.put, Num.size, h1];omega
   · by_cases h2 : r.length < b - 247
     · have e : Num.take (b :: r) = (0, 0, 2) := by simp [Num.take, h1, h2]
       rw [e] at h; cases h
     · by_cases h3 : Num.size (Num.val (r.take (b - 247))) = 1 + (b - 247)
       · have e : Num.take (b :: r) = (Num.val (r.take (b - 247)), 1 + (b - 247), 0) := by
          simp only [Num.take, if_neg h1, if_neg h2];rw [if_neg (by simpa using h3)]
         simp only [e];have hps := (Num.put_same b r (by omega) hb0 (by omega) hr).2 h3;have hlr : 1 + (b - 247) ≤ (b :: r).length := (by rw [List.length_cons]; omega);refine ⟨hps, h3.symm, hlr, ?_⟩;clear hps h3 e;show Num.val (r.take (b - 247)) < 2 ^ 64;have hv := Num.take_val_lt r (b - 247) hr;have h8 : 256 ^ (r.take (b - 247)).length ≤ 256 ^ 8 := Nat.pow_le_pow_right (by omega) (by rw [List.length_take]; omega);have e8 : (2 : Nat) ^ 64 = 256 ^ 8 := (by decide);rw [e8];exact Nat.lt_of_lt_of_le hv h8
       · have e : Num.take (b :: r) = (0, 0, 4) := by
          simp only [Num.take, if_neg h1, if_neg h2];rw [if_pos (by simpa using h3)]
         rw [e] at h; cases h
def seg (b : List Nat) (p q : Nat) : List Nat := (b.drop p).take (q - p)
theorem seg_append (b : List Nat) {p q r : Nat} (h1 : p ≤ q) (h2 : q ≤ r) : seg b p q ++ seg b q r = seg b p r := by
 unfold seg;rw [show r - p = (q - p) + (r - q) by omega, List.take_add, List.drop_drop, show p + (q - p) = q by omega]
theorem seg_self (b : List Nat) (p : Nat) : seg b p p = [] := by simp [seg]
theorem seg_one (b : List Nat) {p : Nat} (h : p < b.length) : seg b p (p + 1) = [b.getD p 0] := by
 simp only [seg, show p + 1 - p = 1 by omega];rw [List.drop_eq_getElem_cons h, List.take_succ_cons, List.take_zero, List.getD, List.getElem?_eq_getElem h];rfl
def Good (b : List Nat) (d p : Nat) (x : It) (q : Nat) : Prop := chk x d = 0 ∧ Fit x ∧ p < q ∧ q ≤ b.length ∧ form x = seg b p q
theorem rows_good {b : List Nat} {f : Nat → Res It} {d : Nat} (hf : ∀ p x q, f p = .ok x q → Good b d p x q) : ∀ k p xs q, p ≤ b.length → rows f k p = .ok xs q →
 xs.length = k ∧ chks xs d = 0 ∧ (∀ y, y ∈ xs → Fit y) ∧ p ≤ q ∧ q ≤ b.length ∧ forms xs = seg b p q := by
 intro k;induction k with
 | zero =>
   intro p xs q hp h;simp only [rows] at h;injection h with h1 h2;subst h1; subst h2;exact ⟨rfl, rfl, by simp, Nat.le_refl _, hp, by simp [forms, seg_self]⟩
 | succ k ih =>
   intro p xs q hp h;rw [rows] at h;cases hr : rows f k p with
   | bad e q' => rw [hr] at h; cases h
   | ok ys q1 =>
     rw [hr] at h;simp only at h;cases hq : f q1 with
     | bad e q' => rw [hq] at h; cases h
     | ok y q2 =>
       rw [hq] at h;simp only at h;injection h with h1 h2;subst h1; subst h2;obtain ⟨a1, a2, a3, a4, a5, a6⟩ := ih p ys q1 hp hr;obtain ⟨b1, b2, b3, b4, b5⟩ := hf q1 y q2 hq;refine ⟨by simp [a1], by rw [chks_append, if_pos a2, chks_one, b1], ?_, by omega, b4, ?_⟩
       · intro z hz
         rcases List.mem_append.1 hz with hz | hz
         · exact a3 z hz
         · rw [List.mem_singleton.1 hz]; exact b2
       · rw [forms_append, forms_one, a6, b5, seg_append b a4 (by omega)]
theorem tk_good {b : List Nat} (hb : ∀ x ∈ b, x < 256) (hl : b.length < 2 ^ 63) : ∀ r p x q, r ≤ 16 → tk b r p = .ok x q → Good b (16 - r) p x q := by
 intro r;induction r with
 | zero =>
   intro p x q _ h;rw [tk] at h;split at h <;> cases h
 | succ r ih =>
   intro p x q hr h;rw [tk] at h;split at h
   · cases h
   rename_i hp;rw [one] at h;split at h
   · cases h
   rename_i hk;split at h
   · cases h
   rename_i hn;obtain ⟨t1, t2, t3, t4⟩ := take_ok (b.drop (p + 1)) (fun x hx => hb x (List.mem_of_mem_drop hx)) (by simpa using hn);have t5 := Num.size_pos (Num.take (b.drop (p + 1))).1;rw [List.length_drop] at t3;rw [t2] at t1 t3 h;generalize (Num.take (b.drop (p + 1))).1 = v at *
   have hseg : seg b p (p + 1 + Num.size v) = b.getD p 0 :: Num.put v := by
    rw [← seg_append b (show p ≤ p + 1 by omega) (show p + 1 ≤ p + 1 + Num.size v by omega), seg_one b (by omega), t1, seg, show p + 1 + Num.size v - (p + 1) = Num.size v by omega];rfl
   have h16 : 16 - r = 16 - (r + 1) + 1 := (by omega);rw [body] at h;split at h
   · rename_i h0
     injection h with h1 h2;subst h1; subst h2;refine ⟨?_, ?_, by omega, by omega, ?_⟩
     · rw [chk_eq]
       simp [formed, It.kind, It.str, It.kids, chks]
     · rw [fit_eq]; simp [It.num, It.str, It.kids]; omega
     · rw [hseg, h0, form0 rfl]; rfl
   · split at h
     · cases h
     rename_i h0 hs;split at h
     · rename_i h1
       injection h with h2 h3;subst h2; subst h3;have hlen : ((b.drop (p + 1 + Num.size v)).take v).length = v := (by rw [List.length_take, List.length_drop]; omega);refine ⟨?_, ?_, by omega, by omega, ?_⟩
       · rw [chk_eq]
         simp [formed, It.kind, It.num, It.kids, chks]
       · rw [fit_eq]; simp [It.num, It.str, It.kids, size_txt, -List.length_take, hlen]; omega
       · rw [form1 rfl, ← seg_append b (show p ≤ p + 1 + Num.size v by omega) (Nat.le_add_right _ v), hseg, h1]
         simp only [It.str, size_txt, hlen];rw [bts_txt _ (fun x hx => hb x (List.mem_of_mem_drop (List.mem_of_mem_take hx)))];simp [seg, show p + 1 + Num.size v + v - (p + 1 + Num.size v) = v by omega]
     · rename_i h1
       cases hrw : rows (tk b r) v (p + 1 + Num.size v) with
       | bad e q' => rw [hrw] at h; cases h
       | ok xs q' =>
         rw [hrw] at h;simp only at h;injection h with h2 h3;subst h2; subst h3;obtain ⟨a1, a2, a3, a4, a5, a6⟩ := rows_good (d := 16 - r) (fun p x q h => ih p x q (by omega) h) v _ _ _ (by omega) hrw;refine ⟨?_, ?_, by omega, a5, ?_⟩
         · rw [chk_eq]
           simp only [It.kids];rw [if_neg (by simp [formed, It.kind, It.num, It.str]), if_neg (by omega), ← h16, a2]
         · rw [fit_eq]
           simp only [It.num, It.str, It.kids, a1];exact ⟨by omega, by show (0 : Nat) < _; omega, by omega, a3⟩
         · rw [form2 rfl, ← seg_append b (show p ≤ p + 1 + Num.size v by omega) a4, hseg]
           have : b.getD p 0 = 2 := (by omega);rw [this];simp only [It.kids, a1, a6];rfl
theorem get_form {x : It} (hx : chk x 0 = 0) (fx : Fit x) (hl : (form x).length ≤ 1048576) : get (form x) = .ok x 0 := by
 have h1 := tk_form x (form x) 16 0 0 [] hx fx rfl (by simp);rw [get, if_neg (by omega), h1];simp
theorem get_good {b : List Nat} {x : It} {q : Nat} (hb : ∀ x ∈ b, x < 256) (h : get b = .ok x q) : chk x 0 = 0 ∧ Fit x ∧ form x = b := by
 rw [get] at h;split at h
 · cases h
 rename_i hl;cases ht : tk b 16 0 with
 | bad e p => rw [ht] at h; cases h
 | ok y p =>
   rw [ht] at h;simp only at h;split at h
   · cases h
   · rename_i hp
     injection h with h1 h2;subst h1;obtain ⟨a1, a2, a3, a4, a5⟩ := tk_good hb (by omega) 16 0 y p (by omega) ht;refine ⟨a1, a2, ?_⟩;rw [a5, seg, List.drop_zero, List.take_of_length_le (by omega)]
mutual
def same : It → It → Bool
 | .mk k n s l, .mk k' n' s' l' => decide (k = k') && decide (n = n') && decide (s = s') && sames l l'
def sames : List It → List It → Bool
 | [], [] => true
 | x :: r, y :: t => same x y && sames r t
 | _, _ => false
end
theorem same_iff (x : It) : ∀ y, same x y = true ↔ x = y := by
 induction x using It.ind with
 | h x ih =>
 intro y;obtain ⟨k, n, s, l⟩ := x;obtain ⟨k', n', s', l'⟩ := y
 have hs : sames l l' = true ↔ l = l' := by
  simp only [It.kids] at ih;induction l generalizing l' with
  | nil => cases l' <;> simp [sames]
  | cons x l ihl =>
    cases l' with
    | nil => simp [sames]
    | cons y l' => simp [sames, ih x (by simp) y, ihl (fun x hx => ih x (by simp [hx])) l']
 simp [same, hs, and_assoc]
end Go.Proofs.YthlhchaoedcdbaaGreatDoor.Cod
/- Items and trees of nodes in memory, of no program's walk: 'Lies' (an item's list, with all that it leads to, lies at a slice), 'Row' (a slice holds these items), 'Node' (a value is the tree of a right item); what keeps them. -/
namespace Go.Proofs.YthlhchaoedcdbaaGreatDoor.Cod
open Lib (hid)
open Go.RowKit Mem
theorem toList_nil (s : ByteArray) : s.toList = [] ↔ s.size = 0 := by
 rw [ByteArray.toList_eq, ← List.length_eq_zero_iff, Array.length_toList];exact Iff.rfl
def Spot (w : World) (ad : Addr) (y : It) (A : Option Addr) (c : Nat) : Prop :=
 w.cell? ad = some (.int .i64 y.kind) ∧ w.cell? ⟨ad.block, ad.off + 1, none⟩ = some (.int .u64 (y.num : Int)) ∧ w.cell? ⟨ad.block, ad.off + 2, none⟩ = some (.string y.str) ∧ w.cell? ⟨ad.block, ad.off + 3, none⟩ = some (.slice A y.kids.length c)
theorem wt_kid {x : It} {i : Nat} (h : i < x.kids.length) : wt x.kids[i] < wt x := by
 have := wt_mem (List.getElem_mem h);rw [wt_eq x];omega
def Lies (w : World) (S : Nat → Prop) (x : It) (A : Option Addr) (c : Nat) : Prop :=
 (-9223372036854775808 ≤ x.kind ∧ x.kind ≤ 9223372036854775807 ∧ x.num ≤ 18446744073709551615 ∧ x.str.size ≤ 140737488355328) ∧ (x.kids.length ≤ c ∧ c ≤ 9223372036854775807 ∧ (A = none → c = 0)) ∧
 ∀ i, (h : i < x.kids.length) → ∃ ad A' c', A = some ad ∧ S ad.block ∧ ad.block < w.heap.size ∧ Spot w (ad.add (i * 4)) x.kids[i] A' c' ∧ Lies w S x.kids[i] A' c'
termination_by wt x
decreasing_by exact wt_kid h
theorem lies_eq (w : World) (S : Nat → Prop) (x : It) (A : Option Addr) (c : Nat) : Lies w S x A c ↔
 (-9223372036854775808 ≤ x.kind ∧ x.kind ≤ 9223372036854775807 ∧ x.num ≤ 18446744073709551615 ∧ x.str.size ≤ 140737488355328) ∧ (x.kids.length ≤ c ∧ c ≤ 9223372036854775807 ∧ (A = none → c = 0)) ∧
 ∀ i, (h : i < x.kids.length) → ∃ ad A' c', A = some ad ∧ S ad.block ∧ ad.block < w.heap.size ∧ Spot w (ad.add (i * 4)) x.kids[i] A' c' ∧ Lies w S x.kids[i] A' c' := by
 conv => lhs; unfold Lies
def Row (w : World) (S : Nat → Prop) (A : Option Addr) (n c : Nat) (l : List It) : Prop :=
 l.length = n ∧ (n ≤ c ∧ c ≤ 9223372036854775807 ∧ (A = none → c = 0)) ∧
 ∀ i y, l[i]? = some y → ∃ ad A' c', A = some ad ∧ S ad.block ∧ ad.block < w.heap.size ∧ Spot w (ad.add (i * 4)) y A' c' ∧ Lies w S y A' c'
theorem Lies.row {w : World} {S : Nat → Prop} {x : It} {A : Option Addr} {c : Nat} (h : Lies w S x A c) : Row w S A x.kids.length c x.kids := by
 rw [lies_eq] at h;refine ⟨rfl, h.2.1, fun i y hy => ?_⟩;obtain ⟨hi, rfl⟩ := List.getElem?_eq_some_iff.1 hy;exact h.2.2 i hi
theorem Row.lies {w : World} {S : Nat → Prop} {k : Int} {n : Nat} {s : ByteArray} {l : List It} {A : Option Addr} {m c : Nat} (h : Row w S A m c l)
 (hk : -9223372036854775808 ≤ k ∧ k ≤ 9223372036854775807) (hn : n ≤ 18446744073709551615) (hs : s.size ≤ 140737488355328) : Lies w S (.mk k n s l) A c := by
 obtain ⟨rfl, h2, h3⟩ := h;rw [lies_eq];exact ⟨⟨hk.1, hk.2, hn, hs⟩, h2, fun i hi => h3 i _ (List.getElem?_eq_getElem hi)⟩
theorem Spot.keep {w w' : World} {ad : Addr} {y : It} {A : Option Addr} {c : Nat} (h : Spot w ad y A c) (hk : ∀ p : Addr, p.block = ad.block → w'.cell? p = w.cell? p) : Spot w' ad y A c :=
 ⟨(hk ad rfl).trans h.1, (hk ⟨ad.block, ad.off + 1, none⟩ rfl).trans h.2.1, (hk ⟨ad.block, ad.off + 2, none⟩ rfl).trans h.2.2.1, (hk ⟨ad.block, ad.off + 3, none⟩ rfl).trans h.2.2.2⟩
theorem Lies.keep {w w' : World} {S S' : Nat → Prop} (x : It) : ∀ {A : Option Addr} {c : Nat}, Lies w S x A c → (∀ b, S b → b < w.heap.size → S' b) → w.heap.size ≤ w'.heap.size →
 (∀ p : Addr, S p.block → p.block < w.heap.size → w'.cell? p = w.cell? p) → Lies w' S' x A c := by
 induction x using It.ind with
 | h x ih =>
 intro A c h hS hs hk;rw [lies_eq] at h ⊢;refine ⟨h.1, h.2.1, fun i hi => ?_⟩;obtain ⟨ad, A', c', e, hb, hlt, hsp, hl⟩ := h.2.2 i hi;exact ⟨ad, A', c', e, hS _ hb hlt, by omega, hsp.keep fun p hp => hk p (by rw [hp, add_block]; exact hb) (by rw [hp, add_block]; exact hlt), ih _ (List.getElem_mem hi) hl hS hs hk⟩
theorem Row.keep {w w' : World} {S S' : Nat → Prop} {A : Option Addr} {n c : Nat} {l : List It} (h : Row w S A n c l) (hS : ∀ b, S b → b < w.heap.size → S' b) (hs : w.heap.size ≤ w'.heap.size)
 (hk : ∀ p : Addr, S p.block → p.block < w.heap.size → w'.cell? p = w.cell? p) : Row w' S' A n c l := by
 refine ⟨h.1, h.2.1, fun i y hy => ?_⟩;obtain ⟨ad, A', c', e, hb, hlt, hsp, hl⟩ := h.2.2 i y hy;exact ⟨ad, A', c', e, hS _ hb hlt, by omega, hsp.keep fun p hp => hk p (by rw [hp, add_block]; exact hb) (by rw [hp, add_block]; exact hlt), hl.keep y hS hs hk⟩
theorem Lies.below {w w' : World} {S : Nat → Prop} {x : It} {A : Option Addr} {c B : Nat} (h : Lies w S x A c) (hb : Below B w w') (hS : ∀ b, S b → b < B) : Lies w' S x A c :=
 h.keep x (fun _ h _ => h) hb.size fun _ hp _ => hb.cell (hS _ hp)
theorem Row.below {w w' : World} {S : Nat → Prop} {l : List It} {A : Option Addr} {n c B : Nat} (h : Row w S A n c l) (hb : Below B w w') (hS : ∀ b, S b → b < B) : Row w' S A n c l :=
 h.keep (fun _ h _ => h) hb.size fun _ hp _ => hb.cell (hS _ hp)
theorem Lies.grown {w w' : World} {S : Nat → Prop} {x : It} {A : Option Addr} {c : Nat} {g : Option Nat} (h : Lies w S x A c) (hg : w.grownBy w' g) (hS : ∀ b, S b → some b ≠ g) : Lies w' S x A c :=
 h.keep x (fun _ h _ => h) hg.size fun _ hp hlt => World.cell?_of_block (hg.block _ hlt (hS _ hp))
theorem Row.grown {w w' : World} {S : Nat → Prop} {l : List It} {A : Option Addr} {n c : Nat} {g : Option Nat} (h : Row w S A n c l) (hg : w.grownBy w' g) (hS : ∀ b, S b → some b ≠ g) : Row w' S A n c l :=
 h.keep (fun _ h _ => h) hg.size fun _ hp hlt => World.cell?_of_block (hg.block _ hlt (hS _ hp))
theorem Lies.alloc {w : World} {S : Nat → Prop} {x : It} {A : Option Addr} {c : Nat} (h : Lies w S x A c) (o : Obj) : Lies (w.alloc o) S x A c :=
 h.keep x (fun _ h _ => h) (by simp) fun p _ hp => World.cell?_alloc_lt w o p hp
theorem Lies.more {w : World} {S S' : Nat → Prop} {x : It} {A : Option Addr} {c : Nat} (h : Lies w S x A c) (hS : ∀ b, S b → b < w.heap.size → S' b) : Lies w S' x A c :=
 h.keep x hS (Nat.le_refl _) fun _ _ _ => rfl
theorem Row.more {w : World} {S S' : Nat → Prop} {l : List It} {A : Option Addr} {n c : Nat} (h : Row w S A n c l) (hS : ∀ b, S b → b < w.heap.size → S' b) : Row w S' A n c l :=
 h.keep hS (Nat.le_refl _) fun _ _ _ => rfl
theorem Lies.fit {w : World} {S : Nat → Prop} (x : It) : ∀ {A : Option Addr} {c : Nat}, Lies w S x A c → Fit x := by
 induction x using It.ind with
 | h x ih =>
 intro A c h;rw [lies_eq] at h;rw [fit_eq];obtain ⟨⟨_, _, h1, h2⟩, ⟨h3, h4, _⟩, h5⟩ := h;refine ⟨by omega, by omega, by omega, fun y hy => ?_⟩;obtain ⟨i, hi, rfl⟩ := List.getElem_of_mem hy;obtain ⟨ad, A', c', _, _, _, _, hl⟩ := h5 i hi;exact ih _ (List.getElem_mem hi) hl
theorem Lies.bounds {w : World} {S : Nat → Prop} {x : It} {A : Option Addr} {c : Nat} (h : Lies w S x A c) :
 -9223372036854775808 ≤ x.kind ∧ x.kind ≤ 9223372036854775807 ∧ x.num ≤ 18446744073709551615 ∧ x.str.size ≤ 140737488355328 ∧ x.kids.length ≤ c ∧ c ≤ 9223372036854775807 := by
 rw [lies_eq] at h;obtain ⟨⟨a, b, h1, h2⟩, ⟨h3, h4, _⟩, _⟩ := h;exact ⟨a, b, h1, h2, h3, h4⟩
end Go.Proofs.YthlhchaoedcdbaaGreatDoor.Cod
/- Texts turned into bytes and bytes into texts, of no program. -/
namespace Go.Proofs.YthlhchaoedcdbaaGreatDoor.Cod
open Lib (hid)
open Go.RowKit Mem
theorem blk4 {w : World} {g : Nat} {t : TypeId} {a b c d : Value} (h : Blk w g t #[a, b, c, d]) : w.cell? ⟨g, 0, none⟩ = some a ∧ w.cell? ⟨g, 1, none⟩ = some b ∧ w.cell? ⟨g, 2, none⟩ = some c ∧ w.cell? ⟨g, 3, none⟩ = some d :=
 ⟨h.cell 0, h.cell 1, h.cell 2, h.cell 3⟩
theorem strCells_bts (s : ByteArray) : Lib.strCells s = cs (bts s) := by
 simp [Lib.strCells, cs, bts, List.map_map, Function.comp_def]
theorem run_text {P : Program} {w : World} (src dst e : TypeId) (hs : P.underlying src = some (.slice e)) (he : P.underlying e = some (.int .u8)) (hd : P.underlying dst = some .string)
 {A : Option Addr} {n c : Nat} {bs : List Nat} (hr : Rd w A n c (cs bs)) : (convert src dst (.slice A n c)).run P w = .ok (.string (txt bs)) w := by
 have hl := hr.len;rw [length_cs] at hl;rcases A with _ | ad
 · have h0 := hr.none0 rfl
   have hb : bs = [] := List.eq_nil_of_length_eq_zero (by omega);subst hb;rw [run_convert_bytes_nil w src e hs he _ _ dst hd];rfl
 · have hcs : cs bs = (bs.map fun b => ((b : Nat) : Int)).map (Value.int .u8) := by simp [cs, List.map_map, Function.comp_def]
   have h1 := run_loadCells_list (P := P) w ad (cs bs) (hr.cells ad rfl);rw [length_cs, hl, hcs] at h1;rw [run_convert_bytes_string w src dst e _ n c hs he hd, run_bytesToString w _ n c _ h1, foldl_push_bytes];simp [txt, List.map_map, Function.comp_def, ByteArray.empty, ByteArray.emptyWithCapacity];rfl
end Go.Proofs.YthlhchaoedcdbaaGreatDoor.Cod
/- Trees of nodes in memory ('IsNode'); worlds that have kept all blocks but one. -/
namespace Go.Proofs.YthlhchaoedcdbaaGreatDoor.Cod
open Lib (hid)
open Go.RowKit Mem
def Shape (x : It) (v : Value) : Prop :=
 (x = .mk 0 x.num ByteArray.empty [] ∧ x.num ≤ 18446744073709551615 ∧ v = .iface 163 (.int .u64 (x.num : Int))) ∨
 (x = .mk 1 0 x.str [] ∧ x.str.size ≤ 140737488355328 ∧ v = .iface 164 (.string x.str)) ∨
 (x = .mk 2 0 ByteArray.empty x.kids ∧ ∃ A c, v = .iface 166 (.slice A x.kids.length c) ∧ x.kids.length ≤ c ∧ c ≤ maxLen ∧ (A = none → c = 0))
def IsNode (w : World) (S : Nat → Prop) (x : It) (v : Value) : Prop :=
 Shape x v ∧ ∀ i, (h : i < x.kids.length) → ∃ ad c u, v = .iface 166 (.slice (some ad) x.kids.length c) ∧ S ad.block ∧ ad.block < w.heap.size ∧ w.cell? (ad.add i) = some u ∧ IsNode w S x.kids[i] u
termination_by wt x
decreasing_by exact wt_kid h
theorem node_eq (w : World) (S : Nat → Prop) (x : It) (v : Value) : IsNode w S x v ↔
 Shape x v ∧ ∀ i, (h : i < x.kids.length) → ∃ ad c u, v = .iface 166 (.slice (some ad) x.kids.length c) ∧ S ad.block ∧ ad.block < w.heap.size ∧ w.cell? (ad.add i) = some u ∧ IsNode w S x.kids[i] u := by
 conv => lhs; unfold IsNode
theorem IsNode.keep {w w' : World} {S S' : Nat → Prop} (x : It) : ∀ {v : Value}, IsNode w S x v → (∀ b, S b → b < w.heap.size → S' b) → w.heap.size ≤ w'.heap.size →
 (∀ b, S b → b < w.heap.size → w'.heap[b]? = w.heap[b]?) → IsNode w' S' x v := by
 induction x using It.ind with
 | h x ih =>
 intro v h hS hs hk;rw [node_eq] at h ⊢;refine ⟨h.1, fun i hi => ?_⟩;obtain ⟨ad, c, u, e, hb, hlt, hc, hn⟩ := h.2 i hi;exact ⟨ad, c, u, e, hS _ hb hlt, by omega, (World.cell?_of_block (by rw [add_block]; exact hk _ hb hlt)).trans hc, ih _ (List.getElem_mem hi) hn hS hs hk⟩
theorem IsNode.grown {w w' : World} {S S' : Nat → Prop} {x : It} {v : Value} {g : Option Nat} (h : IsNode w S x v) (hg : w.grownBy w' g) (hS : ∀ b, S b → b < w.heap.size → some b ≠ g ∧ S' b) : IsNode w' S' x v :=
 h.keep x (fun b hb hlt => (hS b hb hlt).2) hg.size fun b hb hlt => hg.block b hlt (hS b hb hlt).1
theorem IsNode.below {w w' : World} {S S' : Nat → Prop} {x : It} {v : Value} {B : Nat} (h : IsNode w S x v) (hb : Below B w w') (hS : ∀ b, S b → b < w.heap.size → b < B ∧ S' b) : IsNode w' S' x v :=
 h.keep x (fun b hb hlt => (hS b hb hlt).2) hb.size fun b hs hlt => hb.block b (hS b hs hlt).1
theorem IsNode.iface {w : World} {S : Nat → Prop} {x : It} {v : Value} (h : IsNode w S x v) : ∃ t p, v = .iface t p := by
 rw [node_eq] at h;rcases h.1 with ⟨_, _, e⟩ | ⟨_, _, e⟩ | ⟨_, A, c, e, _⟩ <;> exact ⟨_, _, e⟩
section
variable {a w w' : World} {r : Option Nat} {g : Nat}
theorem gr_refl (w : World) (r : Option Nat) : w.grownBy w r := ⟨rfl, rfl, rfl, Nat.le_refl _, fun _ _ _ => rfl⟩
theorem gr_alloc (h : a.grownBy w r) (o : Obj) : a.grownBy (w.alloc o) r :=
 ⟨h.os, h.tape, h.output, Nat.le_trans h.size (by simp), fun i hi hne => (Below.heap_alloc w o i (Nat.lt_of_lt_of_le hi h.size)).trans (h.block i hi hne)⟩
theorem gr_drewN (h : a.grownBy w r) (n : Nat) : a.grownBy (w.drewN n) r := ⟨h.os, h.tape, h.output, h.size, h.block⟩
theorem gr_step {q : Option Nat} (h : a.grownBy w r) (k : w.grownBy w' q) (hq : ∀ b, q = some b → a.heap.size ≤ b ∨ r = some b) : a.grownBy w' r :=
 ⟨k.os.trans h.os, k.tape.trans h.tape, k.output.trans h.output, Nat.le_trans h.size k.size, fun i hi hne => (k.block i (Nat.lt_of_lt_of_le hi h.size) (fun e => by
  rcases hq i e.symm with h1 | h1
  · omega
  · exact hne h1.symm)).trans (h.block i hi hne)⟩
theorem gr_bel (h : a.grownBy w r) (k : Below w.heap.size w w') : a.grownBy w' r :=
 ⟨k.os.trans h.os, k.tape.trans h.tape, k.output.trans h.output, Nat.le_trans h.size k.size, fun i hi hne => (k.block i (Nat.lt_of_lt_of_le hi h.size)).trans (h.block i hi hne)⟩
theorem gr_set (h : a.grownBy w r) {p : Addr} (hp : some p.block = r ∨ a.heap.size ≤ p.block) (u : Value) : a.grownBy (w.setCell p u) r :=
 ⟨h.os, h.tape, h.output, by simpa [World.setCell] using h.size, fun i hi hne => (Below.heap_setCell w p u i (by
  rintro rfl;rcases hp with hp | hp
  · exact hne hp
  · omega)).trans (h.block i hi hne)⟩
theorem gr_below {B : Nat} (h : w.grownBy w' r) (hB : B ≤ w.heap.size) (hr : ∀ b, r = some b → B ≤ b) : Below B w w' :=
 ⟨h.os, h.tape, h.output, h.size, fun i hi => h.block i (by omega) (fun e => by have := hr i e.symm; omega)⟩
theorem below_gr (h : Below w.heap.size w w') (r : Option Nat) : w.grownBy w' r := ⟨h.os, h.tape, h.output, h.size, fun i hi _ => h.block i hi⟩
end
def Plan (w : World) (g : Nat) (s : Nat) : Prop := Blk w g 130 #[.int .i64 (s : Int)]
def flt (e p : Nat) : List PanicEntry := [{ v := .iface 117 (.agg #[.int .i64 (e : Int), .int .i64 (p : Int)]), recovered := false }]
end Go.Proofs.YthlhchaoedcdbaaGreatDoor.Cod
/- codec.Num: the item; slices.Clone of items: the same cells in a row of the call's own. -/
namespace Go.Proofs.YthlhchaoedcdbaaGreatDoor
open Lib (hid)
open Go.RowKit Mem Cod
theorem info25 : (Tryz.prog.info? 57).map (fun i => (i.zero, i.size, i.bytes)) = some (some (.agg #[.int .i64 0, .int .u64 0, .string ⟨#[]⟩, .slice none 0 0]), 4, 56) := by kernel_rfl
def Hands (v : Value) (w : World) (e : Ending) (w' : World) : Prop := e = .returned v ∧ Below w.heap.size w w'
theorem num_any (v : Int) (w : World) : Calls Tryz.prog 46 #[.int .u64 v] w (Hands (.agg #[.int .i64 0, .int .u64 v, .string ByteArray.empty, .slice none 0 0]) w) := by
 go_enter Tryz.func46, Tryz.ntmps46
 go_wp2_with fail
 exact bodyPost_ret (v := .agg #[.int .i64 0, .int .u64 v, .string ByteArray.empty, .slice none 0 0]) (by simp [results, Tryz.results46, go_sem]; rfl) rfl ⟨rfl, bel_alloc (Below.refl _ _) _⟩
def Cloned (n : Nat) (vs : List Value) (w : World) (e : Ending) (w' : World) : Prop :=
 ∃ V c, e = .returned (.slice V n c) ∧ w'.ownsRow w.heap.size 57 4 (.slice V n c) n vs ∧ Below w.heap.size w w'
theorem own_form {w : World} {base : Nat} {e : TypeId} {size : Nat} {v : Value} {n : Nat} {xs : List Value} (h : w.ownsRow base e size v n xs) : ∃ V c, v = .slice V n c := by
 rcases h.2 with ⟨rfl, rfl⟩ | ⟨g, cap, cur, rfl, _⟩
 · exact ⟨none, 0, rfl⟩
 · exact ⟨_, _, rfl⟩
set_option maxHeartbeats 1000000 in
theorem clone_any (A : Option Addr) (n c : Nat) (vs : List Value) (w : World) (hl : vs.length = n * 4) (hn : n ≤ 1000000) (h0 : A = none → n = 0 ∧ c = 0) (h1 : ∀ u ∈ vs, u.oneCell' = true) (hc : ∀ ad, A = some ad → ∀ j u, vs[j]? = some u → w.cell? (ad.add j) = some u) :
 Calls Tryz.prog 97 #[.slice A n c] w (Cloned n vs w) := by
 obtain ⟨i0, hi, hz0, hz1, hz2⟩ := info_parts info25
 have hnil : ∀ (W : World) (a : Option Addr) (n c : Nat), (binOp .eql 55 (.slice a n c) (.slice none 0 0)).run Tryz.prog W = .ok (.bool a.isNone) W := fun W a n c => by
  simp only [binOp];simp [run_equal_slice_nil W _ _ a n c Tryz.underlying55]
 have HC := hid hc;have HL := hid hl;have H1 := hid h1;clear hc hl h1;rcases A with _ | ad
 · obtain ⟨rfl, rfl⟩ := h0 rfl
   go_enter Tryz.func97, Tryz.ntmps97
   go_wp2_with fail
   go_ret;have : vs = [] := List.eq_nil_of_length_eq_zero (by have := HL.out; omega);subst this;exact ⟨none, 0, rfl, ⟨rfl, .inl ⟨rfl, rfl⟩⟩, Below.refl _ _⟩
 · clear h0
   go_enter Tryz.func97, Tryz.ntmps97
   go_wp2_with (at_builtin; refine wpList_append_own _ rfl (.tmp 5) (.tmp 6) 55 rfl w.heap.size 57 i0 _ 4 56 Tryz.underlying55 hi hz0 hz1 hz2 rfl (by omega) (.slice (some ⟨w.heap.size, 0, none⟩) 0 0) 0 [] rfl (World.ownsRow_lit w #[] 0 (Nat.le_refl _) (by simp [maxLen]) rfl) ad n c vs rfl HL.out (fun j u hu => (World.cell?_alloc_lt w _ _ (World.block_lt_of_cell? w _ (HC.out ad rfl j u hu))).trans (HC.out ad rfl j u hu)) H1.out (by unfold maxLen; omega) (by omega) (by rw [size_alloc]; omega) ?_; rw [Nat.zero_add, List.nil_append]; intro v1 w1 hown1 hg1 _; obtain ⟨V1, c1, rfl⟩ := own_form hown1)
   go_ret;refine ⟨V1, c1, rfl, hown1, (bel_alloc (Below.refl _ _) _).trans (gr_below hg1 (by rw [size_alloc]; omega) fun b hb => ?_)⟩;simp [Value.ownBlock] at hb;omega
end Go.Proofs.YthlhchaoedcdbaaGreatDoor
/- What codec.List's rounds keep: items whose lists are rows of the call's own, stores of a copied row in the place of the row it was copied from. -/
namespace Go.Proofs.YthlhchaoedcdbaaGreatDoor
open Lib (hid)
open Go.RowKit Mem Cod
structure Hung where
 x : It
 A : Option Addr
 c : Nat
def Hung.cells (h : Hung) : List Value := [.int .i64 h.x.kind, .int .u64 (h.x.num : Int), .string h.x.str, .slice h.A h.x.kids.length h.c]
def cells4 (hs : List Hung) : List Value := hs.flatMap Hung.cells
theorem length_cells4 (hs : List Hung) : (cells4 hs).length = hs.length * 4 := by
 induction hs with
 | nil => rfl
 | cons h hs ih => simp [cells4, Hung.cells] at *; omega
theorem cells4_one (hs : List Hung) : ∀ u ∈ cells4 hs, u.oneCell' = true := by
 intro u hu;obtain ⟨h, _, hu⟩ := List.mem_flatMap.1 hu;simp [Hung.cells] at hu;rcases hu with rfl | rfl | rfl | rfl <;> rfl
theorem cells4_at (hs : List Hung) (i k : Nat) (hk : k < 4) : (cells4 hs)[i * 4 + k]? = (hs[i]?).bind fun h => h.cells[k]? := by
 induction hs generalizing i with
 | nil => simp [cells4]
 | cons h hs ih =>
   cases i with
   | zero => simp only [cells4, List.flatMap_cons, Nat.zero_mul, Nat.zero_add]; rw [List.getElem?_append_left (by simp [Hung.cells]; omega)]; simp
   | succ i =>
     have : (i + 1) * 4 + k = (i * 4 + k) + 4 := (by omega);simp only [cells4, List.flatMap_cons] at ih ⊢;rw [List.getElem?_append_right (by simp [Hung.cells]; omega), show (i + 1) * 4 + k - h.cells.length = i * 4 + k by simp [Hung.cells]; omega, ih i];simp
theorem add_off (ad : Addr) (n k : Nat) (hk : 0 < k) : (⟨(ad.add n).block, (ad.add n).off + k, none⟩ : Addr) = ad.add (n + k) := by
 unfold Addr.add;by_cases hn : n = 0
 · simp [hn]; omega
 · rw [if_neg hn, if_neg (by omega)]; simp [Nat.add_assoc]
theorem spot_iff (w : World) (ad : Addr) (i : Nat) (h : Hung) : Spot w (ad.add (i * 4)) h.x h.A h.c ↔ ∀ k u, h.cells[k]? = some u → w.cell? (ad.add (i * 4 + k)) = some u := by
 constructor
 · rintro ⟨s0, s1, s2, s3⟩ k u hu
   rw [add_off _ _ _ (by omega)] at s1 s2 s3;rcases k with _ | _ | _ | _ | k
   · simp [Hung.cells] at hu; subst hu; exact s0
   · simp [Hung.cells] at hu; subst hu; exact s1
   · simp [Hung.cells] at hu; subst hu; exact s2
   · simp [Hung.cells] at hu; subst hu; exact s3
   · simp [Hung.cells] at hu
 · intro hh
   refine ⟨hh 0 _ rfl, ?_, ?_, ?_⟩ <;> rw [add_off _ _ _ (by omega)]
   · exact hh 1 _ rfl
   · exact hh 2 _ rfl
   · exact hh 3 _ rfl
theorem Row.hung {w : World} {S : Nat → Prop} {A : Option Addr} {n c : Nat} {l : List It} (h : Row w S A n c l) :
 ∃ hs : List Hung, hs.map (·.x) = l ∧ (∀ h ∈ hs, Lies w S h.x h.A h.c) ∧ ∀ ad, A = some ad → ∀ j u, (cells4 hs)[j]? = some u → w.cell? (ad.add j) = some u := by
 obtain ⟨hl, hb, hi⟩ := h
 have hx : ∀ i : Nat, ∃ p : Option Addr × Nat, ∀ y, l[i]? = some y → ∃ ad, A = some ad ∧ Spot w (ad.add (i * 4)) y p.1 p.2 ∧ Lies w S y p.1 p.2 := by
  intro i;cases hy : l[i]? with
  | none => exact ⟨(none, 0), fun y h => by cases h⟩
  | some y =>
    obtain ⟨ad, A', c', e, _, _, hsp, hl⟩ := hi i y hy;exact ⟨(A', c'), fun z hz => by cases hz; exact ⟨ad, e, hsp, hl⟩⟩
 obtain ⟨f, hf⟩ := Classical.axiomOfChoice hx
 refine ⟨l.mapIdx fun i y => ⟨y, (f i).1, (f i).2⟩, by
  apply List.ext_getElem?;intro i;rw [List.getElem?_map, List.getElem?_mapIdx];cases l[i]? <;> rfl, ?_, ?_⟩
 · intro h hh
   obtain ⟨i, hi', rfl⟩ := List.mem_mapIdx.1 hh;obtain ⟨_, _, _, hl⟩ := hf i _ (List.getElem?_eq_getElem hi');exact hl
 · intro ad e j u hu
   have hj : j = j / 4 * 4 + j % 4 := (by omega);rw [hj, cells4_at _ _ _ (Nat.mod_lt _ (by omega))] at hu;rw [List.getElem?_mapIdx] at hu;cases hy : l[j / 4]? with
   | none => rw [hy] at hu; simp at hu
   | some y =>
     rw [hy] at hu;obtain ⟨ad', e', hsp, _⟩ := hf (j / 4) y hy;cases e.symm.trans e';have := (spot_iff w ad (j / 4) ⟨y, (f (j / 4)).1, (f (j / 4)).2⟩).1 hsp (j % 4) u (by simpa using hu);rwa [← hj] at this
theorem Row.of_hung {w : World} {S : Nat → Prop} {A : Option Addr} {n c : Nat} {hs : List Hung} (hl : hs.length = n) (hc : n ≤ c ∧ c ≤ 9223372036854775807 ∧ (A = none → c = 0)) (hL : ∀ h ∈ hs, Lies w S h.x h.A h.c)
 (hA : 0 < n → ∃ ad, A = some ad ∧ S ad.block ∧ ad.block < w.heap.size ∧ ∀ j u, (cells4 hs)[j]? = some u → w.cell? (ad.add j) = some u) : Row w S A n c (hs.map (·.x)) := by
 refine ⟨by simp [hl], hc, fun i y hy => ?_⟩;rw [List.getElem?_map, Option.map_eq_some_iff] at hy;obtain ⟨h, hh, rfl⟩ := hy;have hi := (List.getElem?_eq_some_iff.1 hh).1;obtain ⟨ad, e, hS, hb, hcell⟩ := hA (by omega);refine ⟨ad, h.A, h.c, e, hS, hb, (spot_iff w ad i h).2 fun k u hu => hcell _ u ?_, hL h (List.mem_of_getElem? hh)⟩
 have hk : k < 4 := by
  have := (List.getElem?_eq_some_iff.1 hu).1;simpa [Hung.cells] using this
 rw [cells4_at _ _ _ hk, hh];exact hu
theorem cell_ne_of {w : World} {p q : Addr} {u v : Value} (hp : w.cell? p = some u) (hq : w.cell? q = some v) (h : u ≠ v) : p ≠ q := by
 rintro rfl;rw [hp] at hq;cases hq;exact h rfl
theorem lies_swap {w : World} {S : Nat → Prop} {p : Addr} {A1 V : Option Addr} {n1 c1 cv : Nat} (hp : w.cell? p = some (.slice A1 n1 c1)) (hV : n1 ≤ cv ∧ cv ≤ 9223372036854775807 ∧ (V = none → cv = 0))
 (hcl : 0 < n1 → ∃ ad1 ad2, A1 = some ad1 ∧ V = some ad2 ∧ S ad2.block ∧ ad2.block < w.heap.size ∧ ad2.block ≠ p.block ∧ ∀ k, k < n1 * 4 → w.cell? (ad2.add k) = w.cell? (ad1.add k)) :
 ∀ (N : Nat) (x : It) (A : Option Addr) (c : Nat), wt x ≤ N → Lies w S x A c → Lies (w.setCell p (.slice V n1 cv)) S x A c := by
 have hsz : (w.setCell p (.slice V n1 cv)).heap.size = w.heap.size := by simp [World.setCell]
 intro N;induction N with
 | zero => intro x A c hx; have := wt_pos x; omega
 | succ N ih =>
   intro x A c hx h;rw [lies_eq] at h ⊢;refine ⟨h.1, h.2.1, fun i hi => ?_⟩;obtain ⟨ad, A', c', e, hS, hb, ⟨s0, s1, s2, s3⟩, hy⟩ := h.2.2 i hi;have hwt := wt_kid hi;have n0 := cell_ne_of hp s0 (by simp);have n1' := cell_ne_of hp s1 (by simp);have n2 := cell_ne_of hp s2 (by simp);by_cases hq : p = ⟨(ad.add (i * 4)).block, (ad.add (i * 4)).off + 3, none⟩
   · have e3 := hp.symm.trans ((congrArg w.cell? hq).trans s3)
     injection e3 with e3;injection e3 with e4 e5 e6;subst e4; subst e5; subst e6;refine ⟨ad, V, cv, e, hS, by rw [hsz]; exact hb, ⟨(World.cell?_setCell_other w p _ _ n0).trans s0, (World.cell?_setCell_other w p _ _ n1').trans s1, (World.cell?_setCell_other w p _ _ n2).trans s2, ?_⟩, ?_⟩
     · rw [← hq]; exact World.cell?_setCell_same w p _ hp
     · have hy' := hy
       rw [lies_eq] at hy' ⊢;refine ⟨hy'.1, hV, fun k hk => ?_⟩;obtain ⟨b1, A2, c2, e2, _, _, hsp, hz⟩ := hy'.2.2 k hk;obtain ⟨ad1, ad2, f1, f2, f3, f4, f5, f6⟩ := hcl (by omega);cases e2.symm.trans f1;refine ⟨ad2, A2, c2, f2, f3, by rw [hsz]; exact f4, ?_, ih _ _ _ (by have := wt_kid hk; omega) hz⟩;have := (spot_iff w b1 k ⟨_, A2, c2⟩).1 hsp;refine (spot_iff _ ad2 k ⟨_, A2, c2⟩).2 fun j u hu => ?_
       have hj : j < 4 := by
        have := (List.getElem?_eq_some_iff.1 hu).1;simpa [Hung.cells] using this
       rw [World.cell?_setCell_other w p _ _ (fun e => f5 (by rw [e, add_block])), f6 _ (by omega)];exact this j u hu
   · exact ⟨ad, A', c', e, hS, by rw [hsz]; exact hb, ⟨(World.cell?_setCell_other w p _ _ n0).trans s0, (World.cell?_setCell_other w p _ _ n1').trans s1, (World.cell?_setCell_other w p _ _ n2).trans s2, (World.cell?_setCell_other w p _ _ hq).trans s3⟩, ih _ _ _ (by omega) hy⟩
def Itm (T : Nat → Prop) (B : Nat) (w : World) (b : Nat) : Prop := (b < B ∧ T b) ∨ (B < b ∧ ∃ cur, w.heap[b]? = some (.cells cur 57 (0, 0)))
theorem Itm.bel {T : Nat → Prop} {B : Nat} {w w' : World} {b : Nat} (h : Itm T B w b) (hb : Below w.heap.size w w') (hlt : b < w.heap.size) : Itm T B w' b := by
 rcases h with h | ⟨hB, cur, h⟩
 · exact .inl h
 · exact .inr ⟨hB, cur, (hb.block b hlt).trans h⟩
theorem Itm.grown {T : Nat → Prop} {B g : Nat} {w w' : World} {b : Nat} (h : Itm T B w b) (hg : w.grownBy w' (some g)) (hlt : b < w.heap.size) (hne : b ≠ g) : Itm T B w' b := by
 rcases h with h | ⟨hB, cur, h⟩
 · exact .inl h
 · exact .inr ⟨hB, cur, (hg.block b hlt (by simpa using hne)).trans h⟩
theorem set_row (w : World) (p : Addr) (u : Value) {cur : Array Value} {t : TypeId} (h : w.heap[p.block]? = some (.cells cur t (0, 0))) : ∃ cur', (w.setCell p u).heap[p.block]? = some (.cells cur' t (0, 0)) := by
 cases hs : p.spot with
 | none => exact ⟨cur.setIfInBounds p.off u, by simp [World.setCell, Array.getElem?_modify, h, hs]⟩
 | some s => exact ⟨cur, by simp [World.setCell, Array.getElem?_modify, h, hs]⟩
theorem Itm.set {T : Nat → Prop} {B : Nat} {w : World} {b : Nat} (h : Itm T B w b) (p : Addr) (u : Value) : Itm T B (w.setCell p u) b := by
 rcases h with h | ⟨hB, cur, h⟩
 · exact .inl h
 · right
   refine ⟨hB, ?_⟩;by_cases e : p.block = b
   · subst e
     exact set_row w p u h
   · exact ⟨cur, (Below.heap_setCell w p u b (fun h => e h.symm)).trans h⟩
structure Fine (T : Nat → Prop) (B : Nat) (w : World) (A : Option Addr) (n c : Nat) (l : List It) : Prop where
 row : Row w (Itm T B w) A n c l
 own : 0 < n → ∃ g cur, A = some ⟨g, 0, none⟩ ∧ B < g ∧ w.heap[g]? = some (.cells cur 57 (0, 0))
section
variable {T : Nat → Prop} {B : Nat} {w w' : World} {A : Option Addr} {n c : Nat} {l : List It}
theorem Fine.bel (h : Fine T B w A n c l) (hb : Below w.heap.size w w') : Fine T B w' A n c l :=
 ⟨h.row.keep (fun _ hb' hlt => hb'.bel hb hlt) hb.size fun _ _ hp => hb.cell hp, fun hn => by
  obtain ⟨g, cur, e, hB, hg⟩ := h.own hn;exact ⟨g, cur, e, hB, (hb.block g (Array.getElem?_eq_some_iff.1 hg).1).trans hg⟩⟩
theorem Fine.grown {g : Nat} (h : Fine T B w A n c l) (hg : w.grownBy w' (some g)) (hB : B < g) (hne : ∀ cur, w.heap[g]? ≠ some (.cells cur 57 (0, 0))) : Fine T B w' A n c l := by
 have hk : ∀ b, Itm T B w b → b ≠ g := by
  rintro b hb rfl;rcases hb with hb | ⟨_, cur, hb⟩
  · omega
  · exact hne cur hb
 refine ⟨h.row.keep (fun b hb hlt => hb.grown hg hlt (hk b hb)) hg.size fun p hp hlt => World.cell?_of_block (hg.block _ hlt (by simpa using hk _ hp)), fun hn => ?_⟩;obtain ⟨b, cur, e, hB', hb⟩ := h.own hn;exact ⟨b, cur, e, hB', (hg.block b (Array.getElem?_eq_some_iff.1 hb).1 (by simpa using hk b (.inr ⟨hB', cur, hb⟩))).trans hb⟩
end
theorem Fine.swap {T : Nat → Prop} {B : Nat} {w : World} {A : Option Addr} {n c : Nat} {l : List It} (h : Fine T B w A n c l) {p : Addr} {A1 V : Option Addr} {n1 c1 cv : Nat} (hp : w.cell? p = some (.slice A1 n1 c1)) (hV : n1 ≤ cv ∧ cv ≤ 9223372036854775807 ∧ (V = none → cv = 0))
 (hcl : 0 < n1 → ∃ ad1 ad2, A1 = some ad1 ∧ V = some ad2 ∧ Itm T B w ad2.block ∧ ad2.block < w.heap.size ∧ ad2.block ≠ p.block ∧ ∀ k, k < n1 * 4 → w.cell? (ad2.add k) = w.cell? (ad1.add k)) :
 Fine T B (w.setCell p (.slice V n1 cv)) A n c l := by
 have hsz : (w.setCell p (.slice V n1 cv)).heap.size = w.heap.size := by simp [World.setCell]
 refine ⟨?_, fun hn => ?_⟩
 · have h1 : Lies w (Itm T B w) (.mk 0 0 ByteArray.empty l) A c := h.row.lies (by omega) (by omega) (by show (0 : Nat) ≤ _; omega)
   have h2 := lies_swap hp hV hcl _ _ _ _ (Nat.le_refl _) h1;have h3 := (h2.more (S' := Itm T B (w.setCell p (.slice V n1 cv))) fun b hb _ => hb.set p _).row;simp only [It.kids] at h3;rw [h.row.1] at h3;exact h3
 · obtain ⟨g, cur, e, hB, hg⟩ := h.own hn
   by_cases hb : p.block = g
   · subst hb
     obtain ⟨cur', h'⟩ := set_row w p (.slice V n1 cv) hg;exact ⟨_, cur', e, hB, h'⟩
   · exact ⟨g, cur, e, hB, (Below.heap_setCell w p _ g (fun h => hb h.symm)).trans hg⟩
theorem blk4_set {w : World} {g : Nat} {t : TypeId} {a b c d : Value} (h : Blk w g t #[a, b, c, d]) (a' b' c' d' : Value) :
 Blk ((((w.setCell ⟨g, 0, none⟩ a').setCell ⟨g, 1, none⟩ b').setCell ⟨g, 2, none⟩ c').setCell ⟨g, 3, none⟩ d') g t #[a', b', c', d'] ∧ w.grownBy ((((w.setCell ⟨g, 0, none⟩ a').setCell ⟨g, 1, none⟩ b').setCell ⟨g, 2, none⟩ c').setCell ⟨g, 3, none⟩ d') (some g) :=
 ⟨by simpa using (((h.put 0 a').put 1 b').put 2 c').put 3 d', gr_set (p := ⟨g, 3, none⟩) (gr_set (p := ⟨g, 2, none⟩) (gr_set (p := ⟨g, 1, none⟩) (gr_set (p := ⟨g, 0, none⟩) (gr_refl w (some g)) (.inl rfl) _) (.inl rfl) _) (.inl rfl) _) (.inl rfl) _⟩
theorem own_type_ne {w : World} {base : Nat} {e t : TypeId} {size : Nat} {v : Value} {n g : Nat} {xs : List Value} {cur : Array Value} (h : w.ownsRow base e size v n xs) (hg : w.heap[g]? = some (.cells cur t (0, 0))) (hne : e ≠ t) : v.ownBlock ≠ some g := by
 rcases h.2 with ⟨rfl, _⟩ | ⟨b, cap, cur', rfl, _, hb, _⟩
 · simp [Value.ownBlock]
 · intro e'
   have : b = g := (by simpa [Value.ownBlock] using e');subst this;rw [hg] at hb;injection hb with hb;injection hb with _ hb _;exact hne hb.symm
theorem ownsRow_pop {w : World} {base : Nat} {e : TypeId} {V : Option Addr} {n c : Nat} {xs : List Value} {u : Value} (h : w.ownsRow base e 1 (.slice V (n + 1) c) (n + 1) (xs ++ [u])) : w.ownsRow base e 1 (.slice V n c) n xs := by
 obtain ⟨hl, hr⟩ := h;simp at hl;refine ⟨by simpa using hl, ?_⟩;rcases hr with ⟨_, h0⟩ | ⟨g, cap, cur, hv, hb, hg, hn, hm, hs, ht⟩
 · omega
 · injection hv with h1 _ h2
   subst h1; subst h2;refine .inr ⟨g, c, cur, rfl, hb, hg, by omega, hm, hs, ?_⟩;have := congrArg (List.take n) ht;rw [List.take_take, show min n ((n + 1) * 1) = n by omega] at this;rw [Nat.mul_one, this, ← hl];exact List.take_left
theorem owns_low {w : World} {base base' : Nat} {e : TypeId} {s : Nat} {v : Value} {n : Nat} {xs : List Value} (h : w.ownsRow base e s v n xs) (hb : ∀ b, base ≤ b → b < w.heap.size → base' ≤ b) : w.ownsRow base' e s v n xs :=
 ⟨h.1, h.2.imp id fun ⟨g, cap, cur, e1, hg, hh, r⟩ => ⟨g, cap, cur, e1, hb g hg (Array.getElem?_eq_some_iff.1 hh).1, hh, r⟩⟩
def Whole (w : World) (B : Nat) (x : It) (A : Option Addr) (c : Nat) : Prop :=
 Lies w (fun b => B ≤ b) x A c ∧ ∃ hs : List Hung, w.ownsRow B 57 4 (.slice A x.kids.length c) x.kids.length (cells4 hs) ∧ hs.map (·.x) = x.kids ∧
  ∀ h ∈ hs, Lies w (fun b => B ≤ b ∧ some b ≠ (Value.slice A x.kids.length c).ownBlock) h.x h.A h.c
theorem Whole.lies {w : World} {B : Nat} {x : It} {A : Option Addr} {c : Nat} (h : Whole w B x A c) : Lies w (fun b => B ≤ b) x A c := h.1
theorem Whole.grown {w w' : World} {B : Nat} {x : It} {A : Option Addr} {c : Nat} {g : Option Nat} (h : Whole w B x A c) (hg : w.grownBy w' g) (hS : ∀ b, B ≤ b → some b ≠ g) : Whole w' B x A c := by
 obtain ⟨h1, hs, h2, h3, h4⟩ := h;refine ⟨h1.grown hg hS, hs, h2.kept hg ?_, h3, fun k hk => (h4 k hk).grown hg fun b hb => hS b hb.1⟩;cases ho : (Value.slice A x.kids.length c).ownBlock with
 | none => exact .inl rfl
 | some k => exact .inr (hS k (h2.lt k ho).1)
theorem Whole.below {w w' : World} {B : Nat} {x : It} {A : Option Addr} {c : Nat} (h : Whole w B x A c) (hb : Below w.heap.size w w') : Whole w' B x A c := by
 obtain ⟨h1, hs, h2, h3, h4⟩ := h;exact ⟨h1.keep x (fun _ h _ => h) hb.size fun p _ hp => hb.cell hp, hs, ownsRow_below h2 hb, h3, fun k hk => (h4 k hk).keep k.x (fun _ h _ => h) hb.size fun p _ hp => hb.cell hp⟩
theorem Whole.alloc {w : World} {B : Nat} {x : It} {A : Option Addr} {c : Nat} (h : Whole w B x A c) (o : Obj) : Whole (w.alloc o) B x A c := h.below (bel_alloc (Below.refl _ _) o)
theorem Whole.drew {w : World} {B : Nat} {x : It} {A : Option Addr} {c : Nat} (h : Whole w B x A c) : Whole w.drew B x A c := h.below (Below.refl w.heap.size w).drew
theorem Whole.more {w : World} {B B' : Nat} {x : It} {A : Option Addr} {c : Nat} (h : Whole w B x A c) (hS : ∀ b, B ≤ b → b < w.heap.size → B' ≤ b) : Whole w B' x A c := by
 obtain ⟨h1, hs, h2, h3, h4⟩ := h;exact ⟨h1.more hS, hs, owns_low h2 hS, h3, fun k hk => (h4 k hk).more fun b hb hl => ⟨hS b hb.1 hl, hb.2⟩⟩
theorem Whole.bare {w : World} {B : Nat} {x : It} (h : Lies w (fun b => B ≤ b) x none 0) (hk : x.kids = []) : Whole w B x none 0 := by
 refine ⟨h, [], ?_, by rw [hk]; rfl, fun k hk => by cases hk⟩;rw [hk];exact ⟨rfl, .inl ⟨rfl, rfl⟩⟩
end Go.Proofs.YthlhchaoedcdbaaGreatDoor
/- codec.List of any items: the item, in memory of the call's own. -/
namespace Go.Proofs.YthlhchaoedcdbaaGreatDoor
open Lib (hid)
open Go.RowKit Mem Cod
theorem info23 : (Tryz.prog.info? 55).map (fun i => (i.zero, i.size, i.bytes)) = some (some (.slice none 0 0), 1, 24) := by kernel_rfl
structure Ent where
 A : Option Addr
 n : Nat
 c : Nat
 l : List It
def Ent.val (e : Ent) : Value := .slice e.A e.n e.c
def ld : List Ent → Nat
 | [] => 0
 | e :: r => wts e.l + 1 + ld r
theorem ld_append (a b : List Ent) : ld (a ++ b) = ld a + ld b := by
 induction a with
 | nil => simp [ld]
 | cons e a ih => simp [ld, ih]; omega
theorem length_ld (es : List Ent) : es.length ≤ ld es := by
 induction es with
 | nil => simp
 | cons e a ih => simp [ld]; omega
structure Work (T : Nat → Prop) (B : Nat) (w : World) (es : List Ent) (Wv : Option Addr) (cw : Nat) : Prop where
 own : w.ownsRow (B + 1) 55 1 (.slice Wv es.length cw) es.length (es.map Ent.val)
 fine : ∀ e ∈ es, Fine T B w e.A e.n e.c e.l
def zero25 : Obj := .cells #[.int .i64 0, .int .u64 0, .string ⟨#[]⟩, .slice none 0 0] 57
def OutRel (S : Nat → Prop) (w : World) (V : Option Addr) (n c : Nat) (l : List It) (K : Nat) (work : Value) (wr : World) : Prop :=
 ∃ (es : List Ent) (Wv : Option Addr) (cw : Nat), work = .slice Wv es.length cw ∧ Work S w.heap.size wr es Wv cw ∧ ld es ≤ K ∧ K ≤ 200001 ∧ Fine S w.heap.size wr V n c l ∧ Below (w.heap.size + 1) (w.alloc zero25) wr
def InRel (S : Nat → Prop) (w : World) (V : Option Addr) (n c : Nat) (l : List It) (e : Ent) (K : Nat) (work i : Value) (wr : World) : Prop :=
 ∃ (k : Nat) (es : List Ent) (Wv : Option Addr) (cw : Nat), k ≤ e.n ∧ i = .int .i64 k ∧ work = .slice Wv es.length cw ∧ Work S w.heap.size wr es Wv cw ∧ ld es + wts (e.l.drop k) ≤ K ∧ Fine S w.heap.size wr e.A e.n e.c e.l ∧ Fine S w.heap.size wr V n c l ∧ Below (w.heap.size + 1) (w.alloc zero25) wr
theorem fine_clone {T : Nat → Prop} {B : Nat} {w w' : World} {V : Option Addr} {n c : Nat} {hs : List Hung} (ho : w'.ownsRow w.heap.size 57 4 (.slice V n c) n (cells4 hs)) (hb : Below w.heap.size w w') (hB : B < w.heap.size) (hl : ∀ h ∈ hs, Lies w (Itm T B w) h.x h.A h.c) :
 Fine T B w' V n c (hs.map (·.x)) := by
 have hlen : hs.length = n := by have := ho.1; rw [length_cells4] at this; omega
 have hn : n = 0 ∨ 0 < n := by omega
 rcases ho.2 with ⟨e, h0⟩ | ⟨g, cap, cur, e, hg, hh, hnc, hm, hsz, ht⟩
 · injection e with e1 e2 e3
   subst e1; subst e2; subst e3;exact ⟨Row.of_hung hlen ⟨Nat.le_refl _, by omega, fun _ => rfl⟩ (fun h hh => (hl h hh).keep _ (fun _ hb' hlt => hb'.bel hb hlt) hb.size fun _ _ hp => hb.cell hp) (fun h => by omega), fun h => by omega⟩
 · injection e with e1 e2 e3
   subst e1; subst e3;unfold maxLen at hm;have hlt := (Array.getElem?_eq_some_iff.1 hh).1;exact ⟨Row.of_hung hlen ⟨hnc, by omega, (fun e => by cases e)⟩ (fun h hh => (hl h hh).keep _ (fun _ hb' hlt => hb'.bel hb hlt) hb.size fun _ _ hp => hb.cell hp) (fun _ => ⟨_, rfl, .inr ⟨by show B < g; omega, cur, hh⟩, hlt, ho.cells (g := g) rfl⟩), fun _ => ⟨g, cur, rfl, by omega, hh⟩⟩
theorem Fine.pushed {T : Nat → Prop} {B : Nat} {w w' : World} {A : Option Addr} {n c : Nat} {l : List It} {v : Value} {m : Nat} {xs : List Value} (h : Fine T B w A n c l) (ho : w.ownsRow (B + 1) 55 1 v m xs) (hg : w.grownBy w' v.ownBlock) : Fine T B w' A n c l := by
 cases hv : v.ownBlock with
 | none =>
   rw [hv] at hg;exact h.bel (gr_below hg (Nat.le_refl _) fun b hb => by cases hb)
 | some g =>
   rw [hv] at hg;refine h.grown hg (ho.lt g hv).1 fun cur hc => own_type_ne ho hc (by decide) hv
set_option maxHeartbeats 4000000 in
theorem list_more (A : Option Addr) (n c : Nat) (S : Nat → Prop) (l : List It) (w : World) (hl : Row w S A n c l) (hS : ∀ b, S b → b < w.heap.size) (hsz : wts l ≤ 100000) :
 Calls Tryz.prog 45 #[.slice A n c] w fun e w' => ∃ V c', e = .returned (.agg #[.int .i64 2, .int .u64 0, .string ByteArray.empty, .slice V n c']) ∧ Row w' (fun b => b < w'.heap.size ∧ (S b ∨ w.heap.size < b)) V n c' l ∧ Below w.heap.size w w' := by
 obtain ⟨i0, hi, hz0, hz1, hz2⟩ := info_parts info23;obtain ⟨hs, hhs, hLies, hcell⟩ := Row.hung hl;have hlen := hl.1;have hn : n ≤ 100000 := by have := length_wts l; omega
 obtain ⟨hnc, hcm, hA0⟩ := hl.2.1;have hl4 : (cells4 hs).length = n * 4 := by rw [length_cells4, ← hlen, ← hhs]; simp
 have HHS := hid hhs;have HLI := hid hLies;have HCE := hid hcell;have HL4 := hid hl4;have HS := hid hS;have HA0 := hid hA0;clear hhs hLies hcell hl4 hS hl hlen hA0;go_enter Tryz.func45, Tryz.ntmps45
 go_wp2_with fail
 refine (clone_any A n c (cells4 hs) _ HL4.out (by omega) (fun e => by have := HA0.out e; omega) (cells4_one _) (fun ad e j u hu => (World.cell?_alloc_lt w _ _ (World.block_lt_of_cell? w _ (HCE.out ad e j u hu))).trans (HCE.out ad e j u hu))).mono ?_;rintro e w1 ⟨V, cv, rfl, hown1, hb1⟩
 have hf1 : Fine S w.heap.size w1 V n cv l := by
  have := fine_clone (T := S) (B := w.heap.size) hown1 hb1 (by rw [size_alloc]; omega) fun h hh => ((HLI.out h hh).alloc _).more fun b hb _ => .inl ⟨HS.out b hb, hb⟩;rwa [HHS.out] at this
 have hbw1 : Below (w.heap.size + 1) (w.alloc zero25) w1 := by rw [← size_alloc w zero25]; exact hb1
 have hst : OutRel S w V n cv l (wts l + 1) (.slice (some ⟨w1.heap.size, 0, none⟩) 1 1) (w1.alloc (.cells #[.slice V n cv] 55)) := by
  refine ⟨[⟨V, n, cv, l⟩], _, 1, rfl, ⟨World.ownsRow_lit w1 #[.slice V n cv] 1 (by have := hbw1.size; rwa [size_alloc] at this) (by simp [maxLen]) rfl, ?_⟩, by simp [ld], by omega, hf1.bel (bel_alloc (Below.refl _ _) _), hbw1.alloc (by have := hbw1.size; rwa [size_alloc] at this) _⟩;intro e he;rw [List.mem_singleton.1 he];exact hf1.bel (bel_alloc (Below.refl _ _) _)
 clear hown1 hb1 hf1 hbw1;go_wp2_with fail
 go_loopg [4] (wts l + 1) (OutRel S w V n cv l)
 case atStart => exact hst
 case round =>
  clear hst;obtain ⟨es, Wv, cw, rfl, hwk, hld, hK, hfo, hbw⟩ := hrel;rcases List.eq_nil_or_concat es with rfl | ⟨es', ⟨eA, en, ec, el⟩, rfl⟩
  · have HFO := hid hfo
    have HBW := hid hbw;clear hfo hbw hwk;simp only [List.length_nil];have hblk : Blk wr w.heap.size 57 #[.int .i64 0, .int .u64 0, .string ⟨#[]⟩, .slice none 0 0] := (Blk.new w _ _).below HBW.out (by omega);obtain ⟨c0, c1, c2, c3⟩ := blk4 hblk;have z0 := hblk.soft 0;have z1 := hblk.soft 1;have z2 := hblk.soft 2;have z3 := hblk.soft 3;go_wp2_with fail
    obtain ⟨hblk2, hgr⟩ := blk4_set hblk (.int .i64 2) (.int .u64 0) (.string ⟨#[]⟩) (.slice V n cv);generalize (((wr.setCell ⟨w.heap.size, 0, none⟩ (.int .i64 2)).setCell ⟨w.heap.size, 1, none⟩ (.int .u64 0)).setCell ⟨w.heap.size, 2, none⟩ (.string ⟨#[]⟩)).setCell ⟨w.heap.size, 3, none⟩ (.slice V n cv) = w9 at hblk2 hgr ⊢;obtain ⟨d0, d1, d2, d3⟩ := blk4 hblk2;refine bodyPost_ret (v := .agg #[.int .i64 2, .int .u64 0, .string ByteArray.empty, .slice V n cv]) (by simp [results, Tryz.results45, go_sem, d0, d1, d2, d3]; rfl) rfl ?_;refine ⟨V, cv, rfl, HFO.out.row.keep (fun b hi hb => ⟨by have := hgr.size; omega, hi.elim (fun h => .inl h.2) (fun h => .inr h.1)⟩) hgr.size fun q hq hlt => World.cell?_of_block (hgr.block _ hlt fun e => ?_), ?_⟩
    · have e' : q.block = w.heap.size := by simpa using e
      rcases hq with hq | ⟨hq, _⟩ <;> omega
    · exact (bel_alloc (Below.refl _ _) zero25).trans ((HBW.out.mono (by omega)).trans (gr_below hgr (by have := HBW.out.size; rw [size_alloc] at this; omega) fun b hb => by cases hb; exact Nat.le_refl _))
  · rw [List.concat_eq_append] at *
    have hes : (es' ++ [(⟨eA, en, ec, el⟩ : Ent)]).length = es'.length + 1 := (by simp);rw [hes];have hml : es'.length ≤ 200001 := (by have := length_ld (es' ++ [(⟨eA, en, ec, el⟩ : Ent)]); omega);rw [ld_append] at hld;simp only [ld] at hld;have hown := hwk.own;rw [hes, List.map_append] at hown;simp only [List.map_cons, List.map_nil] at hown;have hrd := Rd.own hown;obtain ⟨ad, u, rfl, _, hu, hcu⟩ := hrd.at_ (k := es'.length) (by omega);rw [List.getElem?_append_right (by simp)] at hu;simp at hu;subst hu;have hle := hrd.le;have hcap := hrd.cap;unfold maxLen at hcap;have hwk' : Work S w.heap.size wr es' (some ad) cw := ⟨ownsRow_pop hown, fun e he => hwk.fine e (by simp [he])⟩
    have hfe : Fine S w.heap.size wr eA en ec el := hwk.fine (⟨eA, en, ec, el⟩ : Ent) (by simp);have HST := hid (show InRel S w V n cv l ⟨eA, en, ec, el⟩ (ld es' + wts el) (.slice (some ad) es'.length cw) (.int .i64 0) wr from ⟨0, es', some ad, cw, Nat.zero_le _, rfl, rfl, hwk', by simp, hfe, hfo, hbw⟩);have hcu' : wr.cell? (ad.add es'.length) = some (.slice eA en ec) := hcu;have hen : el.length = en := hfe.row.1;have hec : en ≤ ec ∧ ec ≤ 9223372036854775807 ∧ (eA = none → ec = 0) := hfe.row.2.1;have hew : en ≤ 200001 := (by have := length_wts el; omega);have HEN := hid hen;clear hes hown hrd hcu hwk hwk' hfe hfo hbw hen;go_wp2_with fail
    go_loopw [4, 27] (InRel S w V n cv l ⟨eA, en, ec, el⟩ (ld es' + wts el)) (fun _ i _ => en - (intOf i).toNat)
    case atStart => exact HST.out
    case round =>
     clear HST hcu';obtain ⟨k, es, Wv, cw2, hk, rfl, rfl, hwk, hld2, hfe, hfo, hbw⟩ := hrel;replace hk : k ≤ en := hk;replace hld2 : ld es + wts (el.drop k) ≤ ld es' + wts el := hld2;replace hfe : Fine S w.heap.size wr eA en ec el := hfe;have HWK := hid hwk;have HFE := hid hfe;have HFO := hid hfo;have HBW := hid hbw;clear hwk hfe hfo hbw;by_cases hlt : k < en
     · obtain ⟨g, cur, rfl, hBg, hg⟩ := HFE.out.own (by omega)
       have hkl : k < el.length := (by have := HEN.out; omega);obtain ⟨ad', A1, c1, hA', _, hblk, hsp, hy⟩ := HFE.out.row.2.2 k el[k] (List.getElem?_eq_getElem hkl);cases hA';replace hblk : g < wr.heap.size := hblk
       have hs3 : wr.cell? ⟨g, k * 4 + 3, none⟩ = some (.slice A1 el[k].kids.length c1) := by
        have := (spot_iff wr ⟨g, 0, none⟩ k ⟨el[k], A1, c1⟩).1 hsp 3 _ rfl;rwa [Addr.add_lit, Nat.zero_add] at this
       obtain ⟨hs1, hhs1, hLi1, hce1⟩ := Row.hung hy.row;have hlen1 : hs1.length = el[k].kids.length := (by rw [← hhs1]; simp);have hdrop : wts (el.drop k) = wt el[k] + wts (el.drop (k + 1)) := (by rw [List.drop_eq_getElem_cons hkl]; simp [wts]);rw [wt_eq] at hdrop;have hnl : el[k].kids.length ≤ 200001 := (by have := length_wts el[k].kids; omega);have hbnd := hy.row.2.1;have HY := hid hy;generalize hN1 : el[k].kids.length = n1 at *;have HN1 := hid hN1;have HHS1 := hid hhs1;have HLI1 := hid hLi1;have HCE1 := hid hce1;have HLEN1 := hid hlen1;have HDR := hid hdrop;have HG := hid hg;have HBND := hid hbnd;clear hN1 hhs1 hLi1 hce1 hlen1 hdrop hg hbnd hsp hy;go_wp2_with fail
       refine (clone_any A1 n1 c1 (cells4 hs1) _ (by rw [length_cells4, HLEN1.out]) (by omega) (fun e => by have := HBND.out; have := this.2.2 e; omega) (cells4_one _) HCE1.out).mono ?_;rintro e1 w2 ⟨V1, c2, rfl, hown2, hb2⟩;have hbw2 : Below (w.heap.size + 1) (w.alloc zero25) w2 := HBW.out.trans (hb2.mono (by have := HBW.out.size; rw [size_alloc] at this; omega));have hB1 : w.heap.size + 1 ≤ wr.heap.size := (by have := HBW.out.size; rwa [size_alloc] at this);have hc2 : w2.cell? ⟨g, k * 4 + 3, none⟩ = some (.slice A1 n1 c1) := (hb2.cell hblk).trans hs3;have hg2 : w2.heap[g]? = some (.cells cur 57 (0, 0)) := (hb2.block g hblk).trans HG.out;have hz2' : w2.frozen? ⟨g, k * 4 + 3, none⟩ = false := by simp [World.frozen?, hg2]
       have hnew2 : Fine S w.heap.size w2 V1 n1 c2 el[k].kids := by
        have := fine_clone (T := S) (B := w.heap.size) hown2 hb2 (by omega) fun h hh => HLI1.out h hh;rwa [HHS1.out] at this
       have hV1 : n1 ≤ c2 ∧ c2 ≤ 9223372036854775807 ∧ (V1 = none → c2 = 0) := hnew2.row.2.1
       have hcl : 0 < n1 → ∃ ad1 ad2, A1 = some ad1 ∧ V1 = some ad2 ∧ Itm S w.heap.size w2 ad2.block ∧ ad2.block < w2.heap.size ∧ ad2.block ≠ g ∧ ∀ k, k < n1 * 4 → w2.cell? (ad2.add k) = w2.cell? (ad1.add k) := by
        intro h0;rcases hown2.2 with ⟨_, h00⟩ | ⟨g2, cap2, cur2, e2, hge, hh, _⟩
        · omega
        injection e2 with e3 _ e4;subst e3
        obtain ⟨ad1, f1⟩ : ∃ ad1, A1 = some ad1 := by
         rcases A1 with _ | ad1
         · have := HBND.out.2.2 rfl; have := HBND.out.1; omega
         · exact ⟨ad1, rfl⟩
        refine ⟨ad1, _, f1, rfl, .inr ⟨by show w.heap.size < g2; omega, cur2, hh⟩, (Array.getElem?_eq_some_iff.1 hh).1, by show g2 ≠ g; omega, fun j hj => ?_⟩;have hj' : j < (cells4 hs1).length := (by rw [length_cells4, HLEN1.out]; exact hj);have q1 := hown2.cells (g := g2) rfl j _ (List.getElem?_eq_getElem hj');have q2 := HCE1.out ad1 f1 j _ (List.getElem?_eq_getElem hj');rw [q1, hb2.cell (World.block_lt_of_cell? wr _ q2), q2]
       have hcc : (w2.setCell ⟨g, k * 4 + 3, none⟩ (.slice V1 n1 c2)).cell? ⟨g, k * 4 + 3, none⟩ = some (.slice V1 n1 c2) := World.cell?_setCell_same w2 _ _ hc2;have hgs : w2.grownBy (w2.setCell ⟨g, k * 4 + 3, none⟩ (.slice V1 n1 c2)) (some g) := gr_set (gr_refl _ _) (.inl rfl) _;have hwo2 := ownsRow_below HWK.out.own hb2;have hwo3 := hwo2.kept hgs (.inr (own_type_ne hwo2 hg2 (by decide)));have sw : ∀ (A : Option Addr) (n c : Nat) (l : List It), Fine S w.heap.size wr A n c l → Fine S w.heap.size (w2.setCell ⟨g, k * 4 + 3, none⟩ (.slice V1 n1 c2)) A n c l := fun _ _ _ _ h => (h.bel hb2).swap hc2 hV1 hcl;have hnew3 : Fine S w.heap.size (w2.setCell ⟨g, k * 4 + 3, none⟩ (.slice V1 n1 c2)) V1 n1 c2 el[k].kids := hnew2.swap hc2 hV1 hcl;have hbw3 : Below (w.heap.size + 1) (w.alloc zero25) (w2.setCell ⟨g, k * 4 + 3, none⟩ (.slice V1 n1 c2)) := hbw2.trans (gr_below hgs (by have := hb2.size; omega) fun b hb => by cases hb; omega);have hs3' : w.heap.size + 1 ≤ (w2.setCell ⟨g, k * 4 + 3, none⟩ (.slice V1 n1 c2)).heap.size := (by have := hgs.size; have := hb2.size; omega);have hssz : (w2.setCell ⟨g, k * 4 + 3, none⟩ (.slice V1 n1 c2)).heap.size = w2.heap.size := (by simp [World.setCell]);have hnews := cell_one_new (w2.setCell ⟨g, k * 4 + 3, none⟩ (.slice V1 n1 c2)) (.slice V1 n1 c2) 55;rw [hssz] at hnews hs3';have HNEWS := hid hnews;have HSSZ := hid hssz;have HWO := hid hwo3;have HSW := hid sw;have HN3 := hid hnew3;have HB3 := hid hbw3;have HS3 := hid hs3';have HG2 := hid hg2;have HGS := hid hgs;have HV1 := hid hV1;clear hnews hssz hwo2 hwo3 sw hnew3 hbw3 hs3' hcl hnew2 hV1 hbw2 hg2 hgs hown2;have hel : es.length ≤ 200001 := (by have := length_ld es; omega);by_cases h1 : 0 < n1
       · go_wp2_with (at_builtin; refine wpList_append_lies _ rfl (.tmp 47) (.tmp 53) 128 rfl (w.heap.size + 1) 55 i0 _ 1 24 Tryz.underlying128 hi hz0 hz1 hz2 rfl (by omega) (.slice Wv es.length cw2) es.length (es.map Ent.val) rfl (HWO.out.alloc _) ⟨w2.heap.size, 0, none⟩ 1 1 [.slice V1 n1 c2] rfl rfl HNEWS.out (by intro u hu; simp at hu; subst hu; rfl) (by omega) (by unfold maxLen; omega) (by omega) (by have := HS3.out; rw [size_alloc, HSSZ.out]; omega) (w2.heap.size + 1) (by rw [size_alloc, HSSZ.out]) ?_; intro g' cap' w7 hown7 hgr7 hat7 hlt7)
         have hes2 : (es ++ [(⟨V1, n1, c2, el[k].kids⟩ : Ent)]).length = es.length + 1 := by simp
         have tr : ∀ (A : Option Addr) (n c : Nat) (l : List It), Fine S w.heap.size (w2.setCell ⟨g, k * 4 + 3, none⟩ (.slice V1 n1 c2)) A n c l → Fine S w.heap.size w7 A n c l := fun A n c l h =>
          (h.bel (bel_alloc (Below.refl _ _) _)).pushed (HWO.out.alloc _) hgr7
         refine ⟨⟨k + 1, es ++ [⟨V1, n1, c2, el[k].kids⟩], some ⟨g', 0, none⟩, cap', by show k + 1 ≤ en; omega, by simp, by rw [hes2], ⟨by rw [hes2, List.map_append]; exact hown7, ?_⟩, ?_, tr _ _ _ _ (HSW.out _ _ _ _ HFE.out), tr _ _ _ _ (HSW.out _ _ _ _ HFO.out), ?_⟩, by simp [intOf]; omega⟩
         · intro e he
           rcases List.mem_append.1 he with he | he
           · exact tr _ _ _ _ (HSW.out _ _ _ _ (HWK.out.fine e he))
           · rw [List.mem_singleton.1 he]
             exact tr _ _ _ _ HN3.out
         · rw [ld_append]
           simp only [ld];have := HDR.out;show ld es + (wts el[k].kids + 1 + 0) + wts (el.drop (k + 1)) ≤ _;omega
         · refine (HB3.out.alloc (by rw [HSSZ.out]; exact HS3.out) _).trans (gr_below hgr7 (by rw [size_alloc, HSSZ.out]; have := HS3.out; omega) fun b hb => (HWO.out.lt b hb).1)
       · go_wp2_with fail
         refine ⟨⟨k + 1, es, Wv, cw2, by show k + 1 ≤ en; omega, by simp, rfl, ⟨HWO.out, fun e he => HSW.out _ _ _ _ (HWK.out.fine e he)⟩, ?_, HSW.out _ _ _ _ HFE.out, HSW.out _ _ _ _ HFO.out, HB3.out⟩, by simp [intOf]; omega⟩;have := HDR.out;show ld es + wts (el.drop (k + 1)) ≤ _;omega
     · obtain rfl : k = en := by omega
       go_wp2_with fail
       go_roundg (ld es)
       case measure => omega
       case rel => exact ⟨es, Wv, cw2, rfl, HWK.out, Nat.le_refl _, by omega, HFO.out, HBW.out⟩
end Go.Proofs.YthlhchaoedcdbaaGreatDoor
/- Items that lie in memory, of no function: a leaf, an item of an item's list, an ending that hands an item over, a list's row just made. -/
namespace Go.Proofs.YthlhchaoedcdbaaGreatDoor
open Lib (hid)
open Go.RowKit Mem Cod
theorem lies_leaf (w : World) (S : Nat → Prop) {k : Int} {n : Nat} {s : ByteArray} (hk : -9223372036854775808 ≤ k ∧ k ≤ 9223372036854775807) (hn : n ≤ 18446744073709551615) (hs : s.size ≤ 140737488355328) : Lies w S (.mk k n s []) none 0 := by
 rw [lies_eq];exact ⟨⟨hk.1, hk.2, hn, hs⟩, ⟨Nat.le_refl _, by omega, fun _ => rfl⟩, fun i hi => by simp [It.kids] at hi⟩
def GivesIt (w : World) (x : It) (e : Ending) (w' : World) : Prop :=
 ∃ V c, e = .returned (.agg #[.int .i64 x.kind, .int .u64 (x.num : Int), .string x.str, .slice V x.kids.length c]) ∧ Lies w' (fun b => b < w'.heap.size) x V c ∧ Below w.heap.size w w'
def GivesNew (w : World) (x : It) (e : Ending) (w' : World) : Prop :=
 ∃ V c, e = .returned (.agg #[.int .i64 x.kind, .int .u64 (x.num : Int), .string x.str, .slice V x.kids.length c]) ∧ Lies w' (fun b => w.heap.size ≤ b ∧ b < w'.heap.size) x V c ∧ Below w.heap.size w w'
theorem GivesNew.it {w : World} {x : It} {e : Ending} {w' : World} (h : GivesNew w x e w') : GivesIt w x e w' := by
 obtain ⟨V, c, he, hl, hb⟩ := h;exact ⟨V, c, he, hl.more fun _ h _ => h.2, hb⟩
theorem u64_in {v : Int} (h0 : 0 ≤ v) (h1 : v ≤ 18446744073709551615) : IntKind.u64.wrap v = v := by
 simp [IntKind.wrap, IntKind.bits, IntKind.signed];omega
theorem lies_kid {w : World} {S : Nat → Prop} {x : It} {A : Option Addr} {c i : Nat} (h : Lies w S x A c) (hi : i < x.kids.length) :
 ∃ g o A' c', A = some ⟨g, o, none⟩ ∧ S g ∧ g < w.heap.size ∧ w.cell? ⟨g, o + i * 4, none⟩ = some (.int .i64 x.kids[i].kind) ∧ w.cell? ⟨g, o + i * 4 + 1, none⟩ = some (.int .u64 (x.kids[i].num : Int)) ∧ w.cell? ⟨g, o + i * 4 + 2, none⟩ = some (.string x.kids[i].str) ∧ w.cell? ⟨g, o + i * 4 + 3, none⟩ = some (.slice A' x.kids[i].kids.length c') ∧ Lies w S x.kids[i] A' c' := by
 rw [lies_eq] at h;obtain ⟨ad0, A0, c0, e0, _, _, hs0, _⟩ := h.2.2 0 (by omega);obtain ⟨ad, A', c', e, hS, hlt, hs, hl⟩ := h.2.2 i hi;have had : ad0 = ad := by rw [e0] at e; injection e
 subst had
 have hsp : ad0.spot = none := by
  have h2 : w.cell? ad0 = some (.int .i64 x.kids[0].kind) := by simpa [Addr.add] using hs0.1
  unfold World.cell? at h2;cases hsp : ad0.spot with
  | none => rfl
  | some _ =>
    rw [hsp] at h2;split at h2
    · simp at h2
    · cases h2
 obtain ⟨g, o, sp⟩ := ad0;have hs' : sp = none := hsp;subst hs';rw [Addr.add_lit] at hs;exact ⟨g, o, A', c', e, hS, hlt, hs.1, hs.2.1, hs.2.2.1, hs.2.2.2, hl⟩
theorem row_new (w : World) (S : Nat → Prop) (hS : S w.heap.size) (hs : List Hung) (n : Nat) (hn : hs.length = n) (hm : n ≤ 1000) (vs : Array Value) (t : TypeId) (hv : vs.toList = cells4 hs) (hL : ∀ h ∈ hs, Lies (w.alloc (.cells vs t)) S h.x h.A h.c) :
 Row (w.alloc (.cells vs t)) S (some ⟨w.heap.size, 0, none⟩) n n (hs.map (·.x)) := by
 refine Row.of_hung hn ⟨Nat.le_refl _, by omega, fun e => by cases e⟩ hL fun _ => ⟨_, rfl, hS, by rw [size_alloc]; exact Nat.lt_succ_self _, fun j u hu => ?_⟩
 rw [Addr.add_lit, Nat.zero_add, (Blk.new w t vs).cell j, ← hu, ← hv];simp
end Go.Proofs.YthlhchaoedcdbaaGreatDoor
/- The document's Num and List. -/
namespace Go.Proofs.YthlhchaoedcdbaaGreatDoor
open Lib (hid)
open Go.RowKit Mem Cod
theorem refnum_any (v : Int) (h0 : 0 ≤ v) (h1 : v ≤ 9223372036854775807) (w : World) : Calls Tryz.prog 61 #[.int .i64 v] w (Hands (.agg #[.int .i64 0, .int .u64 v, .string ByteArray.empty, .slice none 0 0]) w) := by
 have hu : IntKind.u64.wrap v = v := u64_in h0 (by omega);go_enter Tryz.func61, Tryz.ntmps61
 go_wp2_with fail
 exact bodyPost_ret (v := .agg #[.int .i64 0, .int .u64 v, .string ByteArray.empty, .slice none 0 0]) (by simp [results, Tryz.results61, go_sem]; rfl) rfl ⟨rfl, bel_alloc (Below.refl _ _) _⟩
theorem reflist_any (V : Option Addr) (n c : Nat) (w : World) : Calls Tryz.prog 66 #[.slice V n c] w (Hands (.agg #[.int .i64 2, .int .u64 0, .string ByteArray.empty, .slice V n c]) w) := by
 go_enter Tryz.func66, Tryz.ntmps66
 go_wp2_with fail
 exact bodyPost_ret (v := .agg #[.int .i64 2, .int .u64 0, .string ByteArray.empty, .slice V n c]) (by simp [results, Tryz.results66, go_sem]; rfl) rfl ⟨rfl, bel_alloc (Below.refl _ _) _⟩
end Go.Proofs.YthlhchaoedcdbaaGreatDoor
/- An item that came in, as the row's reading opens it: it lies in memory with all that it leads to. -/
namespace Go.Proofs.YthlhchaoedcdbaaGreatDoor
open Lib (hid)
open Go.ChangeShapes Go.WideShapes Go.Deep Go.RowKit Mem Cod
section
variable {H : Type} {enc : TypeId × Value → H} {W : World} {held : Bool}
end
end Go.Proofs.YthlhchaoedcdbaaGreatDoor
