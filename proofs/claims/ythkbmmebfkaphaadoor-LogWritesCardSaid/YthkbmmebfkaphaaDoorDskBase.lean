/-
  Texts of earlier layers, as one.
-/
import GoSem.Op.String
import Derived.Laws.Strings
import Derived.Test.YthkbmmebfkaphaaDoorRBase
/- A disk, plainly: files by rising names, each with sure bytes and a tail; what each deed does; plain mathematics, of no program. -/
namespace Go.Proofs.YthkbmmebfkaphaaDoor.Dsk

/-- A file; a disk. -/
structure Fl where
  nm : ByteArray
  sure : List Nat
  tail : List Nat
structure Dk where
  fs : List Fl
  room : Int
  fuse : Int
  dn : Bool
/-- Names: the same, and which is greater. -/
def eqn (a b : ByteArray) : Bool := a.toList == b.toList
def gtn (a b : ByteArray) : Bool := !(Op.bytesLess a.toList b.toList || a.toList == b.toList)
/-- A letter of a name; a name. -/
def letter (c : Nat) : Bool := (decide (97 ≤ c) && decide (c ≤ 122)) || ((decide (48 ≤ c) && decide (c ≤ 57)) || (decide (c = 46) || decide (c = 45)))
def isName (s : ByteArray) : Bool := s.data.toList.all (fun b => letter b.toNat) && (decide (1 ≤ s.size) && decide (s.size ≤ 16))
def Fl.all (f : Fl) : List Nat := f.sure ++ f.tail
def Fl.len (f : Fl) : Nat := f.sure.length + f.tail.length
def used : List Fl → Nat
  | [] => 0
  | f :: r => f.len + used r
/-- A file's place. -/
def place (l : List Fl) (s : ByteArray) : Option Nat := l.findIdx? fun f => eqn f.nm s
def drop (s : ByteArray) (l : List Fl) : List Fl := l.filter fun f => !eqn f.nm s
def put (f : Fl) : List Fl → List Fl
  | [] => [f]
  | x :: r => if gtn x.nm f.nm = true then f :: x :: r else x :: put f r
def newDk (room : Int) : Dk := ⟨[], max room 0, -1, false⟩
/-- Does the power fail with a deed? The disk behind it. -/
def fails (d : Dk) : Bool := d.dn || decide (d.fuse = 0)
def deed (d : Dk) : Dk := if fails d = true then { d with dn := true } else if 0 < d.fuse then { d with fuse := d.fuse - 1 } else d
/-- What a deed answers, and what it leaves, ahead of whether the power fails. -/
def doAppend (s : ByteArray) (b : List Nat) (d : Dk) : Nat × Dk :=
  if isName s = false then (1, d) else if d.room < (used d.fs : Int) + b.length then (7, d) else
    match place d.fs s with
    | none => if 16 ≤ d.fs.length then (12, d) else (0, { d with fs := put ⟨s, [], b⟩ d.fs })
    | some i => (0, { d with fs := d.fs.modify i fun f => { f with tail := f.tail ++ b } })
def doSync (s : ByteArray) (d : Dk) : Nat × Dk :=
  match place d.fs s with
  | none => (8, d)
  | some i => (0, { d with fs := d.fs.modify i fun f => { f with sure := f.all, tail := [] } })
def doCut (s : ByteArray) (n : Int) (d : Dk) : Nat × Dk :=
  match place d.fs s with
  | none => (8, d)
  | some i => if n < 0 ∨ ((d.fs.getD i ⟨s, [], []⟩).all.length : Int) < n then (6, d) else (0, { d with fs := d.fs.modify i fun f => { f with sure := f.all.take n.toNat, tail := [] } })
def doMove (s t : ByteArray) (d : Dk) : Nat × Dk :=
  match place d.fs s with
  | none => (8, d)
  | some i => if isName t = false then (1, d) else (0, { d with fs := put ⟨t, (d.fs.getD i ⟨s, [], []⟩).all, []⟩ (drop t (drop s d.fs)) })
def doRemove (s : ByteArray) (d : Dk) : Nat × Dk :=
  match place d.fs s with
  | none => (8, d)
  | some _ => (0, { d with fs := drop s d.fs })
/-- With whether the power fails. -/
def whole (f : Dk → Nat × Dk) (d : Dk) : Nat × Dk := if fails d = true then (15, deed d) else f (deed d)
def read (s : ByteArray) (d : Dk) : List Nat × Nat :=
  if d.dn = true then ([], 15) else match place d.fs s with
    | none => ([], 8)
    | some i => ((d.fs.getD i ⟨s, [], []⟩).all, 0)
/-- The power fails, and comes back: the tail k keeps so many bytes. -/
def bootFs : List Fl → List Int → List Fl
  | [], _ => []
  | f :: r, ks => if f.tail = [] then { f with tail := [] } :: bootFs r ks else
    match ks with
    | [] => { f with sure := f.all, tail := [] } :: bootFs r []
    | k :: ks => { f with sure := f.sure ++ f.tail.take (max 0 (min k f.tail.length)).toNat, tail := [] } :: bootFs r ks
def boot (ks : List Int) (d : Dk) : Dk := ⟨bootFs d.fs ks, d.room, -1, false⟩
theorem eqn_iff (a b : ByteArray) : eqn a b = true ↔ a.toList = b.toList := beq_iff_eq
theorem eqn_self (a : ByteArray) : eqn a a = true := (eqn_iff a a).2 rfl
theorem Fl.len_all (f : Fl) : f.all.length = f.len := List.length_append
theorem used_append (a b : List Fl) : used (a ++ b) = used a + used b := by
  induction a with
  | nil => simp [used]
  | cons f r ih => simp only [List.cons_append, used, ih]; omega
theorem used_put (f : Fl) (l : List Fl) : used (put f l) = f.len + used l := by
  induction l with
  | nil => rfl
  | cons x r ih =>
    unfold put
    split
    · rfl
    · simp only [used, ih]; omega
theorem length_put (f : Fl) (l : List Fl) : (put f l).length = l.length + 1 := by
  induction l with
  | nil => rfl
  | cons x r ih =>
    unfold put
    split
    · rfl
    · simp only [List.length_cons, ih]
theorem used_drop (s : ByteArray) (l : List Fl) : used (drop s l) ≤ used l := by
  unfold drop
  induction l with
  | nil => exact Nat.le_refl _
  | cons x r ih =>
    rw [List.filter_cons]
    split
    · simp only [used]; omega
    · simp only [used]; omega
theorem length_drop (s : ByteArray) (l : List Fl) : (drop s l).length ≤ l.length := List.length_filter_le _ _
theorem place_some {l : List Fl} {s : ByteArray} {i : Nat} (h : place l s = some i) : ∃ f, l[i]? = some f ∧ eqn f.nm s = true := by
  unfold place at h
  obtain ⟨hi, h1, _⟩ := List.findIdx?_eq_some_iff_getElem.1 h
  exact ⟨l[i], List.getElem?_eq_getElem hi, h1⟩
theorem place_none {l : List Fl} {s : ByteArray} (h : place l s = none) : ∀ f ∈ l, eqn f.nm s = false := by
  unfold place at h
  rw [List.findIdx?_eq_none_iff] at h
  exact fun f hf => h f hf
theorem used_drop_at {l : List Fl} {s : ByteArray} {i : Nat} {f : Fl} (h : l[i]? = some f) (hs : eqn f.nm s = true) : used (drop s l) + f.len ≤ used l := by
  induction l generalizing i with
  | nil => cases h
  | cons x r ih =>
    cases i with
    | zero =>
      injection h with h
      subst h
      have h1 := used_drop s r
      unfold drop at h1 ⊢
      rw [List.filter_cons, hs]
      simp only [Bool.not_true, Bool.false_eq_true, if_false, used]
      omega
    | succ i =>
      have h1 := ih (i := i) h
      unfold drop at h1 ⊢
      rw [List.filter_cons]
      split
      · simp only [used]; omega
      · simp only [used]; omega
theorem length_drop_at {l : List Fl} {s : ByteArray} {i : Nat} {f : Fl} (h : l[i]? = some f) (hs : eqn f.nm s = true) : (drop s l).length + 1 ≤ l.length := by
  induction l generalizing i with
  | nil => cases h
  | cons x r ih =>
    cases i with
    | zero =>
      injection h with h
      subst h
      have h1 := length_drop s r
      unfold drop at h1 ⊢
      rw [List.filter_cons, hs]
      simp only [Bool.not_true, Bool.false_eq_true, if_false, List.length_cons]
      omega
    | succ i =>
      have h1 := ih (i := i) h
      unfold drop at h1 ⊢
      rw [List.filter_cons]
      split
      · simp only [List.length_cons]; omega
      · simp only [List.length_cons]; omega
theorem used_modify {l : List Fl} {i : Nat} {g : Fl → Fl} {f : Fl} (h : l[i]? = some f) : used (l.modify i g) + f.len = used l + (g f).len := by
  induction l generalizing i with
  | nil => cases h
  | cons x r ih =>
    cases i with
    | zero =>
      injection h with h
      subst h
      simp only [List.modify_zero_cons, used]
      omega
    | succ i =>
      have h1 := ih (i := i) h
      simp only [List.modify_succ_cons, used]
      omega
/-- There are never more bytes than room, nor more files than may be. -/
def Fits (d : Dk) : Prop := 0 ≤ d.room ∧ (used d.fs : Int) ≤ d.room ∧ d.fs.length ≤ 16
theorem fits_new (room : Int) : Fits (newDk room) := by
  unfold Fits newDk
  simp only [used, List.length_nil]
  omega
theorem deed_fs (d : Dk) : (deed d).fs = d.fs ∧ (deed d).room = d.room := by
  unfold deed
  split
  · exact ⟨rfl, rfl⟩
  · split <;> exact ⟨rfl, rfl⟩
theorem fits_deed {d : Dk} (h : Fits d) : Fits (deed d) := by
  obtain ⟨h1, h2⟩ := deed_fs d
  unfold Fits at h ⊢
  rw [h1, h2]
  exact h
theorem fits_append {d : Dk} (h : Fits d) (s : ByteArray) (b : List Nat) : Fits (doAppend s b d).2 := by
  unfold doAppend
  split
  · exact h
  split
  · exact h
  rename_i hr
  obtain ⟨h0, h1, h2⟩ := h
  split
  · split
    · exact ⟨h0, h1, h2⟩
    · refine ⟨h0, ?_, ?_⟩
      · show ((used (put ⟨s, [], b⟩ d.fs) : Nat) : Int) ≤ d.room
        rw [used_put]
        have e : Fl.len ⟨s, [], b⟩ = b.length := by simp [Fl.len]
        omega
      · show (put ⟨s, [], b⟩ d.fs).length ≤ 16
        rw [length_put]
        omega
  · rename_i i hp
    obtain ⟨f, hf, _⟩ := place_some hp
    have hu := used_modify (g := fun f => { f with tail := f.tail ++ b }) hf
    have e : Fl.len { f with tail := f.tail ++ b } = f.len + b.length := by simp [Fl.len]; omega
    rw [e] at hu
    refine ⟨h0, ?_, ?_⟩
    · show ((used (d.fs.modify i _) : Nat) : Int) ≤ d.room
      omega
    · show (d.fs.modify i _).length ≤ 16
      rw [List.length_modify]
      exact h2
theorem fits_sync {d : Dk} (h : Fits d) (s : ByteArray) : Fits (doSync s d).2 := by
  unfold doSync
  obtain ⟨h0, h1, h2⟩ := h
  split
  · exact ⟨h0, h1, h2⟩
  · rename_i i hp
    obtain ⟨f, hf, _⟩ := place_some hp
    have hu := used_modify (g := fun f => { f with sure := f.all, tail := [] }) hf
    have e : Fl.len { f with sure := f.all, tail := [] } = f.len := by simp [Fl.len, Fl.all]
    rw [e] at hu
    exact ⟨h0, by show ((used (d.fs.modify i _) : Nat) : Int) ≤ d.room; omega, by show (d.fs.modify i _).length ≤ 16; rw [List.length_modify]; exact h2⟩
theorem fits_cut {d : Dk} (h : Fits d) (s : ByteArray) (n : Int) : Fits (doCut s n d).2 := by
  unfold doCut
  obtain ⟨h0, h1, h2⟩ := h
  split
  · exact ⟨h0, h1, h2⟩
  · rename_i i hp
    split
    · exact ⟨h0, h1, h2⟩
    · obtain ⟨f, hf, _⟩ := place_some hp
      have hu := used_modify (g := fun f => { f with sure := f.all.take n.toNat, tail := [] }) hf
      have e : Fl.len { f with sure := f.all.take n.toNat, tail := [] } ≤ f.len := by
        have h3 := f.len_all
        simp only [Fl.len, List.length_nil, List.length_take] at h3 ⊢
        omega
      exact ⟨h0, by show ((used (d.fs.modify i _) : Nat) : Int) ≤ d.room; omega, by show (d.fs.modify i _).length ≤ 16; rw [List.length_modify]; exact h2⟩
theorem fits_move {d : Dk} (h : Fits d) (s t : ByteArray) : Fits (doMove s t d).2 := by
  unfold doMove
  obtain ⟨h0, h1, h2⟩ := h
  split
  · exact ⟨h0, h1, h2⟩
  · rename_i i hp
    split
    · exact ⟨h0, h1, h2⟩
    · obtain ⟨f, hf, hn⟩ := place_some hp
      have e0 : d.fs.getD i ⟨s, [], []⟩ = f := by rw [List.getD_eq_getElem?_getD, hf]; rfl
      have a1 := used_drop_at hf hn
      have a2 := used_drop t (drop s d.fs)
      have b1 := length_drop_at hf hn
      have b2 := length_drop t (drop s d.fs)
      have e : Fl.len ⟨t, f.all, []⟩ = f.len := by simp [Fl.len, Fl.all]
      refine ⟨h0, ?_, ?_⟩
      · show ((used (put ⟨t, (d.fs.getD i ⟨s, [], []⟩).all, []⟩ (drop t (drop s d.fs))) : Nat) : Int) ≤ d.room
        rw [used_put, e0, e]
        omega
      · show (put ⟨t, (d.fs.getD i ⟨s, [], []⟩).all, []⟩ (drop t (drop s d.fs))).length ≤ 16
        rw [length_put]
        omega
theorem fits_remove {d : Dk} (h : Fits d) (s : ByteArray) : Fits (doRemove s d).2 := by
  unfold doRemove
  obtain ⟨h0, h1, h2⟩ := h
  split
  · exact ⟨h0, h1, h2⟩
  · have a := used_drop s d.fs
    have b := length_drop s d.fs
    exact ⟨h0, by show ((used (drop s d.fs) : Nat) : Int) ≤ d.room; omega, by show (drop s d.fs).length ≤ 16; omega⟩
theorem fits_whole {d : Dk} {f : Dk → Nat × Dk} (h : Fits d) (hf : Fits (deed d) → Fits (f (deed d)).2) : Fits (whole f d).2 := by
  unfold whole
  split
  · exact fits_deed h
  · exact hf (fits_deed h)
theorem used_boot (l : List Fl) (ks : List Int) : used (bootFs l ks) ≤ used l ∧ (bootFs l ks).length = l.length := by
  induction l generalizing ks with
  | nil => exact ⟨Nat.le_refl _, rfl⟩
  | cons f r ih =>
    unfold bootFs
    split
    · rename_i ht
      have h := ih ks
      simp only [used, Fl.len, ht, List.length_nil, List.length_cons]
      omega
    · split
      · have h := ih []
        simp only [used, Fl.len, Fl.all, List.length_append, List.length_nil, List.length_cons]
        omega
      · rename_i k ks'
        have h := ih ks'
        have h2 : (f.tail.take (max 0 (min k (f.tail.length : Int))).toNat).length ≤ f.tail.length := by rw [List.length_take]; omega
        simp only [used, Fl.len, List.length_append, List.length_nil, List.length_cons]
        omega
theorem fits_boot {d : Dk} (h : Fits d) (ks : List Int) : Fits (boot ks d) := by
  obtain ⟨h0, h1, h2⟩ := h
  have a := used_boot d.fs ks
  exact ⟨h0, by show ((used (bootFs d.fs ks) : Nat) : Int) ≤ d.room; omega, by show (bootFs d.fs ks).length ≤ 16; omega⟩
/-- A file's place as a number; -1: there is none. -/
def atI (l : List Fl) (s : ByteArray) : Int := match place l s with | none => -1 | some i => (i : Int)
theorem place_here {l : List Fl} {s : ByteArray} {k : Nat} {f : Fl} (h : ∀ f ∈ l.take k, eqn f.nm s = false) (hk : l[k]? = some f) (hs : eqn f.nm s = true) : place l s = some k := by
  unfold place
  rw [List.findIdx?_eq_some_iff_getElem]
  obtain ⟨hlt, rfl⟩ := List.getElem?_eq_some_iff.1 hk
  refine ⟨hlt, hs, fun j hj => ?_⟩
  rw [h l[j] (List.mem_take_iff_getElem.2 ⟨j, by omega, rfl⟩)]
  decide
theorem place_away {l : List Fl} {s : ByteArray} (h : ∀ f ∈ l, eqn f.nm s = false) : place l s = none := by
  unfold place
  rw [List.findIdx?_eq_none_iff]
  exact h
theorem used_take {l : List Fl} {k : Nat} {f : Fl} (hk : l[k]? = some f) : used (l.take (k + 1)) = used (l.take k) + f.len := by
  rw [List.take_add_one, hk, used_append]
  simp [used]
theorem used_le (l : List Fl) (k : Nat) : used (l.take k) ≤ used l := by
  have h := used_append (l.take k) (l.drop k)
  rw [List.take_append_drop] at h
  omega
def iOf : Option Nat → Int
  | none => -1
  | some i => (i : Int)
theorem atI_eq (l : List Fl) (s : ByteArray) : atI l s = iOf (place l s) := by
  unfold atI iOf
  rfl
end Go.Proofs.YthkbmmebfkaphaaDoor.Dsk
/- What the laws of the disk come to, plainly: the steps of DiskKeeps, DiskMoves, DiskCuts and of the document's example; plain mathematics. -/
namespace Go.Proofs.YthkbmmebfkaphaaDoor.Dsk

theorem eqn_eq (a b : ByteArray) : eqn a b = (a.data.toList == b.data.toList) := by
  unfold eqn
  rw [ByteArray.toList_eq, ByteArray.toList_eq]
theorem gtn_eq (a b : ByteArray) : gtn a b = !(Op.bytesLess a.data.toList b.data.toList || a.data.toList == b.data.toList) := by
  unfold gtn
  rw [ByteArray.toList_eq, ByteArray.toList_eq]
/-- The names that the laws speak of: a, x, y, old, new. -/
def na : ByteArray := ⟨#[97]⟩
def nx : ByteArray := ⟨#[120]⟩
def ny : ByteArray := ⟨#[121]⟩
def nold : ByteArray := ⟨#[111, 108, 100]⟩
def nnew : ByteArray := ⟨#[110, 101, 119]⟩
theorem place_nil (s : ByteArray) : place [] s = none := rfl
theorem place_cons (f : Fl) (r : List Fl) (s : ByteArray) : place (f :: r) s = if eqn f.nm s = true then some 0 else (place r s).map (· + 1) := by
  unfold place
  rw [List.findIdx?_cons]
/-- A deed on a disk that is up and has no fuse, or one that burns on. -/
theorem whole_up {f : Dk → Nat × Dk} {d : Dk} (h1 : d.dn = false) (h2 : d.fuse ≠ 0) : whole f d = f (deed d) := by
  unfold whole fails
  rw [h1, decide_eq_false h2]
  rfl
theorem whole_fails {f : Dk → Nat × Dk} {d : Dk} (h : d.dn = true ∨ d.fuse = 0) : whole f d = (15, { d with dn := true }) := by
  have h1 : fails d = true := by
    unfold fails
    rcases h with h | h
    · rw [h]; rfl
    · rw [decide_eq_true h, Bool.or_true]
  unfold whole deed
  rw [if_pos h1, if_pos h1]
theorem deed_none {d : Dk} (h1 : d.dn = false) (h2 : d.fuse = -1) : deed d = d := by
  unfold deed fails
  rw [h1, h2]
  rfl
/-- An Append to a name that there isn't, where there is room. -/
theorem append_new {s : ByteArray} {b : List Nat} {d : Dk} (hs : isName s = true) (hr : (used d.fs : Int) + b.length ≤ d.room) (hp : place d.fs s = none) (hl : d.fs.length < 16) : doAppend s b d = (0, { d with fs := put ⟨s, [], b⟩ d.fs }) := by
  unfold doAppend
  rw [if_neg (by simp [hs]), if_neg (by omega), hp]
  simp only
  rw [if_neg (by omega)]
theorem append_old {s : ByteArray} {b : List Nat} {d : Dk} {i : Nat} (hs : isName s = true) (hr : (used d.fs : Int) + b.length ≤ d.room) (hp : place d.fs s = some i) : doAppend s b d = (0, { d with fs := d.fs.modify i fun f => { f with tail := f.tail ++ b } }) := by
  unfold doAppend
  rw [if_neg (by simp [hs]), if_neg (by omega), hp]
theorem name_a : isName na = true := by decide
theorem name_x : isName nx = true := by decide
theorem name_y : isName ny = true := by decide
theorem name_old : isName nold = true := by decide
theorem name_new : isName nnew = true := by decide
theorem ne_xy : eqn nx ny = false := by rw [eqn_eq]; decide
theorem ne_yx : eqn ny nx = false := by rw [eqn_eq]; decide
theorem ne_on : eqn nold nnew = false := by rw [eqn_eq]; decide
theorem ne_no : eqn nnew nold = false := by rw [eqn_eq]; decide
theorem gt_xy : gtn nx ny = false := by rw [gtn_eq]; decide
theorem gt_on : gtn nold nnew = true := by rw [gtn_eq]; decide
/-- The first Append of a law. -/
theorem first_append {s : ByteArray} {b : List Nat} (hs : isName s = true) (hb : b.length ≤ 100) : whole (doAppend s b) (newDk 1000) = (0, ⟨[⟨s, [], b⟩], 1000, -1, false⟩) := by
  have h0 : newDk 1000 = ⟨[], 1000, -1, false⟩ := rfl
  rw [h0, whole_up rfl (show (-1 : Int) ≠ 0 by decide), deed_none rfl rfl, append_new hs (by simp only [used]; omega) rfl (by simp)]
  rfl
/-- A Sync of the only file. -/
theorem first_sync {s : ByteArray} {a b : List Nat} {r : Int} : whole (doSync s) ⟨[⟨s, a, b⟩], r, -1, false⟩ = (0, ⟨[⟨s, a ++ b, []⟩], r, -1, false⟩) := by
  rw [whole_up rfl (show (-1 : Int) ≠ 0 by decide), deed_none rfl rfl]
  unfold doSync
  simp only [place_cons, eqn_self, if_true]
  rfl
theorem more_append {s : ByteArray} {a t b : List Nat} {k : Int} (hs : isName s = true) (hk : k ≠ 0) (hb : a.length + t.length + b.length ≤ 1000) : whole (doAppend s b) ⟨[⟨s, a, t⟩], 1000, k, false⟩ = (0, ⟨[⟨s, a, t ++ b⟩], 1000, (if 0 < k then k - 1 else k), false⟩) := by
  rw [whole_up rfl hk]
  have hd : deed ⟨[⟨s, a, t⟩], 1000, k, false⟩ = ⟨[⟨s, a, t⟩], 1000, (if 0 < k then k - 1 else k), false⟩ := by
    unfold deed fails
    simp only [Bool.false_or]
    rw [if_neg (by simp [hk])]
    split <;> rfl
  rw [hd, append_old (i := 0) hs (by simp only [used, Fl.len]; omega) (by simp only [place_cons, eqn_self, if_true])]
  rfl
/-- What DiskKeeps leaves: the power fails at whichever of the later deeds. -/
def keepsEnd (a b : List Nat) (keep k : Int) : Dk :=
  boot [keep, keep] (whole (doSync ny) (whole (doAppend ny b) (whole (doAppend nx b) ⟨[⟨nx, a, []⟩], 1000, k, false⟩).2).2).2
theorem keeps_end {a b : List Nat} (ha : a.length ≤ 100) (hb : b.length ≤ 100) (keep : Int) {k : Int} (hk : k = 0 ∨ k = 1 ∨ k = 2) :
    (keepsEnd a b keep k).dn = false ∧ ∃ j, read nx (keepsEnd a b keep k) = (a ++ b.take j, 0) := by
  refine ⟨rfl, ?_⟩
  have hrd : ∀ (f : Fl) (r : List Fl) (room fuse : Int), f.nm = nx → read nx ⟨f :: r, room, fuse, false⟩ = (f.all, 0) := fun f r room fuse hf => by
    unfold read
    simp only [place_cons, hf, eqn_self, if_true, Bool.false_eq_true, if_false]
    rfl
  unfold keepsEnd
  rcases hk with rfl | rfl | rfl
  · rw [whole_fails (f := doAppend nx b) (.inr rfl), whole_fails (f := doAppend ny b) (.inl rfl), whole_fails (f := doSync ny) (.inl rfl)]
    refine ⟨0, ?_⟩
    show read nx ⟨⟨nx, a, []⟩ :: [], _, _, false⟩ = _
    rw [hrd _ _ _ _ rfl]
    simp [Fl.all]
  · rw [more_append name_x (by decide) (by simp only [List.length_nil]; omega)]
    have e : (if (0 : Int) < 1 then (1 : Int) - 1 else 1) = 0 := by decide
    simp only [e]
    rw [whole_fails (f := doAppend ny b) (.inr rfl), whole_fails (f := doSync ny) (.inl rfl)]
    unfold boot bootFs
    simp only [List.nil_append]
    split
    · rename_i h
      refine ⟨0, ?_⟩
      rw [hrd _ _ _ _ rfl]
      simp [Fl.all]
    · refine ⟨(max 0 (min keep (b.length : Int))).toNat, ?_⟩
      rw [hrd _ _ _ _ rfl]
      simp only [Fl.all, List.append_nil]
  · rw [more_append name_x (by decide) (by simp only [List.length_nil]; omega)]
    have e : (if (0 : Int) < 2 then (2 : Int) - 1 else 2) = 1 := by decide
    simp only [e, List.nil_append]
    rw [whole_up (f := doAppend ny b) rfl (show (1 : Int) ≠ 0 by decide)]
    have hd : deed ⟨[⟨nx, a, b⟩], 1000, 1, false⟩ = ⟨[⟨nx, a, b⟩], 1000, 0, false⟩ := rfl
    rw [hd, append_new name_y (by simp only [used, Fl.len]; omega) (by simp [place_cons, ne_xy, place_nil]) (by simp)]
    rw [whole_fails (f := doSync ny) (.inr rfl)]
    have hput : put ⟨ny, [], b⟩ [⟨nx, a, b⟩] = [⟨nx, a, b⟩, ⟨ny, [], b⟩] := by simp [put, gt_xy]
    simp only [hput]
    unfold boot
    simp only
    unfold bootFs
    split
    · rename_i h
      refine ⟨0, ?_⟩
      rw [hrd _ _ _ _ rfl]
      simp [Fl.all]
    · refine ⟨(max 0 (min keep (b.length : Int))).toNat, ?_⟩
      rw [hrd _ _ _ _ rfl]
      simp only [Fl.all, List.append_nil]
/-- DiskMoves: both files are there, the one takes the other's place. -/
def twoOld (a b : List Nat) : Dk := ⟨[⟨nnew, [], b⟩, ⟨nold, [], a⟩], 1000, -1, false⟩
theorem moves_two {a b : List Nat} (ha : a.length ≤ 100) (hb : b.length ≤ 100) : whole (doAppend nnew b) ⟨[⟨nold, [], a⟩], 1000, -1, false⟩ = (0, twoOld a b) := by
  rw [whole_up rfl (show (-1 : Int) ≠ 0 by decide), deed_none rfl rfl, append_new name_new (by simp only [used, Fl.len, List.length_nil]; omega) (by simp [place_cons, ne_on, place_nil]) (by simp)]
  simp [put, gt_on, twoOld]
theorem moves_one (a b : List Nat) : whole (doMove nnew nold) (twoOld a b) = (0, ⟨[⟨nold, b, []⟩], 1000, -1, false⟩) := by
  unfold twoOld
  rw [whole_up rfl (show (-1 : Int) ≠ 0 by decide), deed_none rfl rfl]
  unfold doMove
  simp only [place_cons, eqn_self, if_true]
  rw [if_neg (by simp [name_old])]
  simp [drop, eqn_self, ne_on, put, Fl.all]
theorem boot_one (s : ByteArray) (b : List Nat) (ks : List Int) (r k : Int) (dn : Bool) : boot ks ⟨[⟨s, b, []⟩], r, k, dn⟩ = ⟨[⟨s, b, []⟩], r, -1, false⟩ := by
  unfold boot bootFs
  rfl
theorem read_one (s : ByteArray) (a t : List Nat) (r k : Int) : read s ⟨[⟨s, a, t⟩], r, k, false⟩ = (a ++ t, 0) := by
  unfold read
  simp only [place_cons, eqn_self, if_true, Bool.false_eq_true, if_false]
  rfl
theorem read_new (b : List Nat) (r k : Int) : read nnew ⟨[⟨nold, b, []⟩], r, k, false⟩ = ([], 8) := by
  unfold read
  simp only [place_cons, ne_on, place_nil, Bool.false_eq_true, if_false, Option.map_none]
/-- DiskCuts. -/
theorem cuts_cut {a b : List Nat} {n : Int} : whole (doCut nx n) ⟨[⟨nx, a, b⟩], 1000, -1, false⟩ = if n < 0 ∨ ((a ++ b).length : Int) < n then (6, ⟨[⟨nx, a, b⟩], 1000, -1, false⟩) else (0, ⟨[⟨nx, (a ++ b).take n.toNat, []⟩], 1000, -1, false⟩) := by
  rw [whole_up rfl (show (-1 : Int) ≠ 0 by decide), deed_none rfl rfl]
  unfold doCut
  simp only [place_cons, eqn_self, if_true]
  rfl
/-- The document's example. -/
def ab : List Nat := [97, 98]
def cd : List Nat := [99, 100]
theorem awake_boot : boot [1] ⟨[⟨na, ab, cd⟩], 9, -1, false⟩ = ⟨[⟨na, [97, 98, 99], []⟩], 9, -1, false⟩ := rfl
end Go.Proofs.YthkbmmebfkaphaaDoor.Dsk
/- What a call turns in memory: the blocks of one set, and new ones, alone ('Keeps'); bytes that lie in a set's blocks; files in a row, and the document's disk, in memory. -/
namespace Go.Proofs.YthkbmmebfkaphaaDoor.Dsk
open Go.RowKit Mem

/-- Only blocks of S, and new ones, are turned. -/
structure Keeps (S : Nat → Prop) (w w' : World) : Prop where
  os : w'.os = w.os
  tape : w'.tape = w.tape
  output : w'.output = w.output
  size : w.heap.size ≤ w'.heap.size
  block : ∀ k, k < w.heap.size → ¬ S k → w'.heap[k]? = w.heap[k]?
/-- Nothing is S's that wasn't, but what is new. -/
def Grew (S S' : Nat → Prop) (w : World) : Prop := ∀ k, S' k → S k ∨ w.heap.size ≤ k
section
variable {S S' T : Nat → Prop} {w w1 w2 w' : World}
theorem Keeps.refl (S : Nat → Prop) (w : World) : Keeps S w w := ⟨rfl, rfl, rfl, Nat.le_refl _, fun _ _ _ => rfl⟩
theorem Keeps.ofBelow (h : Below w.heap.size w w') : Keeps S w w' := ⟨h.os, h.tape, h.output, h.size, fun k hk _ => h.block k hk⟩
theorem Keeps.ofGrown {g : Nat} (h : w.grownBy w' (some g)) (hg : S g) : Keeps S w w' := ⟨h.os, h.tape, h.output, h.size, fun k hk hn => h.block k hk fun e => hn (by injection e with e; rw [e]; exact hg)⟩
theorem Keeps.trans (h : Keeps S w w1) (k : Keeps S' w1 w2) (hg : Grew S S' w) : Keeps S w w2 :=
  ⟨k.os.trans h.os, k.tape.trans h.tape, k.output.trans h.output, Nat.le_trans h.size k.size, fun i hi hn => (k.block i (by have := h.size; omega) fun hs => (hg i hs).elim hn fun e => by omega).trans (h.block i hi hn)⟩
theorem Keeps.below (h : Keeps S w w') {B : Nat} (hB : B ≤ w.heap.size) (hS : ∀ k, S k → B ≤ k) : Below B w w' :=
  ⟨h.os, h.tape, h.output, h.size, fun i hi => h.block i (by omega) fun hs => by have := hS i hs; omega⟩
theorem Keeps.cell (h : Keeps S w w') {p : Addr} (hp : p.block < w.heap.size) (hn : ¬ S p.block) : w'.cell? p = w.cell? p := World.cell?_of_block (h.block _ hp hn)
theorem Grew.refl (S : Nat → Prop) (w : World) : Grew S S w := fun _ h => .inl h
theorem Grew.trans {S2 : Nat → Prop} (h : Grew S S' w) (k : Grew S' S2 w1) (hs : w.heap.size ≤ w1.heap.size) : Grew S S2 w := fun i hi => (k i hi).elim (fun h' => h i h') fun e => .inr (by omega)
end
/-- Bytes that can be read, in blocks of S. -/
def RdS (S : Nat → Prop) (w : World) (A : Option Addr) (n c : Nat) (bs : List Nat) : Prop := Rd w A n c (cs bs) ∧ (0 < n → ∃ ad, A = some ad ∧ S ad.block)
theorem RdS.keep {S S' : Nat → Prop} {w w' : World} {A : Option Addr} {n c : Nat} {bs : List Nat} (h : RdS S w A n c bs) (hs : w.heap.size ≤ w'.heap.size) (hS : ∀ b, S b → b < w.heap.size → S' b ∧ w'.heap[b]? = w.heap[b]?) : RdS S' w' A n c bs := by
  obtain ⟨h1, h2⟩ := h
  refine ⟨⟨h1.len, h1.le, h1.cap, h1.nil, fun hn => ?_⟩, fun hn => ?_⟩
  · obtain ⟨ad, e, hb, hc⟩ := h1.spot hn
    obtain ⟨ad', e', hs'⟩ := h2 hn
    cases e.symm.trans e'
    refine ⟨ad, e, by omega, fun j u hu => ?_⟩
    have hb' : w'.heap[(ad.add j).block]? = w.heap[(ad.add j).block]? := by rw [add_block]; exact (hS _ hs' hb).2
    exact (World.cell?_of_block hb').trans (hc j u hu)
  · obtain ⟨ad, e, hb, _⟩ := h1.spot hn
    obtain ⟨ad', e', hs'⟩ := h2 hn
    cases e.symm.trans e'
    exact ⟨ad, e, (hS _ hs' hb).1⟩
theorem RdS.new {S : Nat → Prop} {w' : World} {base : Nat} {e : TypeId} {V : Option Addr} {n c : Nat} {bs : List Nat} (h : w'.ownsRow base e 1 (.slice V n c) n (cs bs)) (hS : ∀ b, base ≤ b → b < w'.heap.size → S b) : RdS S w' V n c bs := by
  refine ⟨Rd.own h, fun hn => ?_⟩
  rcases h.2 with ⟨_, h0⟩ | ⟨g, cap, cur, ev, hb, hg, _⟩
  · omega
  · injection ev with ev _ _
    exact ⟨_, ev, hS g hb (Array.getElem?_eq_some_iff.1 hg).1⟩
/-- A file, and where its bytes lie. -/
structure Hf where
  f : Fl
  SA : Option Addr
  sc : Nat
  TA : Option Addr
  tc : Nat
def Hf.cells (h : Hf) : List Value := [.string h.f.nm, .slice h.SA h.f.sure.length h.sc, .slice h.TA h.f.tail.length h.tc]
def cellsF (hs : List Hf) : List Value := hs.flatMap Hf.cells
theorem length_cellsF (hs : List Hf) : (cellsF hs).length = hs.length * 3 := by
  induction hs with
  | nil => rfl
  | cons h hs ih => simp [cellsF, Hf.cells] at *; omega
theorem cellsF_one (hs : List Hf) : ∀ u ∈ cellsF hs, u.oneCell' = true := by
  intro u hu
  obtain ⟨h, _, hu⟩ := List.mem_flatMap.1 hu
  simp [Hf.cells] at hu
  rcases hu with rfl | rfl | rfl <;> rfl
theorem cellsF_at (hs : List Hf) (i k : Nat) (hk : k < 3) : (cellsF hs)[i * 3 + k]? = (hs[i]?).bind fun h => h.cells[k]? := by
  induction hs generalizing i with
  | nil => simp [cellsF]
  | cons h hs ih =>
    cases i with
    | zero => simp only [cellsF, List.flatMap_cons, Nat.zero_mul, Nat.zero_add]; rw [List.getElem?_append_left (by simp [Hf.cells]; omega)]; simp
    | succ i =>
      have : (i + 1) * 3 + k = (i * 3 + k) + 3 := by omega
      simp only [cellsF, List.flatMap_cons] at ih ⊢
      rw [List.getElem?_append_right (by simp [Hf.cells]; omega), show (i + 1) * 3 + k - h.cells.length = i * 3 + k by simp [Hf.cells]; omega, ih i]
      simp
theorem cellsF_set : ∀ (hs : List Hf) (p : Nat) (h : Hf), p < hs.length →
    ((((cellsF hs).set (p * 3) (.string h.f.nm)).set (p * 3 + 1) (.slice h.SA h.f.sure.length h.sc)).set (p * 3 + 1 + 1) (.slice h.TA h.f.tail.length h.tc)) = cellsF (hs.set p h)
  | [], p, h, hp => by cases hp
  | k :: hs, 0, h, _ => rfl
  | k :: hs, p + 1, h, hp => by
    have ih := cellsF_set hs p h (by simpa using hp)
    have e : (p + 1) * 3 = p * 3 + 1 + 1 + 1 := by omega
    have e1 : cellsF (k :: hs) = .string k.f.nm :: .slice k.SA k.f.sure.length k.sc :: .slice k.TA k.f.tail.length k.tc :: cellsF hs := rfl
    have e2 : cellsF (k :: hs.set p h) = .string k.f.nm :: .slice k.SA k.f.sure.length k.sc :: .slice k.TA k.f.tail.length k.tc :: cellsF (hs.set p h) := rfl
    rw [List.set_cons_succ, e2, ← ih, e1, e]
    simp only [List.set_cons_succ]
/-- A file's bytes lie in S. -/
def HfIn (S : Nat → Prop) (w : World) (h : Hf) : Prop := RdS S w h.SA h.f.sure.length h.sc h.f.sure ∧ RdS S w h.TA h.f.tail.length h.tc h.f.tail
theorem HfIn.keep {S S' : Nat → Prop} {w w' : World} {h : Hf} (hi : HfIn S w h) (hs : w.heap.size ≤ w'.heap.size) (hS : ∀ b, S b → b < w.heap.size → S' b ∧ w'.heap[b]? = w.heap[b]?) : HfIn S' w' h := ⟨hi.1.keep hs hS, hi.2.keep hs hS⟩
end Go.Proofs.YthkbmmebfkaphaaDoor.Dsk
