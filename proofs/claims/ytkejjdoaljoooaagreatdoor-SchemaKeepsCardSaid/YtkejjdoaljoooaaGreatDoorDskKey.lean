/-
  Texts of earlier layers, as one.
-/
import Derived.Maps.OwnSet
import Derived.Sort.KeysCollected
import Derived.Test.YtkejjdoaljoooaaGreatDoorDskHave
import Derived.Lib.SliceRun
import Derived.Maps.RangeWalk
/- Files by their names, as a map reads: a name's key, a file's box as a datum; plain mathematics, of no program. -/
namespace Go.Proofs.YtkejjdoaljoooaaGreatDoor.Dsk
open Lib (hid)
open Go.RowKit Mem Go.Maps
structure Pf where
 f : Fl
 b : Nat
 A : Option Addr
 c : Nat
def key (s : ByteArray) : Lit := .string s.data.toList
def ptrElem : Value → Option (DataW Unit × List MemPlace)
 | .pointer none => some (.nil, [])
 | .pointer (some ⟨b, 0, none⟩) => some (.lit (.int .u64 (b : Int)), [])
 | _ => none
theorem ptr_some {v : Value} {b : Nat} {ps : List MemPlace} (h : ptrElem v = some (.lit (.int .u64 (b : Int)), ps)) : v = .pointer (some ⟨b, 0, none⟩) := by
 unfold ptrElem at h;split at h
 · cases h
 · rename_i b'
   simp only [Option.some.injEq, Prod.mk.injEq, DataW.lit.injEq, Lit.int.injEq, true_and] at h;have : b' = b := (by omega);rw [this]
 · cases h
theorem ptr_none {v : Value} {ps : List MemPlace} (h : ptrElem v = some (.nil, ps)) : v = .pointer none := by
 unfold ptrElem at h;split at h
 · rfl
 · cases h
 · cases h
theorem ptr_mk (b : Nat) : ptrElem (.pointer (some ⟨b, 0, none⟩)) = some (.lit (.int .u64 (b : Int)), []) := rfl
def entry (h : Pf) : Lit × DataW Unit := (key h.f.nm, .lit (.int .u64 (h.b : Int)))
def ent (hs : List Pf) : List (Lit × DataW Unit) := hs.map entry
theorem key_inj {a b : ByteArray} (h : key a = key b) : a = b := by
 unfold key at h;injection h with h;exact ByteArray.ext (Array.toList_inj.1 h)
theorem eqn_key (a b : ByteArray) : (key a).sameKey (key b) = eqn a b := by
 unfold eqn key;rw [Lib.toList_data, Lib.toList_data];rfl
theorem eqn_same {a b : ByteArray} (h : eqn a b = true) : a = b := by
 rw [eqn_iff, Lib.toList_data, Lib.toList_data] at h;exact ByteArray.ext (Array.toList_inj.1 h)
theorem eqn_ne {a b : ByteArray} (h : a ≠ b) : eqn a b = false := by
 cases e : eqn a b
 · rfl
 · exact absurd (eqn_same e) h
theorem less_before : ∀ (a b : List UInt8), Op.bytesLess a b = bytesBefore a b
 | [], [] => rfl
 | [], _ :: _ => rfl
 | _ :: _, [] => rfl
 | a :: x, b :: y => by unfold Op.bytesLess bytesBefore; rw [less_before x y]
theorem gtn_before (a b : ByteArray) : gtn a b = (key b).before (key a) := by
 unfold gtn;rw [less_before, Lib.toList_data, Lib.toList_data];show _ = bytesBefore b.data.toList a.data.toList;by_cases e : a.data.toList = b.data.toList
 · rw [e]
   simp [WideAt.bytes_irrefl]
 · have h2 : (a.data.toList == b.data.toList) = false := by simpa using e
   rw [h2, Bool.or_false];rcases WideAt.bytes_total _ _ e with h | h
   · have h3 : bytesBefore b.data.toList a.data.toList = false := by
      cases h4 : bytesBefore b.data.toList a.data.toList
      · rfl
      · have := WideShapes.bytes_trans _ _ _ h h4
        rw [WideAt.bytes_irrefl] at this;cases this
     rw [h, h3]; rfl
   · have h3 : bytesBefore a.data.toList b.data.toList = false := by
      cases h4 : bytesBefore a.data.toList b.data.toList
      · rfl
      · have := WideShapes.bytes_trans _ _ _ h h4
        rw [WideAt.bytes_irrefl] at this;cases this
     rw [h, h3]; rfl
def Rising (l : List Fl) : Prop := l.Pairwise fun a b => (key a.nm).before (key b.nm) = true
theorem before_ne {a b : ByteArray} (h : (key a).before (key b) = true) : a ≠ b := fun e => by
 rw [e, WideShapes.before_irrefl] at h;cases h
theorem rising_put {f : Fl} : ∀ {l : List Fl}, Rising l → (∀ x ∈ l, x.nm ≠ f.nm) → Rising (put f l)
 | [], _, _ => by simp [put, Rising]
 | x :: r, h, hn => by
   obtain ⟨h1, h2⟩ := List.pairwise_cons.1 h;unfold put;split
   · rename_i hg
     rw [gtn_before] at hg;refine List.pairwise_cons.2 ⟨fun y hy => ?_, h⟩;rcases List.mem_cons.1 hy with rfl | hy
     · exact hg
     · exact WideShapes.before_trans hg (h1 y hy)
   · rename_i hg
     rw [gtn_before] at hg
     have hx : (key x.nm).before (key f.nm) = true := by
      rcases WideAt.bytes_total x.nm.data.toList f.nm.data.toList (fun e => hn x (by simp) (key_inj (by unfold key; rw [e]))) with h' | h'
      · exact h'
      · exact absurd h' hg
     refine List.pairwise_cons.2 ⟨fun y hy => ?_, rising_put h2 fun y hy => hn y (by simp [hy])⟩
     have hm : ∀ {l : List Fl} {y : Fl}, y ∈ put f l → y = f ∨ y ∈ l := fun {l} => by
      induction l with
      | nil => intro y hy; simpa [put] using hy
      | cons a l ih =>
        intro y hy;unfold put at hy;split at hy
        · simpa using hy
        · rcases List.mem_cons.1 hy with rfl | hy
          · simp
          · rcases ih hy with h | h
            · exact .inl h
            · simp [h]
     rcases hm hy with rfl | hy
     · exact hx
     · exact h1 y hy
theorem rising_drop {l : List Fl} (h : Rising l) (s : ByteArray) : Rising (drop s l) := h.filter _
theorem rising_map {l l' : List Fl} (h : Rising l) (e : l'.map (·.nm) = l.map (·.nm)) : Rising l' := by
 have h1 : (l.map (·.nm)).Pairwise fun a b => (key a).before (key b) = true := List.pairwise_map.2 h;rw [← e] at h1;exact List.pairwise_map.1 h1
theorem rising_one {hs : List Pf} (h : Rising (hs.map (·.f))) {x y : Pf} (hx : x ∈ hs) (hy : y ∈ hs) (e : x.f.nm = y.f.nm) : x = y := by
 have h1 : hs.Pairwise fun a b => (key a.f.nm).before (key b.f.nm) = true := List.pairwise_map.1 h;induction hs with
 | nil => cases hx
 | cons a r ih =>
   obtain ⟨p1, p2⟩ := List.pairwise_cons.1 h1;rcases List.mem_cons.1 hx with ex | kx
   · rcases List.mem_cons.1 hy with ey | ky
     · rw [ex, ey]
     · rw [ex] at e
       exact absurd e (before_ne (p1 y ky))
   · rcases List.mem_cons.1 hy with ey | ky
     · rw [ey] at e
       exact absurd e.symm (before_ne (p1 x kx))
     · exact ih (List.pairwise_map.2 p2) kx ky p2
def look (hs : List Pf) (s : ByteArray) : Option Pf := hs.find? fun h => eqn h.f.nm s
theorem look_place (hs : List Pf) (s : ByteArray) : (look hs s = none ∧ place (hs.map (·.f)) s = none) ∨ ∃ i h, look hs s = some h ∧ place (hs.map (·.f)) s = some i ∧ hs[i]? = some h ∧ h.f.nm = s := by
 induction hs with
 | nil => exact .inl ⟨rfl, rfl⟩
 | cons x r ih =>
   cases e : eqn x.f.nm s
   · rcases ih with ⟨h1, h2⟩ | ⟨i, h, h1, h2, h3, h4⟩
     · refine .inl ⟨by unfold look at h1 ⊢; simp [e, h1], ?_⟩
       unfold place at h2 ⊢;simp only [List.map_cons, List.findIdx?_cons, e, h2];rfl
     · refine .inr ⟨i + 1, h, by unfold look at h1 ⊢; simp [e, h1], ?_, h3, h4⟩
       unfold place at h2 ⊢;simp only [List.map_cons, List.findIdx?_cons, e, h2];rfl
   · refine .inr ⟨0, x, by unfold look; simp [e], ?_, rfl, eqn_same e⟩
     unfold place;simp only [List.map_cons, List.findIdx?_cons, e];rfl
def dat : Option Pf → DataW Unit
 | none => .nil
 | some h => .lit (.int .u64 (h.b : Int))
def pv : Option Pf → Value
 | none => .pointer none
 | some h => .pointer (some ⟨h.b, 0, none⟩)
theorem find_ent (hs : List Pf) (s : ByteArray) : (ent hs).find? (fun p => p.1.sameKey (key s)) = (look hs s).map entry := by
 induction hs with
 | nil => rfl
 | cons x r ih =>
   have e : (entry x).1.sameKey (key s) = eqn x.f.nm s := eqn_key _ _;unfold look ent at ih ⊢;rw [List.map_cons, List.find?_cons, List.find?_cons, e];cases eqn x.f.nm s
   · exact ih
   · rfl
theorem at_ent (hs : List Pf) (s : ByteArray) : (DataW.map (ent hs)).atKey (key s) .nil = dat (look hs s) := by
 unfold DataW.atKey;simp only [find_ent];cases look hs s <;> rfl
theorem pv_dat {v : Value} {o : Option Pf} {ps : List MemPlace} (h : ptrElem v = some (dat o, ps)) : v = pv o := by
 cases o with
 | none => exact ptr_none h
 | some x => exact ptr_some h
def putP (h : Pf) : List Pf → List Pf
 | [] => [h]
 | x :: r => if gtn x.f.nm h.f.nm = true then h :: x :: r else x :: putP h r
theorem putP_ent (h : Pf) (l : List Pf) : DataW.insert (entry h) (ent l) = ent (putP h l) := by
 induction l with
 | nil => rfl
 | cons x r ih =>
   have e : (entry h).1.before (entry x).1 = gtn x.f.nm h.f.nm := (gtn_before _ _).symm;show DataW.insert (entry h) (entry x :: ent r) = _;unfold DataW.insert putP;rw [e];split
   · rfl
   · rw [ih]; rfl
theorem putP_fs (h : Pf) (l : List Pf) : (putP h l).map (·.f) = put h.f (l.map (·.f)) := by
 induction l with
 | nil => rfl
 | cons x r ih =>
   unfold putP;rw [List.map_cons];unfold put;split
   · rfl
   · rw [List.map_cons, ih]
theorem mem_putP {h x : Pf} {l : List Pf} : x ∈ putP h l ↔ x = h ∨ x ∈ l := by
 induction l with
 | nil => simp [putP]
 | cons a r ih =>
   unfold putP;split
   · simp
   · simp only [List.mem_cons, ih]
     constructor
     · rintro (h | h | h) <;> simp [h]
     · rintro (h | h | h) <;> simp [h]
def dropP (s : ByteArray) (l : List Pf) : List Pf := l.filter fun h => !eqn h.f.nm s
theorem dropP_ent (s : ByteArray) (l : List Pf) : (ent l).filter (fun p => !p.1.sameKey (key s)) = ent (dropP s l) := by
 unfold ent dropP;rw [List.filter_map]
 congr 1
 exact List.filter_congr fun h _ => by
  show (!(entry h).1.sameKey (key s)) = _;rw [show (entry h).1 = key h.f.nm from rfl, eqn_key]
theorem dropP_fs (s : ByteArray) (l : List Pf) : (dropP s l).map (·.f) = drop s (l.map (·.f)) := by
 unfold drop dropP;rw [List.filter_map];rfl
theorem del_ent (s : ByteArray) (l : List Pf) : (DataW.map (ent l)).del (key s) = .map (ent (dropP s l)) := by
 unfold DataW.del;simp only [dropP_ent]
theorem put_ent (h : Pf) (l : List Pf) : (DataW.map (ent l)).put (key h.f.nm) (.lit (.int .u64 (h.b : Int))) = .map (ent (putP h (dropP h.f.nm l))) := by
 unfold DataW.put;simp only [dropP_ent];rw [← putP_ent];rfl
theorem mem_dropP {s : ByteArray} {l : List Pf} {x : Pf} : x ∈ dropP s l ↔ x ∈ l ∧ x.f.nm ≠ s := by
 unfold dropP;rw [List.mem_filter];constructor
 · rintro ⟨h1, h2⟩
   refine ⟨h1, fun e => ?_⟩;rw [e, eqn_self] at h2;cases h2
 · rintro ⟨h1, h2⟩
   exact ⟨h1, by rw [eqn_ne h2]; rfl⟩
theorem dropP_none {s : ByteArray} {l : List Pf} (h : look l s = none) : dropP s l = l := by
 unfold dropP look at *;rw [List.find?_eq_none] at h
 exact List.filter_eq_self.2 fun x hx => by
  have := h x hx;cases e : eqn x.f.nm s
  · rfl
  · exact absurd e this
theorem names_sorted {hs : List Pf} (h : Rising (hs.map (·.f))) : (strKeys (.map (ent hs))).mergeSort leB = hs.map fun x => x.f.nm.data.toList := by
 have e : strKeys (.map (ent hs)) = hs.map fun x => x.f.nm.data.toList := by
  show (ent hs).map (fun p => strOf p.1) = _;unfold ent;rw [List.map_map];rfl
 rw [e];refine List.mergeSort_of_pairwise ?_;refine List.pairwise_map.2 ((List.pairwise_map.1 h).imp fun {a b} hab => ?_)
 have hb : ∀ x y : List UInt8, bytesBefore x y = true → x ≤ y := by
  intro x y hxy;rcases List.le_total x y with h' | h'
  · exact h'
  · exfalso
    have hl : ∀ (x y : List UInt8), bytesBefore x y = true → x < y := by
     intro x;induction x with
     | nil => intro y hy; cases y with
       | nil => cases hy
       | cons b y => exact List.nil_lt_cons _ _
     | cons a x ih =>
       intro y hy;cases y with
       | nil => cases hy
       | cons b y =>
         simp only [bytesBefore, Bool.or_eq_true, decide_eq_true_eq, Bool.and_eq_true, beq_iff_eq] at hy;rw [List.cons_lt_cons_iff];rcases hy with hy | ⟨rfl, hy⟩
         · exact .inl hy
         · exact .inr ⟨rfl, ih y hy⟩
    exact absurd (hl x y hxy) (List.not_lt.2 h')
 simp only [leB, decide_eq_true_eq];exact hb _ _ hab
theorem size_ent (hs : List Pf) : Maps.size (DataW.map (ent hs)) = hs.length := by
 show (ent hs).length = _;unfold ent;rw [List.length_map]
def leftLen (left : Lit → Bool) : List Pf → Nat
 | [] => 0
 | h :: r => (if left (key h.f.nm) = true then h.f.len else 0) + leftLen left r
theorem left_all {hs : List Pf} : leftLen (has (DataW.map (ent hs))) hs = used (hs.map (·.f)) := by
 have : ∀ (l : List Pf), (∀ x ∈ l, x ∈ hs) → leftLen (has (DataW.map (ent hs))) l = used (l.map (·.f)) := by
  intro l hl;induction l with
  | nil => rfl
  | cons x r ih =>
    have hx : has (DataW.map (ent hs)) (key x.f.nm) = true := by
     rw [has_eq, List.any_eq_true];refine ⟨entry x, List.mem_map.2 ⟨x, hl x (by simp), rfl⟩, ?_⟩;show (key x.f.nm).sameKey (key x.f.nm) = true;rw [eqn_key, eqn_self]
    unfold leftLen;rw [if_pos hx, ih fun y hy => hl y (by simp [hy])];rfl
 exact this hs fun x hx => hx
theorem left_none {left : Lit → Bool} {hs : List Pf} (h : ∀ k, left k = false) : leftLen left hs = 0 := by
 induction hs with
 | nil => rfl
 | cons x r ih => unfold leftLen; rw [h, ih]; rfl
theorem left_step {left : Lit → Bool} {hs : List Pf} {x : Pf} (hr : Rising (hs.map (·.f))) (hx : x ∈ hs) (hl : left (key x.f.nm) = true) :
 leftLen (fun z => left z && !z.sameKey (key x.f.nm)) hs + x.f.len = leftLen left hs := by
 have h0 : ∀ (l : List Pf), (∀ y ∈ l, y.f.nm ≠ x.f.nm) → leftLen (fun z => left z && !z.sameKey (key x.f.nm)) l = leftLen left l := by
  intro l hl;induction l with
  | nil => rfl
  | cons y r ih =>
    unfold leftLen;rw [ih fun z hz => hl z (by simp [hz])];simp only [eqn_key, eqn_ne (hl y (by simp)), Bool.not_false, Bool.and_true]
 induction hs with
 | nil => cases hx
 | cons y r ih =>
   obtain ⟨p1, p2⟩ := List.pairwise_cons.1 (List.pairwise_map.1 hr);rcases List.mem_cons.1 hx with rfl | hx
   · unfold leftLen
     rw [h0 r fun z hz e => before_ne (p1 z hz) e.symm];simp only [eqn_key, eqn_self, Bool.not_true, Bool.and_false, hl];simp only [Bool.false_eq_true, if_false, if_true];omega
   · have h1 := ih (List.pairwise_map.2 p2) hx
     unfold leftLen;have hne : y.f.nm ≠ x.f.nm := before_ne (p1 x hx);simp only [eqn_key, eqn_ne hne, Bool.not_false, Bool.and_true];omega
theorem has_mem {hs : List Pf} {l : Lit} {y : DataW Unit} (h : ∀ zd, (DataW.map (ent hs)).atKey l zd = y) : ∃ x ∈ hs, l = key x.f.nm ∧ y = .lit (.int .u64 (x.b : Int)) := by
 have h1 := has_true_of_atKey h;rw [has_eq, List.any_eq_true] at h1;obtain ⟨p, hp, he⟩ := h1;obtain ⟨x, hx, rfl⟩ := List.mem_map.1 hp;have e : l = key x.f.nm := (WideAt.sameKey_eq he).symm;subst e;have h2 := h .nil;rw [at_ent] at h2;cases hl : look hs x.f.nm with
 | none =>
   unfold look at hl;rw [List.find?_eq_none] at hl;exact absurd (eqn_self _) (hl x hx)
 | some z =>
   have hz : z ∈ hs := List.mem_of_find?_eq_some hl;have hn : z.f.nm = x.f.nm := eqn_same (List.find?_some (p := fun h : Pf => eqn h.f.nm x.f.nm) hl);rw [hl] at h2;refine ⟨z, hz, by rw [hn], h2.symm⟩
end Go.Proofs.YtkejjdoaljoooaaGreatDoor.Dsk
/- The program's disk in memory: its box, its map, and of each file a box and a row of bytes, all apart; what keeps it, and what a step makes of it. -/
namespace Go.Proofs.YtkejjdoaljoooaaGreatDoor.Dsk
open Lib (hid)
open Go.RowKit Mem Go.Maps
def Pf.val (h : Pf) : Value := .slice h.A h.f.all.length h.c
def Pf.has (h : Pf) (k : Nat) : Prop := k = h.b ∨ h.val.ownBlock = some k
structure PfIn (w : World) (h : Pf) : Prop where
 box : Blk w h.b 84 #[h.val, .int .i64 (h.f.sure.length : Int)]
 row : w.ownsRow 0 5 1 h.val h.f.all.length (cs h.f.all)
 self : h.val.ownBlock ≠ some h.b
theorem row_keep {w w' : World} {e : TypeId} {v : Value} {n : Nat} {xs : List Value} (h : w.ownsRow 0 e 1 v n xs) (hs : ∀ k, v.ownBlock = some k → w'.heap[k]? = w.heap[k]?) : w'.ownsRow 0 e 1 v n xs := by
 refine ⟨h.1, ?_⟩;rcases h.2 with e | ⟨g, cap, cur, e, hb, hg, r⟩
 · exact .inl e
 · exact .inr ⟨g, cap, cur, e, hb, (hs g (by rw [e]; rfl)).trans hg, r⟩
theorem PfIn.lt {w : World} {h : Pf} (hi : PfIn w h) {k : Nat} (hk : h.has k) : k < w.heap.size := by
 rcases hk with rfl | hk
 · exact hi.box.lt
 · exact (hi.row.lt k hk).2
theorem PfIn.keep {w w' : World} {h : Pf} (hi : PfIn w h) (hs : ∀ k, h.has k → w'.heap[k]? = w.heap[k]?) : PfIn w' h :=
 ⟨(hs h.b (.inl rfl)).trans hi.box, row_keep hi.row fun k hk => hs k (.inr hk), hi.self⟩
structure Own (w : World) (S : Nat → Prop) (p m : Nat) (d : Dk) (hs : List Pf) : Prop where
 box : Blk w p 57 #[.map (some m), .int .i64 d.room, .int .i64 d.fuse, .bool d.dn]
 map : w.ownsMap Tryz.prog 9 ptrElem m hs.length (.map (ent hs))
 fs : hs.map (·.f) = d.fs
 up : Rising d.fs
 file : ∀ h ∈ hs, PfIn w h
 off : ∀ h ∈ hs, ∀ x ∈ hs, h.f.nm ≠ x.f.nm → ∀ k, h.has k → ¬ x.has k
 out : ∀ h ∈ hs, ∀ k, h.has k → k ≠ p ∧ k ≠ m ∧ S k
 pm : p ≠ m
 sp : S p
 sm : S m
 lt : ∀ k, S k → k < w.heap.size
def DI : Held := fun w S p d => ∃ m hs, Own w S p m d hs
theorem map_keep {w w' : World} {m n : Nat} {D : DataW Unit} (h : w.ownsMap Tryz.prog 9 ptrElem m n D) (hs : w'.heap[m]? = w.heap[m]?) : w'.ownsMap Tryz.prog 9 ptrElem m n D := by
 obtain ⟨es, clock, hb, r⟩ := h;exact ⟨es, clock, hs.trans hb, r⟩
theorem map_size {w : World} {m n : Nat} {hs : List Pf} (h : w.ownsMap Tryz.prog 9 ptrElem m n (.map (ent hs))) : w.ownsMap Tryz.prog 9 ptrElem m hs.length (.map (ent hs)) := by
 obtain ⟨es, clock, hb, hF, hn, hD⟩ := h;refine ⟨es, clock, hb, hF, ?_, hD⟩;have h1 := congrArg Maps.size hD;rw [size_ent] at h1;rw [h1];show es.size ≤ ((es.toList.map (WideElems.rg Tryz.prog 9 ptrElem)).foldr DataW.insert []).length;rw [length_sorted, List.length_map, Array.length_toList];exact Nat.le_refl _
section
variable {w w' : World} {S S' T : Nat → Prop} {p m : Nat} {d d' : Dk} {hs : List Pf}
theorem Own.same (h : Own w S p m d hs) (hz : w.heap.size ≤ w'.heap.size) (hk : ∀ k, (k = p ∨ k = m ∨ ∃ x ∈ hs, x.has k) → w'.heap[k]? = w.heap[k]?) : Own w' S p m d hs where
 box := (hk p (.inl rfl)).trans h.box
 map := map_keep h.map (hk m (.inr (.inl rfl)))
 fs := h.fs
 up := h.up
 file := fun x hx => (h.file x hx).keep fun k hk' => hk k (.inr (.inr ⟨x, hx, hk'⟩))
 off := h.off
 out := h.out
 pm := h.pm
 sp := h.sp
 sm := h.sm
 lt := fun k hS => Nat.lt_of_lt_of_le (h.lt k hS) hz
theorem Own.inS (h : Own w S p m d hs) {k : Nat} (hk : k = p ∨ k = m ∨ ∃ x ∈ hs, x.has k) : S k := by
 rcases hk with rfl | rfl | ⟨x, hx, hk⟩
 · exact h.sp
 · exact h.sm
 · exact (h.out x hx k hk).2.2
theorem Own.keep (h : Own w S p m d hs) (hk : Keeps T w w') (hd : ∀ b, S b → ¬ T b) : Own w' S p m d hs :=
 h.same hk.size fun k hk' => hk.block k (h.lt k (h.inS hk')) (hd k (h.inS hk'))
theorem Own.below (h : Own w S p m d hs) (hb : Below w.heap.size w w') : Own w' S p m d hs := h.keep (T := fun _ => False) (Keeps.ofBelow hb) fun _ _ h => h
theorem Own.more (h : Own w S p m d hs) (hS : ∀ k, S k → S' k) (hl : ∀ k, S' k → k < w.heap.size) : Own w S' p m d hs where
 box := h.box
 map := h.map
 fs := h.fs
 up := h.up
 file := h.file
 off := h.off
 out := fun x hx k hk => ⟨(h.out x hx k hk).1, (h.out x hx k hk).2.1, hS k (h.out x hx k hk).2.2⟩
 pm := h.pm
 sp := hS p h.sp
 sm := hS m h.sm
 lt := hl
theorem Own.setp (h : Own w S p m d hs) (hg : w.grownBy w' (some p)) (hb : Blk w' p 57 #[.map (some m), .int .i64 d'.room, .int .i64 d'.fuse, .bool d'.dn]) (hf : d'.fs = d.fs) : Own w' S p m d' hs where
 box := hb
 map := map_keep h.map (hg.block m (h.lt m h.sm) fun e => h.pm (by injection e with e; exact e.symm))
 fs := h.fs.trans hf.symm
 up := by rw [hf]; exact h.up
 file := fun x hx => (h.file x hx).keep fun k hk => hg.block k ((h.file x hx).lt hk) fun e => (h.out x hx k hk).1 (by injection e)
 off := h.off
 out := h.out
 pm := h.pm
 sp := h.sp
 sm := h.sm
 lt := fun k hS => Nat.lt_of_lt_of_le (h.lt k hS) hg.size
def Plus (S : Nat → Prop) (w w' : World) (k : Nat) : Prop := S k ∨ (w.heap.size ≤ k ∧ k < w'.heap.size)
theorem plus_grew : Grew S (Plus S w w') w := fun _ h => h.imp id fun h => h.1
theorem plus_lt (h : ∀ k, S k → k < w.heap.size) (hs : w.heap.size ≤ w'.heap.size) : ∀ k, Plus S w w' k → k < w'.heap.size := fun k hk => hk.elim (fun h' => Nat.lt_of_lt_of_le (h k h') hs) fun h' => h'.2
theorem map_set_fs {hs : List Pf} {i : Nat} {x' : Pf} : (hs.set i x').map (·.f) = (hs.map (·.f)).set i x'.f := List.map_set
theorem ent_set {hs : List Pf} {i : Nat} {x x' : Pf} (hx : hs[i]? = some x) (hb : x'.b = x.b) (hn : x'.f.nm = x.f.nm) : ent (hs.set i x') = ent hs := by
 unfold ent;rw [List.map_set];apply List.ext_getElem?;intro j;rw [List.getElem?_set];split
 · rename_i e
   subst e;obtain ⟨hlt, rfl⟩ := List.getElem?_eq_some_iff.1 hx;simp only [List.length_map, hlt, if_true, List.getElem?_map, List.getElem?_eq_getElem hlt, Option.map_some];unfold entry;rw [hb, hn]
 · rfl
theorem names_set {hs : List Pf} {i : Nat} {x x' : Pf} (hx : hs[i]? = some x) (hn : x'.f.nm = x.f.nm) : ((hs.set i x').map (·.f)).map (·.nm) = (hs.map (·.f)).map (·.nm) := by
 apply List.ext_getElem?;intro j;simp only [List.map_map, List.getElem?_map, List.getElem?_set];split
 · rename_i e
   subst e;obtain ⟨hlt, rfl⟩ := List.getElem?_eq_some_iff.1 hx;simp [hlt, hn]
 · rfl
theorem Own.setf {i : Nat} {x x' : Pf} (h : Own w S p m d hs) (hx : hs[i]? = some x) (hk : Keeps x.has w w') (hb : x'.b = x.b) (hn : x'.f.nm = x.f.nm) (hin : PfIn w' x') (hr : ∀ k, x'.val.ownBlock = some k → x.val.ownBlock = some k ∨ w.heap.size ≤ k)
 (hd : d' = { d with fs := d.fs.set i x'.f }) : Own w' (Plus S w w') p m d' (hs.set i x') := by
 subst hd;have hmx : x ∈ hs := List.mem_of_getElem? hx;have hup : Rising (hs.map (·.f)) := by rw [h.fs]; exact h.up
 have hmem : ∀ y ∈ hs.set i x', y = x' ∨ (y ∈ hs ∧ y.f.nm ≠ x.f.nm) := by
  intro y hy;obtain ⟨j, hj⟩ := List.getElem?_of_mem hy;rw [List.getElem?_set] at hj;split at hj
  · split at hj
    · injection hj with hj
      exact .inl hj.symm
    · cases hj
  · rename_i hij
    refine .inr ⟨List.mem_of_getElem? hj, fun e => hij ?_⟩;have hyx := rising_one hup (List.mem_of_getElem? hj) hmx e;subst hyx;have h1 : hs.Pairwise fun a b => (key a.f.nm).before (key b.f.nm) = true := List.pairwise_map.1 hup;rw [List.pairwise_iff_getElem] at h1;obtain ⟨l1, e1⟩ := List.getElem?_eq_some_iff.1 hx;obtain ⟨l2, e2⟩ := List.getElem?_eq_some_iff.1 hj;rcases Nat.lt_trichotomy i j with h' | h' | h'
    · exact absurd (by rw [e1, e2]) (before_ne (h1 i j l1 l2 h'))
    · exact h'
    · exact absurd (by rw [e1, e2]) (before_ne (h1 j i l2 l1 h'))
 have hhas : ∀ k, x'.has k → x.has k ∨ w.heap.size ≤ k := by
  rintro k (rfl | hk')
  · exact .inl (.inl hb)
  · exact (hr k hk').imp .inr id
 have hnot : ∀ y ∈ hs, y.f.nm ≠ x.f.nm → ∀ k, y.has k → ¬ x'.has k := by
  intro y hy hne k hyk hxk;rcases hhas k hxk with h' | h'
  · exact h.off y hy x hmx hne k hyk h'
  · have := (h.file y hy).lt hyk
    omega
 have hold : ∀ k, k < w.heap.size → ¬ x.has k → w'.heap[k]? = w.heap[k]? := hk.block;refine ⟨?_, ?_, ?_, ?_, ?_, ?_, ?_, h.pm, .inl h.sp, .inl h.sm, plus_lt h.lt hk.size⟩
 · exact (hold p (h.lt p h.sp) fun e => (h.out x hmx p e).1 rfl).trans h.box
 · rw [ent_set hx hb hn, List.length_set]
   exact map_keep h.map (hold m (h.lt m h.sm) fun e => (h.out x hmx m e).2.1 rfl)
 · rw [map_set_fs, h.fs]
 · show Rising (d.fs.set i x'.f)
   rw [← h.fs, ← map_set_fs];exact rising_map hup (names_set hx hn)
 · intro y hy
   rcases hmem y hy with rfl | ⟨hy, hne⟩
   · exact hin
   · exact (h.file y hy).keep fun k hk' => hold k ((h.file y hy).lt hk') fun e => h.off y hy x hmx hne k hk' e
 · intro y hy z hz hne k hyk hzk
   rcases hmem y hy with ey | ⟨hy1, hne1⟩
   · rcases hmem z hz with ez | ⟨hz1, hne2⟩
     · exact hne (by rw [ey, ez])
     · exact hnot z hz1 hne2 k hzk (ey ▸ hyk)
   · rcases hmem z hz with ez | ⟨hz1, hne2⟩
     · exact hnot y hy1 hne1 k hyk (ez ▸ hzk)
     · exact h.off y hy1 z hz1 hne k hyk hzk
 · intro y hy k hk'
   rcases hmem y hy with rfl | ⟨hy, hne⟩
   · rcases hhas k hk' with h' | h'
     · obtain ⟨o1, o2, o3⟩ := h.out x hmx k h'
       exact ⟨o1, o2, .inl o3⟩
     · have h1 := h.lt p h.sp
       have h2 := h.lt m h.sm;exact ⟨by omega, by omega, .inr ⟨h', hin.lt hk'⟩⟩
   · obtain ⟨o1, o2, o3⟩ := h.out y hy k hk'
     exact ⟨o1, o2, .inl o3⟩
theorem Own.dropf {s : ByteArray} (h : Own w S p m d hs) (hg : w.grownBy w' (some m)) (hm : w'.ownsMap Tryz.prog 9 ptrElem m hs.length (.map (ent (dropP s hs)))) : Own w' S p m { d with fs := drop s d.fs } (dropP s hs) where
 box := (hg.block p (h.lt p h.sp) fun e => h.pm (by injection e)).trans h.box
 map := map_size hm
 fs := by rw [dropP_fs, h.fs]
 up := rising_drop h.up s
 file := fun x hx => (h.file x (mem_dropP.1 hx).1).keep fun k hk => hg.block k ((h.file x (mem_dropP.1 hx).1).lt hk) fun e => (h.out x (mem_dropP.1 hx).1 k hk).2.1 (by injection e)
 off := fun x hx y hy => h.off x (mem_dropP.1 hx).1 y (mem_dropP.1 hy).1
 out := fun x hx => h.out x (mem_dropP.1 hx).1
 pm := h.pm
 sp := h.sp
 sm := h.sm
 lt := fun k hS => Nat.lt_of_lt_of_le (h.lt k hS) hg.size
theorem Own.putf {x : Pf} (h : Own w S p m d hs) (hg : w.grownBy w' (some m)) (hm : w'.ownsMap Tryz.prog 9 ptrElem m (hs.length + 1) ((DataW.map (ent hs)).put (key x.f.nm) (.lit (.int .u64 (x.b : Int)))))
 (hin : PfIn w x) (ho : ∀ k, x.has k → k ≠ p ∧ k ≠ m ∧ S k) (hoff : ∀ y ∈ hs, y.f.nm ≠ x.f.nm → ∀ k, y.has k → ¬ x.has k) :
 Own w' S p m { d with fs := put x.f (drop x.f.nm d.fs) } (putP x (dropP x.f.nm hs)) := by
 have hmem : ∀ y, y ∈ putP x (dropP x.f.nm hs) → y = x ∨ (y ∈ hs ∧ y.f.nm ≠ x.f.nm) := fun y hy => (mem_putP.1 hy).imp id fun h => mem_dropP.1 h;have hkeep : ∀ y, PfIn w y → (∀ k, y.has k → k ≠ m) → PfIn w' y := fun y hy hne => hy.keep fun k hk => hg.block k (hy.lt hk) fun e => hne k hk (by injection e);refine ⟨(hg.block p (h.lt p h.sp) fun e => h.pm (by injection e)).trans h.box, ?_, ?_, ?_, ?_, ?_, ?_, h.pm, h.sp, h.sm, fun k hS => Nat.lt_of_lt_of_le (h.lt k hS) hg.size⟩
 · rw [put_ent] at hm
   exact map_size hm
 · rw [putP_fs, dropP_fs, h.fs]
 · refine rising_put (rising_drop h.up _) fun y hy e => ?_
   unfold drop at hy;have := (List.mem_filter.1 hy).2;rw [e, eqn_self] at this;cases this
 · intro y hy
   rcases hmem y hy with rfl | ⟨hy, hne⟩
   · exact hkeep _ hin fun k hk => (ho k hk).2.1
   · exact hkeep _ (h.file y hy) fun k hk => (h.out y hy k hk).2.1
 · intro y hy z hz hne k hyk hzk
   rcases hmem y hy with ey | ⟨hy1, hne1⟩
   · rcases hmem z hz with ez | ⟨hz1, hne2⟩
     · exact hne (by rw [ey, ez])
     · exact hoff z hz1 hne2 k hzk (ey ▸ hyk)
   · rcases hmem z hz with ez | ⟨hz1, hne2⟩
     · exact hoff y hy1 hne1 k hyk (ez ▸ hzk)
     · exact h.off y hy1 z hz1 hne k hyk hzk
 · intro y hy k hk
   rcases hmem y hy with rfl | ⟨hy, hne⟩
   · exact ho k hk
   · exact h.out y hy k hk
theorem Own.length (h : Own w S p m d hs) : hs.length = d.fs.length := by rw [← h.fs, List.length_map]
theorem Own.cells (h : Own w S p m d hs) : w.cell? ⟨p, 0, none⟩ = some (.map (some m)) ∧ w.cell? ⟨p, 1, none⟩ = some (.int .i64 d.room) ∧ w.cell? ⟨p, 2, none⟩ = some (.int .i64 d.fuse) ∧ w.cell? ⟨p, 3, none⟩ = some (.bool d.dn) :=
 ⟨h.box.cell 0, h.box.cell 1, h.box.cell 2, h.box.cell 3⟩
theorem PfIn.cells {x : Pf} (h : PfIn w x) : w.cell? ⟨x.b, 0, none⟩ = some (.slice x.A x.f.all.length x.c) ∧ w.cell? ⟨x.b, 1, none⟩ = some (.int .i64 (x.f.sure.length : Int)) := ⟨h.box.cell 0, h.box.cell 1⟩
theorem Own.find (h : Own w S p m d hs) {s : ByteArray} (hs' : s.size ≤ maxLen) : (Instr.lookup 55 (.map (some m)) (.string s) false).run Tryz.prog w = .ok (pv (look hs s)) w := by
 obtain ⟨v, ps, hrun, hv⟩ := h.map.lookup (t := 55) (e := 82) (string_keyed Tryz.underlying9) Tryz.underlying55 (Tryz.zeroValue82 w) (zd := .nil) (zp := []) rfl (WideMaps.keyOf_string_mk Tryz.underlying9 hs');have e := at_ent hs s;unfold key at e;rw [e] at hv;rw [pv_dat hv] at hrun;exact hrun
end
end Go.Proofs.YtkejjdoaljoooaaGreatDoor.Dsk
/- The program's isName: is a text a name? -/
namespace Go.Proofs.YtkejjdoaljoooaaGreatDoor.Dsk
open Lib (hid)
open Go.RowKit Mem
def letters : ByteArray := ⟨#[97, 98, 99, 100, 101, 102, 103, 104, 105, 106, 107, 108, 109, 110, 111, 112, 113, 114, 115, 116, 117, 118, 119, 120, 121, 122, 48, 49, 50, 51, 52, 53, 54, 55, 56, 57, 46, 45]⟩
set_option maxRecDepth 20000 in
theorem idx_all : ∀ b : Fin 256, decide (Lib.indexByte letters.data.toList b.val.toUInt8 < 0) = !letter b.val := by decide +kernel
theorem idx_letter (b : Nat) (h : b < 256) : decide (Lib.indexByte letters.data.toList (b : Int).toNat.toUInt8 < 0) = !letter b := by
 have := idx_all ⟨b, h⟩;simpa using this
def IsRel (w : World) (l : List Nat) (i : Value) (wr : World) : Prop := ∃ k : Nat, k ≤ l.length ∧ i = .int .i64 (k : Int) ∧ (l.take k).all letter = true ∧ wr = w
set_option maxRecDepth 20000 in
set_option maxHeartbeats 4000000 in
theorem isname_any (s : ByteArray) (w : World) (hs : s.size ≤ 9223372036854775807) : Calls Tryz.prog 83 #[.string s] w (fun e w' => e = .returned (.bool (isName s)) ∧ w' = w) := by
 obtain ⟨T, hT⟩ : ∃ T, isName s = T := ⟨_, rfl⟩
 rw [hT];rw [name_bts] at hT;obtain ⟨n, hn⟩ : ∃ n, s.size = n := ⟨_, rfl⟩
 obtain ⟨l, hl⟩ : ∃ l, bts s = l := ⟨_, rfl⟩
 have hln : l.length = n := by rw [← hl, length_bts, hn]
 have hlt := bts_lt s;have hbyte := fun (i b : Nat) (hi : i < n) (hb : l[i]? = some b) (w : World) => byte_at s .i64 i (b := b) (by rw [hn]; exact hi) (by rw [hl, List.getD_eq_getElem?_getD, hb]; rfl) w;rw [hl] at hT hlt;rw [hn] at hT hs;have HT := hid hT;have HLN := hid hln;have HLT := hid hlt;have HBY := hid hbyte;have HIX := hid (fun (c : Int) (u : World) => Tryz.strings_IndexByte letters c u);clear hT hln hlt hl hbyte;go_enter Tryz.func83, Tryz.ntmps83
 by_cases hz : n = 0
 · have b0 : ((n : Int) == 0) = true := by rw [hz]; rfl
   have HZ := hid hz;clear hz;go_wp2_with fail
   go_ret;refine ⟨?_, rfl⟩;rw [← HT.out, HZ.out];simp
 have b0 : ((n : Int) == 0) = false := by
  cases e : ((n : Int) == 0)
  · rfl
  · simp at e; omega
 by_cases h16 : 16 < n
 · have b1 : decide ((16 : Int) < (n : Int)) = true := decide_eq_true (by omega)
   have HZ := hid h16;clear h16 hz;go_wp2_with fail
   go_ret;refine ⟨?_, rfl⟩;have := HZ.out;rw [← HT.out, decide_eq_false (show ¬ n ≤ 16 by omega), Bool.and_false, Bool.and_false];rfl
 have b1 : decide ((16 : Int) < (n : Int)) = false := decide_eq_false (by omega);have HN1 := hid (show 1 ≤ n by omega);have HN16 := hid (show n ≤ 16 by omega);clear hz h16;go_wp2_with fail
 go_loopw [14] (IsRel w l) (fun i _ => n - (intOf i).toNat)
 case atStart => exact ⟨0, Nat.zero_le _, rfl, rfl, rfl⟩
 case round =>
  obtain ⟨k, hk, rfl, hpre, rfl⟩ := hrel;have HP := hid hpre;have hkn : k ≤ n := by rw [← HLN.out]; exact hk
  clear hpre;by_cases hlt : k < n
  · obtain ⟨b, hb⟩ : ∃ b, l[k]? = some b := ⟨_, List.getElem?_eq_getElem (by rw [HLN.out]; exact hlt)⟩
    have hix := HBY.out k b hlt hb;have hb256 := HLT.out b (List.mem_of_getElem? hb);have hil := idx_letter b hb256;have HC := hid (HIX.out (b : Int) wr);have HB := hid hb;have c0 : decide ((k : Int) < (n : Int)) = true := decide_eq_true (by omega);obtain ⟨r, hr⟩ : ∃ r, Lib.indexByte letters.data.toList (b : Int).toNat.toUInt8 = r := ⟨_, rfl⟩
    rw [hr] at hil HC;obtain ⟨bi, hbi⟩ : ∃ bi : Int, (b : Int) = bi := ⟨_, rfl⟩
    rw [hbi] at hix HC;obtain ⟨t, ht⟩ : ∃ t, letter b = t := ⟨_, rfl⟩
    rw [ht] at hil;have HTT := hid ht;clear hr hbi ht hb;cases t with
    | true =>
      have hil' : decide (r < 0) = false := hil;clear hil;go_wp2_with fail
      refine HC.out.mono ?_;rintro e u ⟨rfl, hu⟩;subst hu;go_wp2_with fail
      exact ⟨⟨k + 1, by rw [HLN.out]; omega, by simp, all_take HP.out HB.out HTT.out, rfl⟩, by simp [intOf]; omega⟩
    | false =>
      have hil' : decide (r < 0) = true := hil;clear hil;go_wp2_with fail
      refine HC.out.mono ?_;rintro e u ⟨rfl, hu⟩;subst hu;go_wp2_with fail
      go_ret;refine ⟨?_, rfl⟩;rw [← HT.out, not_all HB.out HTT.out];rfl
  · have hkn' : k = n := by omega
    subst hkn';have c0 : decide ((k : Int) < (k : Int)) = false := decide_eq_false (by omega);clear hlt;go_wp2_with fail
    go_ret;refine ⟨?_, rfl⟩;have h := HP.out;rw [List.take_of_length_le (by rw [HLN.out]; exact Nat.le_refl _)] at h;rw [← HT.out, h, decide_eq_true HN1.out, decide_eq_true HN16.out];rfl
end Go.Proofs.YtkejjdoaljoooaaGreatDoor.Dsk
/- The library's Clone of a text, and of bytes. -/
namespace Go.Proofs.YtkejjdoaljoooaaGreatDoor.Dsk
open Lib (hid)
open Go.RowKit Mem
set_option maxHeartbeats 4000000 in
theorem sclone_any (s : ByteArray) (w : World) (hs : s.size ≤ 281474976710656) : Calls Tryz.prog 43 #[.string s] w (fun e w' => e = .returned (.string s) ∧ Below w.heap.size w w') := by
 have HC := hid (Tryz.stringslite_Clone s w hs);go_enter Tryz.func43, Tryz.ntmps43
 go_wp2_with fail
 refine HC.out.mono ?_;rintro e u ⟨rfl, hb⟩;have HB := hid hb;clear hb;go_wp2_with fail
 go_ret;exact ⟨rfl, HB.out⟩
set_option maxRecDepth 20000 in
set_option maxHeartbeats 4000000 in
theorem bclone_any (A : Option Addr) (n c : Nat) (bs : List Nat) (w : World) (hr : Rd w A n c (cs bs)) (hn : n ≤ 1099511627776) :
 Calls Tryz.prog 49 #[.slice A n c] w (fun e w' => ∃ A' c', e = .returned (.slice A' n c') ∧ w'.ownsRow w.heap.size 5 1 (.slice A' n c') n (cs bs) ∧ Below w.heap.size w w') := by
 obtain ⟨i0, hi, hz0, hz1, hz2⟩ := info_parts info5;have hnil := fun (u : World) (A : Option Addr) (n c : Nat) => Lib.run_eql_slice_nil (P := Tryz.prog) u 71 5 A n c 0 0 Tryz.underlying71;cases A with
 | none =>
   have hc : c = 0 := hr.nil rfl;have hn0 : n = 0 := (by have := hr.le; omega);subst hc;subst hn0;have hbs : cs bs = [] := List.eq_nil_of_length_eq_zero hr.len;rw [hbs];clear hr hn;go_enter Tryz.func49, Tryz.ntmps49
   go_wp2_with fail
   go_ret;exact ⟨none, 0, rfl, World.ownsRow_nil _ _ _ _, Below.refl _ _⟩
 | some ad =>
   have HR := hid (show Rd (w.alloc (.cells #[] 5)) (some ad) n c (cs bs) from hr.alloc _);have HO := hid (show (w.alloc (.cells #[] 5)).ownsRow w.heap.size 5 1 (.slice (some ⟨w.heap.size, 0, none⟩) 0 0) 0 [] from ⟨rfl, .inr ⟨w.heap.size, 0, #[], rfl, Nat.le_refl _, heap_alloc_new w _, Nat.le_refl _, by unfold maxLen; omega, rfl, rfl⟩⟩);have HW := hid (bel_alloc (Below.refl w.heap.size w) (.cells #[] 5));clear hr;go_enter Tryz.func49, Tryz.ntmps49
   go_wp2_with (first
    | (at_builtin; refine wpList_append_rd rfl (.tmp 5) (.tmp 6) 71 rfl w.heap.size 5 i0 _ 1 Tryz.underlying71 hi hz0 hz1 hz2 rfl (some ⟨w.heap.size, 0, none⟩) 0 0 [] (by rfl) HO.out (some ad) n c (cs bs) (by rfl) HR.out (cs_one _) (by unfold maxLen; omega) (by omega) HW.out.size ?_; intro V' c' w' hown hb)
    | fail)
   have HO2 := hid hown;have HB2 := hid hb;clear hown hb;go_wp2_with fail
   go_ret;have h := HO2.out;rw [List.nil_append, Nat.zero_add] at h;exact ⟨V', c', by simp, h, HW.out.trans HB2.out⟩
end Go.Proofs.YtkejjdoaljoooaaGreatDoor.Dsk
/- The program's size: how many bytes all files have, in whatever order the map gives them. -/
namespace Go.Proofs.YtkejjdoaljoooaaGreatDoor.Dsk
open Lib (hid)
open Go.RowKit Mem Go.Maps
set_option maxRecDepth 20000 in
theorem wpList_next_files (w : World) {ops : Array Oper} {rest : List Oper} {o : Oper} {a : Act} {Q : Exit → Act → World → Prop}
 (hg : o.guard = none) (it : Operand) (hop : o.op = Op.next it false) (b r n : Nat) (hs : List Pf) (left : Lit → Bool) (cnt : Nat)
 (hit : a.eval it = .pointer (some ⟨r, 0, none⟩)) (h : w.ranges Tryz.prog 9 ptrElem b r n (.map (ent hs)) left cnt)
 (hDone : (∀ kl, left kl = false) → wpList Tryz.prog ops Q rest (a.put o.dst (.tuple #[.bool false])) w)
 (hMore : ∀ (x : Pf) (w' : World) (cnt' : Nat), x ∈ hs → left (key x.f.nm) = true → w'.ranges Tryz.prog 9 ptrElem b r n (.map (ent hs)) (fun z => left z && !z.sameKey (key x.f.nm)) cnt' → cnt' < cnt →
  w.grownBy w' (some r) → w'.heap.size = w.heap.size → (Instr.entry (.pointer (some ⟨r, 0, none⟩))).run Tryz.prog w' = .ok (.tuple #[.string x.f.nm, .pointer (some ⟨x.b, 0, none⟩)]) w' → wpList Tryz.prog ops Q rest (a.put o.dst (.tuple #[.bool true, .string x.f.nm, .pointer (some ⟨x.b, 0, none⟩)])) w') :
 wpList Tryz.prog ops Q (o :: rest) a w := by
 refine wpList_plain hg fun K' hK' => ?_;unfold Oper.wp;rcases h.next (string_keyed Tryz.underlying9) o.type with ⟨h0, hl, hrun⟩ | ⟨k, v, kl, y, w', cnt', hkey, hlk, hv, hat, hrun, hrg, hlt, hgr, hsz, hen⟩
 · simp [execOp, hop, hit, hrun, Result.andThen]
   exact hK' _ _ (hDone hl)
 · obtain ⟨x, hx, ekl, ey⟩ := has_mem hat
   obtain ⟨z, ez, ez2, hzl⟩ := Maps.keyOf_str Tryz.underlying9 hkey;obtain ⟨y1, y2⟩ := y;have ey : y1 = .lit (.int .u64 (x.b : Int)) := ey;subst ey;have ev := ptr_some hv;subst ev
   have ek : k = .string x.f.nm := by
    rw [ez2] at ekl;unfold key at ekl;injection ekl with ekl;rw [ez, ekl]
   subst ek;subst ekl;simp [execOp, hop, hit, hrun, Result.andThen];exact hK' _ _ (hMore x w' cnt' hx hlk hrg hlt hgr hsz hen)
def SizeRel (hs : List Pf) (m r U : Nat) (w : World) (a : Value) (wr : World) : Prop := ∃ left cnt acc, wr.ranges Tryz.prog 9 ptrElem m r hs.length (.map (ent hs)) left cnt ∧ a = .int .i64 ((acc : Nat) : Int) ∧ acc + leftLen left hs = U ∧ Below w.heap.size w wr
set_option maxRecDepth 20000 in
set_option maxHeartbeats 4000000 in
theorem size_any (p m : Nat) (S : Nat → Prop) (d : Dk) (hs : List Pf) (w : World) (h : Own w S p m d hs) (hu : used d.fs ≤ 9223372036854775807) :
 Calls Tryz.prog 29 #[ptr p] w (fun e w' => e = .returned (.int .i64 ((used d.fs : Nat) : Int)) ∧ Below w.heap.size w w') := by
 obtain ⟨U, hU⟩ : ∃ U, used d.fs = U := ⟨_, rfl⟩
 rw [hU] at hu ⊢;have hall : leftLen (has (DataW.map (ent hs))) hs = U := by rw [left_all, h.fs, hU]
 have hup : Rising (hs.map (·.f)) := by rw [h.fs]; exact h.up
 have c0 := h.cells.1;have hmap := h.map;have HF := hid h.file;have HUP := hid hup;have HALL := hid hall;clear h hU hup hall;unfold ptr;go_enter Tryz.func29, Tryz.ntmps29
 go_wp2_with (first
  | (at_range; refine wpList_range_own _ rfl _ 55 rfl 9 82 (string_keyed Tryz.underlying9) Tryz.underlying55 _ m hs.length _ rfl hmap ?_; intro w0 hrg0 hg0 hs0)
  | fail)
 try go_frame
 have HB0 := hid (show Below w.heap.size w w0 from (Below.refl _ w).grown hg0 (Nat.le_refl _) fun k e => by cases e);have HR0 := hid hrg0;obtain ⟨r, hr⟩ : ∃ r, w.heap.size = r := ⟨_, rfl⟩
 have HRW := hid hr;rw [hr] at HR0 ⊢;clear hrg0 hg0 hs0 hmap c0 hr;go_loopw [3] (SizeRel hs m r U w) (fun _ wr => wr.rangeLeft m r)
 case atStart => exact ⟨_, _, 0, HR0.out, rfl, by rw [HALL.out]; omega, HB0.out⟩
 case round =>
  obtain ⟨left, cnt, acc, hrg, rfl, hsum, hbl⟩ := hrel;have HBL := hid hbl;have HSUM := hid hsum;clear hsum hbl
  go_wp2_with (first
   | (at_next; refine wpList_next_files _ rfl _ rfl m r hs.length hs left cnt rfl hrg ?_ ?_)
   | fail)
  · intro hl0
    have h0 := left_none (hs := hs) hl0;have hs1 := HSUM.out;rw [h0, Nat.add_zero] at hs1;subst hs1;go_wp2_with fail
    go_ret;exact ⟨rfl, HBL.out⟩
  · intro x w2 cnt2 hx hlk hrg2 hlt hg2 hs2 hen
    have hst := left_step HUP.out hx hlk;have hin := HF.out x hx;have hbr : Below w.heap.size w w2 := HBL.out.grown hg2 HBL.out.size fun k e => (by cases e; rw [HRW.out]; exact Nat.le_refl _);have hc := (hin.keep (w' := w2) fun k hk => hbr.block k (hin.lt hk)).cells;have hlen : x.f.all.length = x.f.len := x.f.len_all;obtain ⟨q, hq⟩ : ∃ q, x.f.all.length = q := ⟨_, rfl⟩
    rw [hq] at hc hlen;obtain ⟨ci0, ci1⟩ := hc;have hs1 := HSUM.out;have hqa : acc + q ≤ 9223372036854775807 := (by omega);have HST := hid hst;have HQ := hid hlen;have HG2 := hid hrg2;have HBR := hid hbr;have HLT := hid hlt;have HRG := hid hrg;clear hs2 hst hlen hq hrg2 hbr hg2 hs1 ci1 hin hx hlk hlt hrg;go_wp2_with fail
    go_roundw
    case rel => exact ⟨_, cnt2, acc + q, HG2.out, by rw [Int.natCast_add], by have h1 := HSUM.out; have h2 := HST.out; have h3 := HQ.out; omega, HBR.out⟩
    case measure => rw [HG2.out.left_eq, HRG.out.left_eq]; exact HLT.out
end Go.Proofs.YtkejjdoaljoooaaGreatDoor.Dsk
