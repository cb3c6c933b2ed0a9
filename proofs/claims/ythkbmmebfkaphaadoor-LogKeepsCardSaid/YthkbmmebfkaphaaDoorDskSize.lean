/-
  Texts of earlier layers, as one.
-/
import Derived.Test.YthkbmmebfkaphaaDoorDskOwn
import Derived.Test.YthkbmmebfkaphaaDoorRBase
import Derived.Maps.RangeWalk
import Derived.Deep.Cut
/- The program's size: how many bytes all files have, in whatever order the map gives them. -/
namespace Go.Proofs.YthkbmmebfkaphaaDoor.Dsk
open Go.RowKit Mem Go.Maps

set_option maxRecDepth 20000 in
/-- The step over the disk's map: a file that was not met yet, or there is none. -/
theorem wpList_next_files (w : World) {ops : Array Oper} {rest : List Oper} {o : Oper} {a : Act} {Q : Exit → Act → World → Prop}
    (hg : o.guard = none) (it : Operand) (hop : o.op = Op.next it false) (b r n : Nat) (hs : List Pf) (left : Lit → Bool) (cnt : Nat)
    (hit : a.eval it = .pointer (some ⟨r, 0, none⟩)) (h : w.ranges Tryd.prog 9 ptrElem b r n (.map (ent hs)) left cnt)
    (hDone : (∀ kl, left kl = false) → wpList Tryd.prog ops Q rest (a.put o.dst (.tuple #[.bool false])) w)
    (hMore : ∀ (x : Pf) (w' : World) (cnt' : Nat), x ∈ hs → left (key x.f.nm) = true → w'.ranges Tryd.prog 9 ptrElem b r n (.map (ent hs)) (fun z => left z && !z.sameKey (key x.f.nm)) cnt' → cnt' < cnt →
      w.grownBy w' (some r) → w'.heap.size = w.heap.size → (Instr.entry (.pointer (some ⟨r, 0, none⟩))).run Tryd.prog w' = .ok (.tuple #[.string x.f.nm, .pointer (some ⟨x.b, 0, none⟩)]) w' → wpList Tryd.prog ops Q rest (a.put o.dst (.tuple #[.bool true, .string x.f.nm, .pointer (some ⟨x.b, 0, none⟩)])) w') :
    wpList Tryd.prog ops Q (o :: rest) a w := by
  refine wpList_plain hg fun K' hK' => ?_
  unfold Oper.wp
  rcases h.next (string_keyed Tryd.underlying9) o.type with ⟨h0, hl, hrun⟩ | ⟨k, v, kl, y, w', cnt', hkey, hlk, hv, hat, hrun, hrg, hlt, hgr, hsz, hen⟩
  · simp [execOp, hop, hit, hrun, Result.andThen]
    exact hK' _ _ (hDone hl)
  · obtain ⟨x, hx, ekl, ey⟩ := has_mem hat
    obtain ⟨z, ez, ez2, hzl⟩ := Maps.keyOf_str Tryd.underlying9 hkey
    obtain ⟨y1, y2⟩ := y
    have ey : y1 = .lit (.int .u64 (x.b : Int)) := ey
    subst ey
    have ev := ptr_some hv
    subst ev
    have ek : k = .string x.f.nm := by
      rw [ez2] at ekl
      unfold key at ekl
      injection ekl with ekl
      rw [ez, ekl]
    subst ek
    subst ekl
    simp [execOp, hop, hit, hrun, Result.andThen]
    exact hK' _ _ (hMore x w' cnt' hx hlk hrg hlt hgr hsz hen)
def SizeRel (hs : List Pf) (m r U : Nat) (w : World) (a : Value) (wr : World) : Prop := ∃ left cnt acc, wr.ranges Tryd.prog 9 ptrElem m r hs.length (.map (ent hs)) left cnt ∧ a = .int .i64 ((acc : Nat) : Int) ∧ acc + leftLen left hs = U ∧ Below w.heap.size w wr
set_option maxRecDepth 20000 in
set_option maxHeartbeats 4000000 in
theorem size_any (p m : Nat) (S : Nat → Prop) (d : Dk) (hs : List Pf) (w : World) (h : Own w S p m d hs) (hu : used d.fs ≤ 9223372036854775807) :
    Calls Tryd.prog 42 #[ptr p] w (fun e w' => e = .returned (.int .i64 ((used d.fs : Nat) : Int)) ∧ Below w.heap.size w w') := by
  obtain ⟨U, hU⟩ : ∃ U, used d.fs = U := ⟨_, rfl⟩
  rw [hU] at hu ⊢
  have hall : leftLen (has (DataW.map (ent hs))) hs = U := by rw [left_all, h.fs, hU]
  have hup : Rising (hs.map (·.f)) := by rw [h.fs]; exact h.up
  have c0 := h.cells.1
  have hmap := h.map
  have HF := Lib.hid h.file
  have HUP := Lib.hid hup
  have HALL := Lib.hid hall
  clear h hU hup hall
  unfold ptr
  go_enter Tryd.func42, Tryd.ntmps42
  go_wp2_with (first
    | (at_range; refine wpList_range_own _ rfl _ 46 rfl 9 59 (string_keyed Tryd.underlying9) Tryd.underlying46 _ m hs.length _ rfl hmap ?_; intro w0 hrg0 hg0 hs0)
    | fail)
  try go_frame
  have HB0 := Lib.hid (show Below w.heap.size w w0 from (Below.refl _ w).grown hg0 (Nat.le_refl _) fun k e => by cases e)
  have HR0 := Lib.hid hrg0
  obtain ⟨r, hr⟩ : ∃ r, w.heap.size = r := ⟨_, rfl⟩
  have HRW := Lib.hid hr
  rw [hr] at HR0 ⊢
  clear hrg0 hg0 hs0 hmap c0 hr
  go_loopw [3] (SizeRel hs m r U w) (fun _ wr => wr.rangeLeft m r)
  case atStart => exact ⟨_, _, 0, HR0.out, rfl, by rw [HALL.out]; omega, HB0.out⟩
  case round =>
    obtain ⟨left, cnt, acc, hrg, rfl, hsum, hbl⟩ := hrel
    have HBL := Lib.hid hbl
    have HSUM := Lib.hid hsum
    clear hsum hbl
    go_wp2_with (first
      | (at_next; refine wpList_next_files _ rfl _ rfl m r hs.length hs left cnt rfl hrg ?_ ?_)
      | fail)
    · intro hl0
      have h0 := left_none (hs := hs) hl0
      have hs1 := HSUM.out
      rw [h0, Nat.add_zero] at hs1
      subst hs1
      go_wp2_with fail
      go_ret
      exact ⟨rfl, HBL.out⟩
    · intro x w2 cnt2 hx hlk hrg2 hlt hg2 hs2 hen
      have hst := left_step HUP.out hx hlk
      have hin := HF.out x hx
      have hbr : Below w.heap.size w w2 := HBL.out.grown hg2 HBL.out.size fun k e => by cases e; rw [HRW.out]; exact Nat.le_refl _
      have hc := (hin.keep (w' := w2) fun k hk => hbr.block k (hin.lt hk)).cells
      have hlen : x.f.all.length = x.f.len := x.f.len_all
      obtain ⟨q, hq⟩ : ∃ q, x.f.all.length = q := ⟨_, rfl⟩
      rw [hq] at hc hlen
      obtain ⟨ci0, ci1⟩ := hc
      have hs1 := HSUM.out
      have hqa : acc + q ≤ 9223372036854775807 := by omega
      have HST := Lib.hid hst
      have HQ := Lib.hid hlen
      have HG2 := Lib.hid hrg2
      have HBR := Lib.hid hbr
      have HLT := Lib.hid hlt
      have HRG := Lib.hid hrg
      clear hs2 hst hlen hq hrg2 hbr hg2 hs1 ci1 hin hx hlk hlt hrg
      go_wp2_with fail
      go_roundw
      case rel => exact ⟨_, cnt2, acc + q, HG2.out, by rw [Int.natCast_add], by have h1 := HSUM.out; have h2 := HST.out; have h3 := HQ.out; omega, HBR.out⟩
      case measure => rw [HG2.out.left_eq, HRG.out.left_eq]; exact HLT.out
end Go.Proofs.YthkbmmebfkaphaaDoor.Dsk
