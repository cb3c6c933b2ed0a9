/-
  Texts of earlier layers, as one.
-/
import Derived.Test.YtldlcddmbgcfdaaWhlAt
/- The program's Due: the first timers, as long as they are due, one by one. -/
namespace Go.Proofs.Ytldlcddmbgcfdaa.Wh
open Go.RowKit Mem Dsk Go.Maps

def encI (i : Int × Int) : List Value := [.int .i64 i.1, .int .i64 i.2]
def LI : Lay (Int × Int) := ⟨encI, 2, fun _ => rfl, fun x u hu => by
  simp only [encI, List.mem_cons, List.not_mem_nil, or_false] at hu
  rcases hu with rfl | rfl <;> rfl, by omega⟩
def idsOf (l : List Tm) : List (Int × Int) := l.map (fun t : Tm => t.i)
theorem dueR_cons (r : Tm) (x : List Tm) (now : Int) : dueR (r :: x) now = if r.a ≤ now then dueR x now + 1 else 0 := by
  unfold dueR
  rw [List.takeWhile_cons]
  by_cases h : r.a ≤ now <;> simp [h]
theorem dueR_at {now : Int} : ∀ {x : List Tm} {k : Nat}, k ≤ x.length → (∀ t ∈ x.take k, t.a ≤ now) → (x.drop k = [] ∨ ∃ r l, x.drop k = r :: l ∧ ¬ r.a ≤ now) → dueR x now = k
  | [], k, hk, _, _ => by simp at hk; subst hk; rfl
  | r :: x, 0, _, _, h => by
    rw [List.drop_zero] at h
    rcases h with h | ⟨r', l, h, h2⟩
    · cases h
    · injection h with h1 h3
      subst h1
      rw [dueR_cons, if_neg h2]
  | r :: x, k + 1, hk, h1, h => by
    rw [List.drop_succ_cons] at h
    rw [List.take_succ_cons] at h1
    rw [dueR_cons, if_pos (h1 r (List.mem_cons_self ..)), dueR_at (by simpa using hk) (fun t ht => h1 t (List.mem_cons_of_mem _ ht)) h]
theorem take_snoc {x l : List Tm} {k : Nat} {r : Tm} (h : x.drop k = r :: l) : x.take (k + 1) = x.take k ++ [r] ∧ x.drop (k + 1) = l ∧ k < x.length := by
  have hk : k < x.length := by
    rcases Nat.lt_or_ge k x.length with h' | h'
    · exact h'
    · rw [List.drop_eq_nil_of_le h'] at h; cases h
  have hx : x[k]? = some r := by
    have := congrArg (fun l : List Tm => l[0]?) h
    simpa [List.getElem?_drop] using this
  refine ⟨?_, ?_, hk⟩
  · rw [List.take_add_one, hx]
    rfl
  · rw [← List.drop_drop, h]
    rfl
theorem info_id : (Try.prog.info? 28).map (fun i => (i.zero, i.size, i.bytes)) = some (some (.agg #[.int .i64 0, .int .i64 0]), 2, 16) := by kernel_rfl
set_option maxRecDepth 20000 in
theorem asks_any (a now : Int) (g : Nat) (w : World) (h : w.cell? ⟨g, 0, none⟩ = some (.int .i64 now)) : Calls Try.prog 23 #[.int .i64 a, .pointer (some ⟨g, 0, none⟩)] w (fun e w' => e = .returned (.bool (decide (a ≤ now))) ∧ w' = w) := by
  go_enter Try.func23, Try.ntmps23
  go_wp2_with fail
  go_ret
  exact ⟨rfl, rfl⟩
theorem own_low {w : World} {B B' : Nat} {e : TypeId} {s : Nat} {v : Value} {n : Nat} {xs : List Value} (h : w.ownsRow B e s v n xs) (hB : B' ≤ B) : w.ownsRow B' e s v n xs := by
  refine ⟨h.1, ?_⟩
  rcases h.2 with e | ⟨g, cap, cur, e, hb, r⟩
  · exact .inl e
  · exact .inr ⟨g, cap, cur, e, by omega, r⟩
def lenOf : Value → Nat
  | .slice _ n _ => n
  | _ => 0
/-- What Due answers. -/
def Dues (x : List Tm) (now : Int) (w : World) (S : Nat → Prop) (p : Nat) (e : Ending) (w' : World) : Prop :=
  ∃ V c', e = .returned (.slice V (dueR x now) c') ∧ w'.ownsRow w.heap.size 28 LI.s (.slice V (dueR x now) c') (dueR x now) (LI.flat (idsOf (x.take (dueR x now)))) ∧ WI w' S p (x.drop (dueR x now)) ∧ Keeps S w w'
def TkRel (x : List Tm) (now : Int) (w : World) (S : Nat → Prop) (p : Nat) (v5 v6 v7 : Value) (wr : World) : Prop :=
  ∃ (k : Nat) (V : Option Addr) (c' : Nat), v5 = .slice V k c' ∧ v6 = .int .i64 (((x.drop k).head?.map (·.a)).getD 0) ∧ v7 = .bool (x.drop k).head?.isSome ∧ k ≤ x.length ∧ (∀ t ∈ x.take k, t.a ≤ now) ∧
    wr.ownsRow w.heap.size 28 LI.s (.slice V k c') k (LI.flat (idsOf (x.take k))) ∧ WI wr S p (x.drop k) ∧ Keeps S w wr
set_option maxRecDepth 20000 in
set_option maxHeartbeats 8000000 in
theorem takes_any {S : Nat → Prop} {p g : Nat} {x : List Tm} (now : Int) (w : World) (hw : WI w S p x) (hg : w.cell? ⟨g, 0, none⟩ = some (.int .i64 now)) (hgS : ¬ S g) (hl : x.length ≤ 800000) :
    Calls Try.prog 22 #[ptr p, .func (.func 23) #[] #[.pointer (some ⟨g, 0, none⟩)]] w (Dues x now w S p) := by
  have hlow := wi_low hw
  have hg2 := World.block_lt_of_cell? w _ hg
  have hnx := next_any w hw (by omega)
  have hst : TkRel x now w S p (.slice none 0 0) (.int .i64 ((x.head?.map (·.a)).getD 0)) (.bool x.head?.isSome) w := ⟨0, none, 0, rfl, rfl, rfl, Nat.zero_le _, (fun t ht => by cases ht), ⟨rfl, .inl ⟨rfl, rfl⟩⟩, hw, Keeps.refl S w⟩
  have HST := Lib.hid hst
  have HNX := Lib.hid hnx
  have HG := Lib.hid (And.intro hg (And.intro hgS (And.intro hg2 (And.intro hlow hl))))
  have HX := Lib.hid (wi_uq hw)
  obtain ⟨z1, hz1⟩ : ∃ v, (x.head?.map (·.a)).getD 0 = v := ⟨_, rfl⟩
  obtain ⟨z2, hz2⟩ : ∃ v, x.head?.isSome = v := ⟨_, rfl⟩
  rw [hz1, hz2] at HST HNX
  clear hlow hg2 hnx hst hw hg hgS hl hz1 hz2
  unfold ptr at HNX ⊢
  go_enter Try.func22, Try.ntmps22
  go_wp2_with fail
  refine HNX.out.mono ?_
  rintro e w2 ⟨rfl, rfl⟩
  go_wp2_with fail
  go_loopw [5, 6, 7] (TkRel x now w2 S p) (fun v _ _ _ => x.length - (lenOf v))
  case atStart => exact HST.out
  case round =>
    obtain ⟨k, V, c', rfl, rfl, rfl, hk, hal, hrow, hwi, hkp⟩ := hrel
    clear HST HNX
    cases hd : x.drop k with
    | nil =>
      have HE := Lib.hid (show Dues x now w2 S p (.returned (.slice V k c')) wr by
        have e := dueR_at hk hal (.inl hd)
        unfold Dues
        rw [e]
        exact ⟨V, c', rfl, hrow, hwi, hkp⟩)
      simp only [List.head?_nil, Option.map_none, Option.getD_none, Option.isSome_none]
      clear hk hal hrow hwi hkp hd
      go_wp2_with fail
      go_ret
      exact HE.out
    | cons r l =>
      simp only [List.head?_cons, Option.map_some, Option.getD_some, Option.isSome_some]
      have hgr : wr.cell? ⟨g, 0, none⟩ = some (.int .i64 now) := (hkp.cell (p := ⟨g, 0, none⟩) HG.out.2.2.1 HG.out.2.1).trans HG.out.1
      have hask := asks_any r.a now g wr hgr
      have HASK := Lib.hid hask
      by_cases hle : r.a ≤ now
      · rw [decide_eq_true hle] at HASK
        have hwi' := hwi
        rw [hd] at hwi'
        obtain ⟨ht1, ht2, ht3⟩ := take_snoc hd
        obtain ⟨A, c, b, D, h, ho, hh, hpm, hs⟩ := hwi'
        have hr := root_first hh hpm hs
        have hn0 : 0 < h.length := by rw [hpm.length_eq]; simp
        obtain ⟨q, rfl, hqp, hqb, hsq, hlc, hhd⟩ := ho.hdr hn0
        have hr3 := three (hhd.at_ hr)
        simp only [LT, Nat.zero_mul] at hr3
        obtain ⟨c3, c4, _⟩ := hr3
        have c0 := ho.cells.1
        have hwf : Wf r.i := ho.wf r (List.mem_of_getElem? hr)
        have hall : ∀ t ∈ x.take (k + 1), t.a ≤ now := fun t ht => by
          rw [ht1] at ht
          rcases List.mem_append.1 ht with ht | ht
          · exact hal t ht
          · rw [List.mem_singleton.1 ht]
            exact hle
        obtain ⟨⟨r1, r2⟩, ra⟩ := r
        simp only at c3 c4 hwf hask ⊢
        -- the first one's id in a box
        have hb1 := bel_alloc (Below.refl wr.heap.size wr) (.cells #[.int .i64 r1, .int .i64 r2] 28)
        have hbx := Blk.new wr 28 #[.int .i64 r1, .int .i64 r2]
        obtain ⟨W, hW⟩ : ∃ v, wr.alloc (.cells #[.int .i64 r1, .int .i64 r2] 28) = v := ⟨_, rfl⟩
        rw [hW] at hb1 hbx
        have hsW : W.heap.size = wr.heap.size + 1 := by rw [← hW]; simp
        have hwiW := wi_below hwi hb1
        rw [hd] at hwiW
        have hxl : (x.drop k).length ≤ 800000 := by rw [List.length_drop]; have := HG.out.2.2.2.2; omega
        have hcn := cancel_any (r1, r2) W hwiW hwf (by rw [hd] at hxl; omega)
        have huq : Uq (⟨(r1, r2), ra⟩ :: l) := by
          have h1 := (wi_uq hwi).1
          rw [hd] at h1
          exact h1
        have hout : outR (⟨(r1, r2), ra⟩ :: l) (r1, r2) = l := huq.out0
        rw [hout] at hcn
        obtain ⟨e0, e1⟩ := blk2 hbx
        have hkW := hkp.trans (Keeps.ofBelow hb1) (Grew.refl _ _)
        obtain ⟨tt, htt⟩ : ∃ v, (atR (⟨(r1, r2), ra⟩ :: l) (r1, r2)).isSome = v := ⟨_, rfl⟩
        rw [htt] at hcn
        obtain ⟨n, hn⟩ : ∃ n, h.length = n := ⟨_, rfl⟩
        rw [hn] at c0 hn0 hlc
        have hln : n ≤ 800000 := by rw [← hn, hpm.length_eq]; rw [hd] at hxl; exact hxl
        have HCN := Lib.hid hcn
        have HW := Lib.hid hW
        have HF := Lib.hid (And.intro ht1 (And.intro ht2 (And.intro ht3 (And.intro hall hxl))))
        have HR := Lib.hid (And.intro hrow (And.intro hkp (And.intro hkW (And.intro hb1 (And.intro hbx (And.intro hsW (wi_low hwi)))))))
        clear hk hal hrow hwi hkp hd hgr hask hle ht1 ht2 ht3 ho hh hpm hs hr hqp hqb hsq hhd hwf hall hb1 hbx hW hsW hwiW hxl hcn huq hout hkW htt hn
        unfold ptr at HCN
        go_wp2_with fail
        refine HASK.out.mono ?_
        rintro e w3 ⟨rfl, rfl⟩
        go_upto_region 6 with fail
        rw [HW.out]
        clear c0 c3 c4
        go_wp2_with fail
        refine HCN.out.mono ?_
        rintro e u ⟨rfl, hwiu, hku⟩
        have hbu : Blk u w3.heap.size 28 #[.int .i64 r1, .int .i64 r2] := (hku.block _ HR.out.2.2.2.2.1.lt fun hs => by have := HR.out.2.2.2.2.2.2 _ hs; omega).trans HR.out.2.2.2.2.1
        obtain ⟨d0, d1⟩ := blk2 hbu
        have hnS : ∀ j, w2.heap.size ≤ j → ¬ S j := fun j hj hs => by have := HG.out.2.2.2.1 j hs; omega
        have hrowu := row_keep (ownsRow_below HR.out.1 HR.out.2.2.2.1) (w' := u) fun j hj => hku.block j (by have := (HR.out.1.lt j hj).2; have := HR.out.2.2.2.1.size; omega) (hnS j (HR.out.1.lt j hj).1)
        have hbl : Below u.heap.size u (u.alloc (.cells #[.int .i64 r1, .int .i64 r2] 28)) := bel_alloc (Below.refl _ _) _
        have hlit : Rw LI (u.alloc (.cells #[.int .i64 r1, .int .i64 r2] 28)) (some ⟨u.heap.size, 0, none⟩) 1 1 [(r1, r2)] := Rw.lit (L := LI) u (r1, r2) 28
        obtain ⟨i0, hi, hz0, hz1, hz2⟩ := info_parts info_id
        have hkU := HR.out.2.2.1.trans hku (Grew.refl _ _)
        have hsU := hkU.size
        have hkl : k ≤ 800000 := by have := HF.out.2.2.1; have := HG.out.2.2.2.2; omega
        obtain ⟨V1, c1, u3, hrun, hown, hgrw, hloc⟩ := run_append_rw (L := LI) (ty := 40) (bytes := 16) Try.underlying40 hi hz0 hz1 hz2 rfl (ownsRow_below hrowu hbl) hlit (by unfold maxLen; omega) (by omega) (by simp; omega)
        have hkb : Keeps (fun j => w2.heap.size ≤ j) u u3 := ⟨hgrw.os, hgrw.tape, hgrw.output, by have := hgrw.size; simp at this; omega, fun j hj hn => (hgrw.block j (by simp; omega) fun e => hn (hrowu.lt j e.symm).1).trans (Below.heap_alloc u _ j hj)⟩
        have hwi3 := wi_keep hwiu hkb fun j hs hj => hnS j hj hs
        have hk3 : Keeps S w2 u3 := ⟨hkb.os.trans hkU.os, hkb.tape.trans hkU.tape, hkb.output.trans hkU.output, Nat.le_trans hsU hkb.size, fun j hj hn => (hkb.block j (by omega) (by omega)).trans (hkU.block j hj hn)⟩
        have hnx := next_any u3 hwi3 (by have := HF.out.2.2.2.2; have := congrArg List.length HF.out.2.1; rw [List.length_drop] at *; omega)
        obtain ⟨z1, hz1'⟩ : ∃ v, (l.head?.map (·.a)).getD 0 = v := ⟨_, rfl⟩
        obtain ⟨z2, hz2'⟩ : ∃ v, l.head?.isSome = v := ⟨_, rfl⟩
        have hrel : TkRel x now w2 S p (.slice V1 (k + 1) c1) (.int .i64 z1) (.bool z2) u3 := by
          refine ⟨k + 1, V1, c1, rfl, by rw [HF.out.2.1, hz1'], by rw [HF.out.2.1, hz2'], HF.out.2.2.1, HF.out.2.2.2.1, ?_, by rw [HF.out.2.1]; exact hwi3, hk3⟩
          rw [HF.out.1]
          unfold idsOf at hown ⊢
          rw [List.map_append]
          exact hown
        rw [hz1', hz2'] at hnx
        have HNX := Lib.hid hnx
        have HREL := Lib.hid hrel
        have HRUN := Lib.hid hrun
        unfold ptr at HNX
        clear hwiu hku hbu hnS hrowu hbl hlit hi hz0 hz1 hz2 i0 hkU hsU hown hgrw hloc hkb hwi3 hk3 hnx hz1' hz2' hrel hrun HCN HASK
        go_upto_region 4 with (at_builtin; refine wpList_append_row rfl (.tmp 36) (.tmp 38) rfl HRUN.out ?_)
        go_wp2_with fail
        refine HNX.out.mono ?_
        rintro e u4 ⟨rfl, rfl⟩
        go_wp2_with fail
        go_roundw
        case rel => exact HREL.out
        case measure =>
          have := HF.out.2.2.1
          simp [lenOf]
          omega
      · have HE := Lib.hid (show Dues x now w2 S p (.returned (.slice V k c')) wr by
          have e := dueR_at hk hal (.inr ⟨r, l, hd, hle⟩)
          unfold Dues
          rw [e]
          exact ⟨V, c', rfl, hrow, hwi, hkp⟩)
        rw [decide_eq_false hle] at HASK
        obtain ⟨ra, hra⟩ : ∃ v, r.a = v := ⟨_, rfl⟩
        rw [hra] at HASK ⊢
        clear hk hal hrow hwi hkp hd hgr hask hle hra
        go_wp2_with fail
        refine HASK.out.mono ?_
        rintro e w3 ⟨rfl, rfl⟩
        go_wp2_with fail
        go_ret
        exact HE.out
set_option maxRecDepth 20000 in
set_option maxHeartbeats 4000000 in
theorem due_any {S : Nat → Prop} {p : Nat} {x : List Tm} (now : Int) (w : World) (hw : WI w S p x) (hl : x.length ≤ 800000) : Calls Try.prog 14 #[ptr p, .int .i64 now] w (Dues x now w S p) := by
  have hlow := wi_low hw
  have hb1 := bel_alloc (Below.refl w.heap.size w) (.cells #[.int .i64 now] 3)
  have hbx := Blk.new w 3 #[.int .i64 now]
  obtain ⟨W, hW⟩ : ∃ v, w.alloc (.cells #[.int .i64 now] 3) = v := ⟨_, rfl⟩
  rw [hW] at hb1 hbx
  have htk := takes_any (g := w.heap.size) now W (wi_below hw hb1) (hbx.cell 0) (fun hs => by have := hlow _ hs; omega) hl
  have HTK := Lib.hid htk
  have HB := Lib.hid hb1
  have HW := Lib.hid hW
  clear hlow hb1 hbx hW htk hw
  unfold ptr at HTK ⊢
  go_enter Try.func14, Try.ntmps14
  go_upto_region 1 with fail
  rw [HW.out]
  go_wp2_with fail
  refine HTK.out.mono ?_
  rintro e u ⟨V, c', rfl, hrow, hwi, hk⟩
  have HR := Lib.hid (show Dues x now w S p (.returned (.slice V (dueR x now) c')) u from ⟨V, c', rfl, own_low hrow HB.out.size, hwi, (Keeps.ofBelow HB.out).trans hk (Grew.refl _ _)⟩)
  clear hrow hwi hk
  go_wp2_with fail
  go_ret
  exact HR.out
end Go.Proofs.Ytldlcddmbgcfdaa.Wh
