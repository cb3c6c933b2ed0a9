/-
  Texts of earlier layers, as one.
-/
import Derived.Test.YtcnjjabjdepjgaaDskAll
import Derived.Test.YtcnjjabjdepjgaaRBase
import Derived.Deep.AppendLies
import Derived.Laws.Cover1
import Derived.Deep.Cut
/- The document's drop and put: a new row of files, in the place of the old one. -/
namespace Go.Proofs.Ytcnjjabjdepjgaa.Dsk
open Go.RowKit Mem Cod

theorem infoF : (Try.prog.info? 67).map (fun i => (i.zero, i.size, i.bytes)) = some (some (.agg #[.string ⟨#[]⟩, .slice none 0 0, .slice none 0 0]), 3, 64) := by kernel_rfl
theorem cellsF_snoc (hs : List Hf) (h : Hf) : cellsF (hs ++ [h]) = cellsF hs ++ h.cells := by simp [cellsF]
/-- A row that was grown by appends lies in new blocks. -/
theorem files_new {S : Nat → Prop} {w w' : World} {V : Option Addr} {m cv : Nat} {hs : List Hf} {l : List Fl} (hown : w'.ownsRow w.heap.size 67 3 (.slice V m cv) m (cellsF hs)) (hm : hs.map (·.f) = l) (hi : ∀ h ∈ hs, HfIn S w h) (hb : Below w.heap.size w w') : Files S w' V m cv l :=
  ⟨hs, own_low hown (Nat.zero_le _), hm, fun h hh => (hi h hh).keep hb.size fun b hS hlt => ⟨⟨hS, fun e => by have := (hown.lt b e.symm).1; omega⟩, hb.block b hlt⟩⟩
def DropRel (w : World) (l : List Fl) (s : ByteArray) (S : Nat → Prop) (o i : Value) (wr : World) : Prop :=
  ∃ (k : Nat) (V : Option Addr) (m cv : Nat) (hs : List Hf), k ≤ l.length ∧ i = .int .i64 (k : Int) ∧ o = .slice V m cv ∧ m ≤ k ∧ wr.ownsRow w.heap.size 67 3 (.slice V m cv) m (cellsF hs) ∧ hs.map (·.f) = drop s (l.take k) ∧ (∀ h ∈ hs, HfIn S w h) ∧ Below w.heap.size w wr
theorem drop_keep {l : List Fl} {s : ByteArray} {k : Nat} {f : Fl} (hk : l[k]? = some f) (h : eqn f.nm s = false) : drop s (l.take (k + 1)) = drop s (l.take k) ++ [f] := by
  unfold drop
  rw [List.take_add_one, hk, List.filter_append]
  simp [h]
theorem drop_out {l : List Fl} {s : ByteArray} {k : Nat} {f : Fl} (hk : l[k]? = some f) (h : eqn f.nm s = true) : drop s (l.take (k + 1)) = drop s (l.take k) := by
  unfold drop
  rw [List.take_add_one, hk, List.filter_append]
  simp [h]
set_option maxRecDepth 20000 in
set_option maxHeartbeats 4000000 in
theorem drop_any (g : Nat) (A : Option Addr) (n c : Nat) (r1 r2 r3 : Value) (l : List Fl) (S : Nat → Prop) (s : ByteArray) (w : World) (hb : Blk w g 60 #[.slice A n c, r1, r2, r3]) (hf : Files S w A n c l) (hSg : ∀ b, S b → b ≠ g) (hn : n ≤ 1099511627776) :
    Calls Try.prog 53 #[.pointer (some ⟨g, 0, none⟩), .string s] w (fun e w' => e = .returned (.tuple #[]) ∧ ∃ A' m c', Blk w' g 60 #[.slice A' m c', r1, r2, r3] ∧ Files S w' A' m c' (drop s l) ∧ (∀ b, (Value.slice A' m c').ownBlock = some b → w.heap.size ≤ b) ∧ w.grownBy w' (some g)) := by
  obtain ⟨i0, hi, hz0, hz1, hz2⟩ := info_parts infoF
  have hln := hf.len
  have hcp := hf.cap
  obtain ⟨c0, c1, c2, c3⟩ := cells_dk hb
  have hgl := hb.lt
  have HBK := Lib.hid hb
  have HF := Lib.hid hf
  have HLN := Lib.hid hln
  have HC0 := Lib.hid c0
  clear hb hf hln c0 c1 c2 c3
  go_enter Try.func53, Try.ntmps53
  go_wp2_with fail
  go_loopw [4, 5] (DropRel w l s S) (fun _ i _ => n - (intOf i).toNat)
  case atStart => exact ⟨0, none, 0, 0, [], Nat.zero_le _, rfl, rfl, Nat.le_refl _, ⟨rfl, .inl ⟨rfl, rfl⟩⟩, rfl, fun h hh => (by cases hh), Below.refl _ _⟩
  case round =>
    obtain ⟨k, V, m, cv, hs, hk, rfl, rfl, hmk, hown, hmap, hin, hbw⟩ := hrel
    have hkn : k ≤ n := by rw [← HLN.out]; exact hk
    have c0 := (hbw.cell (p := ⟨g, 0, none⟩) hgl).trans HC0.out
    have hsw := hbw.size
    have HO := Lib.hid hown
    have HM := Lib.hid hmap
    have HI := Lib.hid hin
    have HBW := Lib.hid hbw
    clear hk hown hmap hin hbw
    by_cases hlt : k < n
    · obtain ⟨f, hfk⟩ : ∃ f, l[k]? = some f := ⟨_, List.getElem?_eq_getElem (by rw [HLN.out]; exact hlt)⟩
      obtain ⟨gr, o, SA, sc, TA, tc, rfl, ho, hgr, p0, p1, p2, h1, h2⟩ := HF.out.at_ hfk
      have q0 := (HBW.out.cell (p := ⟨gr, o + k * 3, none⟩) hgr).trans p0
      have q1 := (HBW.out.cell (p := ⟨gr, o + k * 3 + 1, none⟩) hgr).trans p1
      have q2 := (HBW.out.cell (p := ⟨gr, o + k * 3 + 2, none⟩) hgr).trans p2
      have HFK := Lib.hid hfk
      have HHF := Lib.hid (show HfIn S w ⟨f, SA, sc, TA, tc⟩ from ⟨h1.keep (Nat.le_refl _) fun b hb _ => ⟨hb.1, rfl⟩, h2.keep (Nat.le_refl _) fun b hb _ => ⟨hb.1, rfl⟩⟩)
      have he : (f.nm.toList == s.toList) = eqn f.nm s := rfl
      obtain ⟨t, ht⟩ : ∃ t, eqn f.nm s = t := ⟨_, rfl⟩
      rw [ht] at he
      have HE := Lib.hid ht
      have b2 : decide ((n : Int) ≤ (k : Int)) = false := decide_eq_false (by omega)
      have b3 : ¬ n ≤ k := by omega
      clear hfk ho ht p0 p1 p2 h1 h2
      cases t with
      | true =>
        go_wp2_with fail
        exact ⟨⟨k + 1, V, m, cv, hs, by rw [HLN.out]; omega, by simp, rfl, by omega, HO.out, by rw [drop_out HFK.out HE.out]; exact HM.out, HI.out, HBW.out⟩, by simp [intOf]; omega⟩
      | false =>
        go_wp2_with (at_builtin; refine wpList_append_lies _ rfl (.tmp 25) (.tmp 33) 58 rfl w.heap.size 67 i0 _ 3 64 Try.underlying58 hi hz0 hz1 hz2 rfl (by omega) (.slice V m cv) m (cellsF hs) rfl (HO.out.alloc _) ⟨wr.heap.size, 0, none⟩ 1 1 [.string f.nm, .slice SA f.sure.length sc, .slice TA f.tail.length tc] rfl rfl (World.news_of_block (Blk.new wr 67 #[.string f.nm, .slice SA f.sure.length sc, .slice TA f.tail.length tc])) (by intro u hu; simp at hu; rcases hu with rfl | rfl | rfl <;> rfl) (by omega) (by unfold maxLen; omega) (by omega) (by rw [size_alloc]; omega) (wr.heap.size + 1) (by rw [size_alloc]) ?_; intro g' cap' w7 hown7 hgr7 hat7 hlt7)
        refine ⟨⟨k + 1, _, m + 1, cap', hs ++ [⟨f, SA, sc, TA, tc⟩], by rw [HLN.out]; omega, by simp, rfl, by omega, by rw [cellsF_snoc]; exact hown7, ?_, ?_, ?_⟩, by simp [intOf]; omega⟩
        · rw [List.map_append, HM.out, drop_keep HFK.out HE.out]
          rfl
        · intro h hh
          rcases List.mem_append.1 hh with hh | hh
          · exact HI.out h hh
          · have : h = ⟨f, SA, sc, TA, tc⟩ := by simpa using hh
            subst this
            exact HHF.out
        · exact (bel_alloc HBW.out _).grown hgr7 (by rw [size_alloc]; omega) fun b hb => (HO.out.lt b hb).1
    · have hkn' : k = n := by omega
      subst hkn'
      have hall : l.take k = l := List.take_of_length_le (by rw [HLN.out]; exact Nat.le_refl _)
      have hm := HM.out
      rw [hall] at hm
      have HMM := Lib.hid hm
      have hbk := HBK.out.bel HBW.out
      have z0 := hbk.soft 0
      have HBN := Lib.hid hbk
      clear hall hm hbk hlt
      go_wp2_with fail
      go_end0
      have hl := blk_list HBN.out (.slice V m cv)
      have hfi := files_new HO.out HMM.out HI.out HBW.out
      refine ⟨rfl, V, m, cv, hl.1, ?_, fun b hb => (HO.out.lt b hb).1, ?_⟩
      · refine hfi.keep hl.2.size (fun b hS hlt => ⟨hS, hl.2.block b hlt fun e => hSg b hS (by injection e)⟩) fun b hb => ?_
        have h := HO.out.lt b hb
        exact hl.2.block b h.2 fun e => by injection e with e; omega
      · exact gr_set (below_gr HBW.out (some g)) (.inl rfl) _
def PutRel (w0 : World) (l : List Fl) (fl : Fl) (S : Nat → Prop) (w : World) (o dn i : Value) (wr : World) : Prop :=
  ∃ (k : Nat) (t : Bool) (V : Option Addr) (m cv : Nat) (hs : List Hf), k ≤ l.length ∧ i = .int .i64 (k : Int) ∧ dn = .bool t ∧ o = .slice V m cv ∧ m ≤ k + 1 ∧ wr.ownsRow w0.heap.size 67 3 (.slice V m cv) m (cellsF hs) ∧
    (if t = true then hs.map (·.f) = put fl (l.take k) ∧ (∃ x ∈ l.take k, gtn x.nm fl.nm = true) else hs.map (·.f) = l.take k ∧ ∀ x ∈ l.take k, gtn x.nm fl.nm = false) ∧ (∀ h ∈ hs, HfIn S w h) ∧ Below w0.heap.size w0 wr
theorem put_done {f y : Fl} : ∀ {a : List Fl}, (∃ x ∈ a, gtn x.nm f.nm = true) → put f (a ++ [y]) = put f a ++ [y]
  | [], ⟨_, hx, _⟩ => by cases hx
  | z :: a, ⟨x, hx, hg⟩ => by
    rw [List.cons_append]
    unfold put
    by_cases hz : gtn z.nm f.nm = true
    · rw [if_pos hz, if_pos hz]
      rfl
    · rw [if_neg hz, if_neg hz]
      rcases List.mem_cons.1 hx with rfl | hx
      · exact absurd hg hz
      · rw [put_done ⟨x, hx, hg⟩]
        rfl
theorem put_end {f : Fl} : ∀ {a : List Fl}, (∀ x ∈ a, gtn x.nm f.nm = false) → put f a = a ++ [f]
  | [], _ => rfl
  | z :: a, h => by
    unfold put
    rw [if_neg (by rw [h z (by simp)]; decide), put_end fun x hx => h x (List.mem_cons_of_mem _ hx)]
    rfl
theorem put_here {f y : Fl} (hy : gtn y.nm f.nm = true) : ∀ {a : List Fl}, (∀ x ∈ a, gtn x.nm f.nm = false) → put f (a ++ [y]) = a ++ [f] ++ [y]
  | [], _ => by
    show put f [y] = [f, y]
    unfold put
    rw [if_pos hy]
  | z :: a, h => by
    rw [List.cons_append]
    unfold put
    rw [if_neg (by rw [h z (by simp)]; decide), put_here hy fun x hx => h x (List.mem_cons_of_mem _ hx)]
    rfl
theorem take_snoc {l : List Fl} {k : Nat} {f : Fl} (hk : l[k]? = some f) : l.take (k + 1) = l.take k ++ [f] := by
  rw [List.take_add_one, hk]
  rfl
set_option maxRecDepth 20000 in
set_option maxHeartbeats 8000000 in
theorem put_any (g : Nat) (A : Option Addr) (n c : Nat) (r1 r2 r3 : Value) (l : List Fl) (S : Nat → Prop) (fl : Fl) (FA GA : Option Addr) (fc gc : Nat) (w : World) (hb : Blk w g 60 #[.slice A n c, r1, r2, r3]) (hf : Files S w A n c l) (hfl : HfIn S w ⟨fl, FA, fc, GA, gc⟩) (hSg : ∀ b, S b → b ≠ g) (hn : n ≤ 1099511627776) :
    Calls Try.prog 51 #[.pointer (some ⟨g, 0, none⟩), .agg #[.string fl.nm, .slice FA fl.sure.length fc, .slice GA fl.tail.length gc]] w (fun e w' => e = .returned (.tuple #[]) ∧ ∃ A' m c', Blk w' g 60 #[.slice A' m c', r1, r2, r3] ∧ Files S w' A' m c' (put fl l) ∧ (∀ b, (Value.slice A' m c').ownBlock = some b → w.heap.size ≤ b) ∧ w.grownBy w' (some g)) := by
  obtain ⟨i0, hi, hz0, hz1, hz2⟩ := info_parts infoF
  have hln := hf.len
  have hcp := hf.cap
  have hgl := hb.lt
  have hbx := Blk.new w 67 #[.string fl.nm, .slice FA fl.sure.length fc, .slice GA fl.tail.length gc]
  have hb0 := bel_alloc (Below.refl w.heap.size w) (.cells #[.string fl.nm, .slice FA fl.sure.length fc, .slice GA fl.tail.length gc] 67)
  obtain ⟨W, hW⟩ : ∃ W, w.alloc (.cells #[.string fl.nm, .slice FA fl.sure.length fc, .slice GA fl.tail.length gc] 67) = W := ⟨_, rfl⟩
  rw [hW] at hbx hb0
  have hbW := hb.bel hb0
  have hfW := hf.below hb0
  have hflW := hfl.keep (S' := S) hb0.size fun b hS hlt => ⟨hS, hb0.block b hlt⟩
  obtain ⟨c0, c1, c2, c3⟩ := cells_dk hbW
  have d0 := hbx.cell 0
  have d1 := hbx.cell 1
  have d2 := hbx.cell 2
  simp at d0 d1 d2
  have HBK := Lib.hid hbW
  have HF := Lib.hid hfW
  have HFL := Lib.hid hflW
  have HLN := Lib.hid hln
  have HC0 := Lib.hid c0
  have HD := Lib.hid (And.intro d0 (And.intro d1 d2))
  have HB0 := Lib.hid hb0
  have HW := Lib.hid hW
  have hgW : g < W.heap.size := by have := hb0.size; omega
  have hwW : w.heap.size < W.heap.size := hbx.lt
  clear hb hf hln c0 c1 c2 c3 d0 d1 d2 hbx hb0 hbW hfW hflW hfl hW
  go_enter Try.func51, Try.ntmps51
  go_upto_region 1 with fail
  rw [HW.out]
  go_wp2_with fail
  go_loopw [4, 5, 6] (PutRel W l fl S W) (fun _ _ i _ => n - (intOf i).toNat)
  case atStart => exact ⟨0, false, none, 0, 0, [], Nat.zero_le _, rfl, rfl, rfl, by omega, ⟨rfl, .inl ⟨rfl, rfl⟩⟩, ⟨rfl, fun x hx => (by cases hx)⟩, fun h hh => (by cases hh), Below.refl _ _⟩
  case round =>
    obtain ⟨k, t, V, m, cv, hs, hk, rfl, rfl, rfl, hmk, hown, hmap, hin, hbw⟩ := hrel
    have hkn : k ≤ n := by rw [← HLN.out]; exact hk
    have c0 := (hbw.cell (p := ⟨g, 0, none⟩) hgW).trans HC0.out
    have d0 := (hbw.cell (p := ⟨w.heap.size, 0, none⟩) hwW).trans HD.out.1
    have d1 := (hbw.cell (p := ⟨w.heap.size, 1, none⟩) hwW).trans HD.out.2.1
    have d2 := (hbw.cell (p := ⟨w.heap.size, 2, none⟩) hwW).trans HD.out.2.2
    have hsw := hbw.size
    have HO := Lib.hid hown
    have HM := Lib.hid hmap
    have HI := Lib.hid hin
    have HBW := Lib.hid hbw
    clear hk hown hmap hin hbw
    by_cases hlt : k < n
    · obtain ⟨f, hfk⟩ : ∃ f, l[k]? = some f := ⟨_, List.getElem?_eq_getElem (by rw [HLN.out]; exact hlt)⟩
      obtain ⟨gr, o, SA, sc, TA, tc, rfl, ho, hgr, p0, p1, p2, h1, h2⟩ := HF.out.at_ hfk
      have HQ := Lib.hid (And.intro p0 (And.intro p1 p2))
      have q0 := (HBW.out.cell (p := ⟨gr, o + k * 3, none⟩) hgr).trans p0
      have q1 := (HBW.out.cell (p := ⟨gr, o + k * 3 + 1, none⟩) hgr).trans p1
      have q2 := (HBW.out.cell (p := ⟨gr, o + k * 3 + 2, none⟩) hgr).trans p2
      have HFK := Lib.hid hfk
      have HHF := Lib.hid (show HfIn S W ⟨f, SA, sc, TA, tc⟩ from ⟨h1.keep (Nat.le_refl _) fun b hb _ => ⟨hb.1, rfl⟩, h2.keep (Nat.le_refl _) fun b hb _ => ⟨hb.1, rfl⟩⟩)
      have he : (!(Op.bytesLess f.nm.toList fl.nm.toList || f.nm.toList == fl.nm.toList)) = gtn f.nm fl.nm := rfl
      obtain ⟨u, hu⟩ : ∃ u, gtn f.nm fl.nm = u := ⟨_, rfl⟩
      rw [hu] at he
      have HE := Lib.hid hu
      have b2 : decide ((n : Int) ≤ (k : Int)) = false := decide_eq_false (by omega)
      have b3 : ¬ n ≤ k := by omega
      clear hfk ho hu p0 p1 p2 h1 h2
      cases t with
      | true =>
        have hmm := HM.out
        rw [if_pos rfl] at hmm
        have HMM := Lib.hid hmm
        clear hmm HM
        go_wp2_with fail
        go_quiet (fail)
        clear c0 d0 d1 d2 q0 q1 q2
        have HB1 := Lib.hid (below_drewN HBW.out nq)
        have HO1 := Lib.hid (ownsRow_below HO.out (below_drewN (Below.refl wr.heap.size wr) nq))
        have hs1 : W.heap.size ≤ (wr.drewN nq).heap.size := HB1.out.size
        generalize wr.drewN nq = w1 at HB1 HO1 hs1 ⊢
        have c0 := (HB1.out.cell (p := ⟨g, 0, none⟩) hgW).trans HC0.out
        have d0 := (HB1.out.cell (p := ⟨w.heap.size, 0, none⟩) hwW).trans HD.out.1
        have d1 := (HB1.out.cell (p := ⟨w.heap.size, 1, none⟩) hwW).trans HD.out.2.1
        have d2 := (HB1.out.cell (p := ⟨w.heap.size, 2, none⟩) hwW).trans HD.out.2.2
        have q0 := (HB1.out.cell (p := ⟨gr, o + k * 3, none⟩) hgr).trans HQ.out.1
        have q1 := (HB1.out.cell (p := ⟨gr, o + k * 3 + 1, none⟩) hgr).trans HQ.out.2.1
        have q2 := (HB1.out.cell (p := ⟨gr, o + k * 3 + 2, none⟩) hgr).trans HQ.out.2.2
        go_wp2_with (at_builtin; refine wpList_append_lies _ rfl (.tmp 35) (.tmp 43) 58 rfl W.heap.size 67 i0 _ 3 64 Try.underlying58 hi hz0 hz1 hz2 rfl (by omega) (.slice V m cv) m (cellsF hs) rfl (HO1.out.alloc _) ⟨w1.heap.size, 0, none⟩ 1 1 [.string f.nm, .slice SA f.sure.length sc, .slice TA f.tail.length tc] rfl rfl (World.news_of_block (Blk.new w1 67 #[.string f.nm, .slice SA f.sure.length sc, .slice TA f.tail.length tc])) (by intro u hu; simp at hu; rcases hu with rfl | rfl | rfl <;> rfl) (by omega) (by unfold maxLen; omega) (by omega) (by rw [size_alloc]; omega) (w1.heap.size + 1) (by rw [size_alloc]) ?_; intro g' cap' w7 hown7 hgr7 hat7 hlt7)
        refine ⟨⟨k + 1, true, _, m + 1, cap', hs ++ [⟨f, SA, sc, TA, tc⟩], by rw [HLN.out]; omega, by simp, rfl, rfl, by omega, by rw [cellsF_snoc]; exact hown7, ?_, ?_, ?_⟩, by simp [intOf]; omega⟩
        · rw [if_pos rfl]
          obtain ⟨x, hx, hg⟩ := HMM.out.2
          refine ⟨?_, x, ?_, hg⟩
          · rw [List.map_append, HMM.out.1, take_snoc HFK.out, put_done HMM.out.2]
            rfl
          · rw [take_snoc HFK.out]
            exact List.mem_append_left _ hx
        · intro h hh
          rcases List.mem_append.1 hh with hh | hh
          · exact HI.out h hh
          · have : h = ⟨f, SA, sc, TA, tc⟩ := by simpa using hh
            subst this
            exact HHF.out
        · exact (bel_alloc HB1.out _).grown hgr7 (by rw [size_alloc]; omega) fun b hb => (HO1.out.lt b hb).1
      | false =>
        have hmm := HM.out
        rw [if_neg (by decide)] at hmm
        have hmk' : m = k := by
          have h1 := congrArg List.length hmm.1
          have h2 := HO.out.1
          rw [length_cellsF] at h2
          rw [List.length_map, List.length_take, HLN.out] at h1
          omega
        have HMK := Lib.hid hmk'
        have HMM := Lib.hid hmm
        clear hmm HM hmk'
        cases u with
        | true =>
          go_wp2_with fail
          go_quiet (fail)
          clear c0 d0 d1 d2 q0 q1 q2
          have HB1 := Lib.hid (below_drewN HBW.out nq)
          have HO1 := Lib.hid (ownsRow_below HO.out (below_drewN (Below.refl wr.heap.size wr) nq))
          have hs1 : W.heap.size ≤ (wr.drewN nq).heap.size := HB1.out.size
          generalize wr.drewN nq = w1 at HB1 HO1 hs1 ⊢
          have c0 := (HB1.out.cell (p := ⟨g, 0, none⟩) hgW).trans HC0.out
          have d0 := (HB1.out.cell (p := ⟨w.heap.size, 0, none⟩) hwW).trans HD.out.1
          have d1 := (HB1.out.cell (p := ⟨w.heap.size, 1, none⟩) hwW).trans HD.out.2.1
          have d2 := (HB1.out.cell (p := ⟨w.heap.size, 2, none⟩) hwW).trans HD.out.2.2
          have q0 := (HB1.out.cell (p := ⟨gr, o + k * 3, none⟩) hgr).trans HQ.out.1
          have q1 := (HB1.out.cell (p := ⟨gr, o + k * 3 + 1, none⟩) hgr).trans HQ.out.2.1
          have q2 := (HB1.out.cell (p := ⟨gr, o + k * 3 + 2, none⟩) hgr).trans HQ.out.2.2
          have hrow := HO1.out
          go_upto_region 9 with (at_builtin; refine wpList_append_lies _ rfl (.tmp 31) (.tmp 33) 58 rfl W.heap.size 67 i0 _ 3 64 Try.underlying58 hi hz0 hz1 hz2 rfl (by omega) (.slice V m cv) m (cellsF hs) rfl (hrow.alloc _) ⟨w1.heap.size, 0, none⟩ 1 1 [.string fl.nm, .slice FA fl.sure.length fc, .slice GA fl.tail.length gc] rfl rfl (World.news_of_block (Blk.new w1 67 #[.string fl.nm, .slice FA fl.sure.length fc, .slice GA fl.tail.length gc])) (by intro u hu; simp at hu; rcases hu with rfl | rfl | rfl <;> rfl) (by omega) (by unfold maxLen; omega) (by omega) (by rw [size_alloc]; omega) (w1.heap.size + 1) (by rw [size_alloc]) ?_; intro g' cap' w7 hown7 hgr7 hat7 hlt7)
          have HB7 := Lib.hid ((bel_alloc HB1.out (.cells #[.string fl.nm, .slice FA fl.sure.length fc, .slice GA fl.tail.length gc] 67)).grown hgr7 (by rw [size_alloc]; omega) fun b hb => (HO1.out.lt b hb).1)
          have HO7 := Lib.hid (show w7.ownsRow W.heap.size 67 3 (.slice (some ⟨g', 0, none⟩) (m + 1) cap') (m + 1) (cellsF (hs ++ [⟨fl, FA, fc, GA, gc⟩])) by rw [cellsF_snoc]; exact hown7)
          have hs7 : W.heap.size ≤ w7.heap.size := HB7.out.size
          clear c0 d0 d1 d2 q0 q1 q2 hown7 hgr7 hat7 hlt7
          have c0 := (HB7.out.cell (p := ⟨g, 0, none⟩) hgW).trans HC0.out
          have d0 := (HB7.out.cell (p := ⟨w.heap.size, 0, none⟩) hwW).trans HD.out.1
          have d1 := (HB7.out.cell (p := ⟨w.heap.size, 1, none⟩) hwW).trans HD.out.2.1
          have d2 := (HB7.out.cell (p := ⟨w.heap.size, 2, none⟩) hwW).trans HD.out.2.2
          have q0 := (HB7.out.cell (p := ⟨gr, o + k * 3, none⟩) hgr).trans HQ.out.1
          have q1 := (HB7.out.cell (p := ⟨gr, o + k * 3 + 1, none⟩) hgr).trans HQ.out.2.1
          have q2 := (HB7.out.cell (p := ⟨gr, o + k * 3 + 2, none⟩) hgr).trans HQ.out.2.2
          go_wp2_with (at_builtin; refine wpList_append_lies _ rfl (.tmp 35) (.tmp 43) 58 rfl W.heap.size 67 i0 _ 3 64 Try.underlying58 hi hz0 hz1 hz2 rfl (by omega) (.slice (some ⟨g', 0, none⟩) (m + 1) cap') (m + 1) (cellsF (hs ++ [⟨fl, FA, fc, GA, gc⟩])) rfl (HO7.out.alloc _) ⟨w7.heap.size, 0, none⟩ 1 1 [.string f.nm, .slice SA f.sure.length sc, .slice TA f.tail.length tc] rfl rfl (World.news_of_block (Blk.new w7 67 #[.string f.nm, .slice SA f.sure.length sc, .slice TA f.tail.length tc])) (by intro u hu; simp at hu; rcases hu with rfl | rfl | rfl <;> rfl) (by omega) (by unfold maxLen; omega) (by omega) (by rw [size_alloc]; omega) (w7.heap.size + 1) (by rw [size_alloc]) ?_; intro g2 cap2 w9 hown9 hgr9 hat9 hlt9)
          refine ⟨⟨k + 1, true, _, m + 1 + 1, cap2, hs ++ [⟨fl, FA, fc, GA, gc⟩] ++ [⟨f, SA, sc, TA, tc⟩], by rw [HLN.out]; omega, by simp, rfl, rfl, by have := HMK.out; omega, by rw [cellsF_snoc]; exact hown9, ?_, ?_, ?_⟩, by simp [intOf]; omega⟩
          · rw [if_pos rfl]
            refine ⟨?_, f, ?_, HE.out⟩
            · rw [List.map_append, List.map_append, HMM.out.1, take_snoc HFK.out, put_here HE.out HMM.out.2]
              rfl
            · rw [take_snoc HFK.out]
              exact List.mem_append_right _ (by simp)
          · intro h hh
            rcases List.mem_append.1 hh with hh | hh
            · rcases List.mem_append.1 hh with hh | hh
              · exact HI.out h hh
              · have : h = ⟨fl, FA, fc, GA, gc⟩ := by simpa using hh
                subst this
                exact HFL.out
            · have : h = ⟨f, SA, sc, TA, tc⟩ := by simpa using hh
              subst this
              exact HHF.out
          · exact (bel_alloc HB7.out _).grown hgr9 (by rw [size_alloc]; omega) fun b hb => (HO7.out.lt b hb).1
        | false =>
          go_wp2_with fail
          go_quiet (fail)
          clear c0 d0 d1 d2 q0 q1 q2
          have HB1 := Lib.hid (below_drewN HBW.out nq)
          have HO1 := Lib.hid (ownsRow_below HO.out (below_drewN (Below.refl wr.heap.size wr) nq))
          have hs1 : W.heap.size ≤ (wr.drewN nq).heap.size := HB1.out.size
          generalize wr.drewN nq = w1 at HB1 HO1 hs1 ⊢
          have c0 := (HB1.out.cell (p := ⟨g, 0, none⟩) hgW).trans HC0.out
          have d0 := (HB1.out.cell (p := ⟨w.heap.size, 0, none⟩) hwW).trans HD.out.1
          have d1 := (HB1.out.cell (p := ⟨w.heap.size, 1, none⟩) hwW).trans HD.out.2.1
          have d2 := (HB1.out.cell (p := ⟨w.heap.size, 2, none⟩) hwW).trans HD.out.2.2
          have q0 := (HB1.out.cell (p := ⟨gr, o + k * 3, none⟩) hgr).trans HQ.out.1
          have q1 := (HB1.out.cell (p := ⟨gr, o + k * 3 + 1, none⟩) hgr).trans HQ.out.2.1
          have q2 := (HB1.out.cell (p := ⟨gr, o + k * 3 + 2, none⟩) hgr).trans HQ.out.2.2
          go_wp2_with (at_builtin; refine wpList_append_lies _ rfl (.tmp 35) (.tmp 43) 58 rfl W.heap.size 67 i0 _ 3 64 Try.underlying58 hi hz0 hz1 hz2 rfl (by omega) (.slice V m cv) m (cellsF hs) rfl (HO1.out.alloc _) ⟨w1.heap.size, 0, none⟩ 1 1 [.string f.nm, .slice SA f.sure.length sc, .slice TA f.tail.length tc] rfl rfl (World.news_of_block (Blk.new w1 67 #[.string f.nm, .slice SA f.sure.length sc, .slice TA f.tail.length tc])) (by intro u hu; simp at hu; rcases hu with rfl | rfl | rfl <;> rfl) (by omega) (by unfold maxLen; omega) (by omega) (by rw [size_alloc]; omega) (w1.heap.size + 1) (by rw [size_alloc]) ?_; intro g' cap' w7 hown7 hgr7 hat7 hlt7)
          refine ⟨⟨k + 1, false, _, m + 1, cap', hs ++ [⟨f, SA, sc, TA, tc⟩], by rw [HLN.out]; omega, by simp, rfl, rfl, by omega, by rw [cellsF_snoc]; exact hown7, ?_, ?_, ?_⟩, by simp [intOf]; omega⟩
          · rw [if_neg (by decide)]
            refine ⟨?_, ?_⟩
            · rw [List.map_append, HMM.out.1, take_snoc HFK.out]
              rfl
            · intro x hx
              rw [take_snoc HFK.out, List.mem_append] at hx
              rcases hx with hx | hx
              · exact HMM.out.2 x hx
              · have : x = f := by simpa using hx
                subst this
                exact HE.out
          · intro h hh
            rcases List.mem_append.1 hh with hh | hh
            · exact HI.out h hh
            · have : h = ⟨f, SA, sc, TA, tc⟩ := by simpa using hh
              subst this
              exact HHF.out
          · exact (bel_alloc HB1.out _).grown hgr7 (by rw [size_alloc]; omega) fun b hb => (HO1.out.lt b hb).1
    · have hkn' : k = n := by omega
      subst hkn'
      have hall : l.take k = l := List.take_of_length_le (by rw [HLN.out]; exact Nat.le_refl _)
      have hmm := HM.out
      rw [hall] at hmm
      clear hall HM
      cases t with
      | true =>
        rw [if_pos rfl] at hmm
        have HMM := Lib.hid hmm.1
        have hbk := HBK.out.bel HBW.out
        have z0 := hbk.soft 0
        have HBN := Lib.hid hbk
        clear hmm hbk hlt
        go_wp2_with fail
        go_end0
        have hl := blk_list HBN.out (.slice V m cv)
        have hfi := files_new HO.out HMM.out HI.out HBW.out
        refine ⟨rfl, V, m, cv, hl.1, ?_, fun b hb => by have := (HO.out.lt b hb).1; omega, ?_⟩
        · refine hfi.keep hl.2.size (fun b hS hlt => ⟨hS, hl.2.block b hlt fun e => hSg b hS (by injection e)⟩) fun b hb => ?_
          have h := HO.out.lt b hb
          exact hl.2.block b h.2 fun e => by injection e with e; omega
        · exact gr_set (below_gr (HB0.out.trans (HBW.out.mono HB0.out.size)) (some g)) (.inl rfl) _
      | false =>
        rw [if_neg (by decide)] at hmm
        have HMM := Lib.hid (show (hs ++ [(⟨fl, FA, fc, GA, gc⟩ : Hf)]).map (·.f) = put fl l by rw [List.map_append, hmm.1, put_end hmm.2]; rfl)
        have hi2 : ∀ h ∈ hs ++ [(⟨fl, FA, fc, GA, gc⟩ : Hf)], HfIn S W h := by
          intro h hh
          rcases List.mem_append.1 hh with hh | hh
          · exact HI.out h hh
          · have e : h = ⟨fl, FA, fc, GA, gc⟩ := by simpa using hh
            rw [e]
            exact HFL.out
        have HI2 := Lib.hid hi2
        clear hi2
        clear hmm hlt
        go_upto_region 12 with (at_builtin; refine wpList_append_lies _ rfl (.tmp 47) (.tmp 49) 58 rfl W.heap.size 67 i0 _ 3 64 Try.underlying58 hi hz0 hz1 hz2 rfl (by omega) (.slice V m cv) m (cellsF hs) rfl (HO.out.alloc _) ⟨wr.heap.size, 0, none⟩ 1 1 [.string fl.nm, .slice FA fl.sure.length fc, .slice GA fl.tail.length gc] rfl rfl (World.news_of_block (Blk.new wr 67 #[.string fl.nm, .slice FA fl.sure.length fc, .slice GA fl.tail.length gc])) (by intro u hu; simp at hu; rcases hu with rfl | rfl | rfl <;> rfl) (by omega) (by unfold maxLen; omega) (by omega) (by rw [size_alloc]; omega) (wr.heap.size + 1) (by rw [size_alloc]) ?_; intro g' cap' w7 hown7 hgr7 hat7 hlt7)
        have HB7 := Lib.hid ((bel_alloc HBW.out (.cells #[.string fl.nm, .slice FA fl.sure.length fc, .slice GA fl.tail.length gc] 67)).grown hgr7 (by rw [size_alloc]; omega) fun b hb => (HO.out.lt b hb).1)
        have HO7 := Lib.hid (show w7.ownsRow W.heap.size 67 3 (.slice (some ⟨g', 0, none⟩) (m + 1) cap') (m + 1) (cellsF (hs ++ [⟨fl, FA, fc, GA, gc⟩])) by rw [cellsF_snoc]; exact hown7)
        have hs7 : W.heap.size ≤ w7.heap.size := HB7.out.size
        have hbk := HBK.out.bel HB7.out
        have z0 := hbk.soft 0
        have HBN := Lib.hid hbk
        clear c0 d0 d1 d2 hown7 hgr7 hat7 hlt7 hbk
        have c0 := (HB7.out.cell (p := ⟨g, 0, none⟩) hgW).trans HC0.out
        go_wp2_with fail
        go_end0
        have hl := blk_list HBN.out (.slice (some ⟨g', 0, none⟩) (m + 1) cap')
        have hfi := files_new HO7.out HMM.out HI2.out HB7.out
        refine ⟨rfl, some ⟨g', 0, none⟩, m + 1, cap', hl.1, ?_, fun b hb => by have := (HO7.out.lt b hb).1; omega, ?_⟩
        · refine hfi.keep hl.2.size (fun b hS hlt => ⟨hS, hl.2.block b hlt fun e => hSg b hS (by injection e)⟩) fun b hb => ?_
          have h := HO7.out.lt b hb
          exact hl.2.block b h.2 fun e => by injection e with e; omega
        · exact gr_set (below_gr (HB0.out.trans (HB7.out.mono HB0.out.size)) (some g)) (.inl rfl) _
end Go.Proofs.Ytcnjjabjdepjgaa.Dsk
