/-
  codec's plant of a list, and of any item.
-/
import Derived.Test.YthlhlhihllgfiaaCodPlant
import Derived.Test.YthlhlhihllgfiaaCodCheck
import Derived.Test.YthlhlhihllgfiaaCodRefForm
namespace Go.Proofs.Ythlhlhihllgfiaa
open Go.RowKit Mem Cod

theorem info54 : (Try.prog.info? 54).map (fun i => (i.zero, i.size, i.bytes)) = some (some .nilIface, 1, 16) := by kernel_rfl

def PlantRel (w : World) (l : List It) (d g s : Nat) (parts i : Value) (wr : World) : Prop :=
  ∃ (k : Nat) (V : Option Addr) (cv : Nat) (us : List Value), k ≤ l.length ∧ i = .int .i64 k ∧ parts = .slice V k cv ∧ wr.ownsRow w.heap.size 54 1 (.slice V k cv) k us ∧ chks (l.take k) (d + 1) = 0 ∧
    Plan wr g (s + (forms (l.take k)).length) ∧ w.grownBy wr (some g) ∧
    ∀ (j : Nat) (y : It) (u : Value), l[j]? = some y → us[j]? = some u → IsNode wr (fun b => w.heap.size ≤ b ∧ some b ≠ (Value.slice V k cv).ownBlock) y u

set_option maxHeartbeats 4000000 in
theorem plant_list (l : List It) (A : Option Addr) (c d g s : Nat) (S : Nat → Prop) (w : World) (hd : (d : Int) ≤ 15) (hl : Lies w S (.mk 2 0 ByteArray.empty l) A c) (hS : ∀ b, S b → b ≠ g) (hp : Plan w g s)
    (hs : s + (form (.mk 2 0 ByteArray.empty l)).length ≤ 1000000)
    (ih : ∀ (y : It) (A : Option Addr) (c s : Nat) (w : World), y ∈ l → Lies w S y A c → Plan w g s → s + (form y).length ≤ 1000000 →
      Calls Try.prog 24 #[.pointer (some ⟨g, 0, none⟩), .agg #[.int .i64 y.kind, .int .u64 (y.num : Int), .string y.str, .slice A y.kids.length c], .int .i64 ((d : Int) + 1)] w (Planted y (d + 1) g s w)) :
    Calls Try.prog 24 #[.pointer (some ⟨g, 0, none⟩), .agg #[.int .i64 2, .int .u64 0, .string ByteArray.empty, .slice A l.length c], .int .i64 d] w (Planted (.mk 2 0 ByteArray.empty l) d g s w) := by
  obtain ⟨i0, hi, hz0, hz1, hz2⟩ := info_parts info54
  have hf : formed (.mk 2 0 ByteArray.empty l) = true := by simp [formed, It.kind, It.num, It.str]
  obtain ⟨_, _, _, _, b5, b6⟩ := hl.bounds
  simp only [It.kids] at b5
  have HF := Lib.hid hf
  have HL := Lib.hid hl
  have IH := Lib.hid ih
  have HS := Lib.hid hS
  clear hf hl ih hS
  rw [form2 rfl] at hs
  simp only [It.kids, List.length_cons, List.length_append, Num.length_put] at hs
  have h9 := Num.size_pos l.length
  have hlen : l.length ≤ 1000000 := by have := length_forms l; omega
  have hdb : decide (16 ≤ (d : Int)) = false := by simp; omega
  go_enter Try.func24, Try.ntmps24
  go_wp2_with fail
  refine (formed_any (.mk 2 0 ByteArray.empty l) A c _).mono ?_
  rintro e w1 ⟨rfl, hb1⟩
  rw [HF.out]
  have hp1 : Plan w1 g s := (hp.alloc _).bel hb1
  have hg1 : w.grownBy w1 (some g) := gr_bel (gr_alloc (gr_refl _ _) _) hb1
  have hk1 := (Blk.new w 25 #[.int .i64 2, .int .u64 0, .string ByteArray.empty, .slice A l.length c]).bel hb1
  have hs1 : w.heap.size + 1 ≤ w1.heap.size := by have := hb1.size; simp at this; omega
  clear hb1
  go_wp2_with fail
  refine (add_any g s 1 _ hp1 (by omega)).mono ?_
  rintro e w2 ⟨rfl, hp2, hg2⟩
  have hk2 := hk1.grown hg2 (by have := hp.lt; simp; omega)
  obtain ⟨hc0, hc1, hc2, hc3⟩ := blk4 hk2
  go_wp2_with fail
  refine (size_any l.length _ (by omega) (by omega)).mono ?_
  rintro e w3 ⟨rfl, rfl⟩
  go_wp2_with fail
  refine (add_any g (s + 1) (Num.size l.length) _ hp2 (by omega)).mono ?_
  rintro e w4 ⟨rfl, hp4, hg4⟩
  have hk4 := hk2.grown hg4 (by have := hp.lt; simp; omega)
  obtain ⟨_, _, _, hd3⟩ := blk4 hk4
  have hgw : w.grownBy w4 (some g) := (hg1.trans hg2).trans hg4
  clear hp1 hg1 hk1 hp2 hg2 hk2 hc0 hc1 hc2 hc3 hg4
  go_wp2_with fail
  have hst : PlantRel w l d g (s + 1 + Num.size l.length) (.slice none 0 0) (.int .i64 0) w4 := by
    refine ⟨0, none, 0, [], Nat.zero_le _, rfl, rfl, ⟨rfl, .inl ⟨rfl, rfl⟩⟩, rfl, by simpa [forms] using hp4, hgw, fun j y u _ h => by simp at h⟩
  clear hp4 hgw hk4 hd3
  go_loopw [7, 59] (PlantRel w l d g (s + 1 + Num.size l.length)) (fun _ i _ => l.length - (intOf i).toNat)
  case atStart => exact hst
  case round =>
    clear hst
    obtain ⟨k, V, cv, us, hk, rfl, rfl, hown, hz, hpl, hgr, hnod⟩ := hrel
    have HO := Lib.hid hown
    have HZ := Lib.hid hz
    have HN := Lib.hid hnod
    clear hown hz hnod
    by_cases hlt : k < l.length
    · obtain ⟨ad, A', c', rfl, hSad, hblk, hsp, hl'⟩ := ((lies_eq _ _ _ _ _).1 HL.out).2.2 k hlt
      simp only [It.kids] at hsp hl'
      have hne : some ad.block ≠ some g := by have := HS.out _ hSad; simpa using this
      obtain ⟨s0, s1, s2, s3⟩ := hsp.keep (w' := wr) fun p hp => World.cell?_of_block (by rw [hp, add_block]; exact hgr.block _ hblk hne)
      generalize hea : ad.add (k * 4) = ea at s0 s1 s2 s3
      have HSP := Lib.hid hsp
      have HL' := Lib.hid (hl'.grown (w' := wr) hgr fun b hb => by simpa using HS.out b hb)
      clear hsp hl' hne
      have hfk : (forms (l.take k)).length + (form l[k]).length ≤ (forms l).length := by
        have h1 := length_forms_take l (k + 1)
        rwa [forms_take hlt, List.length_append] at h1
      go_wp2_with fail
      refine (IH.out l[k] A' c' _ _ (List.getElem_mem hlt) (HL'.out.alloc _) (hpl.alloc _) (by omega)).mono ?_
      rintro e w5 ⟨hg5, ⟨hc0, ⟨u, rfl, hnu⟩, hpu⟩ | ⟨hc0, rfl⟩⟩
      · have HC0 := Lib.hid hc0
        have HG5 := Lib.hid hg5
        obtain ⟨ut, up, rfl⟩ := hnu.iface
        have HNU := Lib.hid hnu
        clear hc0 hg5 hnu
        go_wp2_with fail
        refine (over_any g _ _ hpu (by omega)).mono ?_
        rintro e w6 ⟨rfl, rfl⟩
        have hs5 : w.heap.size ≤ w5.heap.size := by have := HG5.out.size; have := hgr.size; rw [size_alloc] at *; omega
        have hog : (Value.slice V k cv).ownBlock ≠ some g := fun e => by have := (HO.out.lt g e).1; have := hp.lt; omega
        have hown5 : w5.ownsRow w.heap.size 54 1 (.slice V k cv) k us := (HO.out.alloc _).kept HG5.out (.inr hog)
        go_wp2_with (at_builtin; refine wpList_append_lies _ rfl (.tmp 71) (.tmp 73) 78 rfl w.heap.size 54 i0 _ 1 16 Try.underlying78 hi hz0 hz1 hz2 rfl (by omega) (.slice V k cv) k us rfl (hown5.alloc _) ⟨w5.heap.size, 0, none⟩ 1 1 [.iface ut up] rfl rfl (cell_one_new _ _ _) (by intro u hu; simp at hu; subst hu; rfl) (by omega) (by unfold maxLen; omega) (by omega) (by rw [size_alloc]; omega) _ rfl ?_; intro g' cap' w7 hown7 hgr7 hat7 hlt7)
        have hgr6 : wr.grownBy w5 (some g) := (World.grownBy_alloc wr _ _).trans HG5.out
        have hsz5 : wr.heap.size ≤ w5.heap.size := hgr6.size
        have hplan : Plan w7 g (s + 1 + Num.size l.length + (forms (l.take (k + 1))).length) := by
          rw [forms_take hlt, List.length_append, ← Nat.add_assoc]
          exact (hpu.alloc _).grown hgr7 (fun e => hog e.symm)
        refine ⟨⟨k + 1, _, cap', us ++ [.iface ut up], by omega, by simp, rfl, hown7, chks_go hlt HZ.out HC0.out, hplan, ?_, ?_⟩, by simp [intOf]; omega⟩
        · refine gr_step (gr_alloc (hgr.trans hgr6) _) hgr7 fun b hb => .inl (HO.out.lt b hb).1
        · intro j y u hy hu
          have hlen := HO.out.1
          rw [Nat.mul_one] at hlen
          have hg'5 : ∀ b, b < wr.heap.size → some b ≠ (Value.slice V k cv).ownBlock → some b ≠ (Value.slice (some ⟨g', 0, none⟩) (k + 1) cap').ownBlock := by
            intro b hb hne e
            have e' : b = g' := by simpa [Value.ownBlock] using e
            rcases hat7 with h | h
            · exact hne (by rw [h, e'])
            · rw [size_alloc] at h; omega
          rcases Nat.lt_or_ge j k with hj | hj
          · rw [List.getElem?_append_left (by omega)] at hu
            have hn := HN.out j y u hy hu
            refine IsNode.grown (S' := fun b => w.heap.size ≤ b ∧ b < wr.heap.size ∧ some b ≠ (Value.slice V k cv).ownBlock) hn hgr6 ?_ |>.keep y (S' := _) ?_ ?_ ?_
            · intro b hb hlt'
              refine ⟨fun e => ?_, hb.1, hlt', hb.2⟩
              have : b = g := by simpa using e
              have := hp.lt
              omega
            · rintro b ⟨h1, h2, h3⟩ _
              exact ⟨h1, hg'5 b h2 h3⟩
            · have := hgr7.size
              rw [size_alloc] at this
              omega
            · rintro b ⟨h1, h2, h3⟩ h4
              exact (hgr7.block b (by rw [size_alloc]; omega) h3).trans (Below.heap_alloc _ _ b h4)
          · have hj2 : j = k := by
              have := (List.getElem?_eq_some_iff.1 hu).1
              simp at this
              omega
            subst hj2
            rw [List.getElem?_append_right (by omega), hlen, Nat.sub_self] at hu
            simp at hu
            subst hu
            rw [List.getElem?_eq_getElem hlt] at hy
            cases hy
            refine HNU.out.keep _ ?_ ?_ ?_
            · intro b hb h4
              rw [size_alloc] at hb
              refine ⟨by have := hgr.size; omega, fun e => ?_⟩
              have e' : b = g' := by simpa [Value.ownBlock] using e
              rcases hat7 with h | h
              · have := (HO.out.lt _ h).2; omega
              · rw [size_alloc] at h; omega
            · have := hgr7.size
              rw [size_alloc] at this
              omega
            · intro b hb h4
              rw [size_alloc] at hb
              exact (hgr7.block b (by rw [size_alloc]; omega) (fun e => by have := (HO.out.lt b e.symm).2; omega)).trans (Below.heap_alloc _ _ b h4)
      · have hfin : ([] : List Deferred) = [] ∧ Planted (.mk 2 0 ByteArray.empty l) d g s w (.panicked (flt (chk l[k] (d + 1)) 0)) w5 := by
          refine ⟨rfl, hgr.trans ((World.grownBy_alloc wr _ _).trans hg5), .inr ?_⟩
          have e : chk (.mk 2 0 ByteArray.empty l) d = chk l[k] (d + 1) := by
            rw [chk_eq, if_neg (by simp [HF.out]), if_neg (by omega)]
            exact chks_stop hlt HZ.out hc0
          rw [e]
          exact ⟨hc0, rfl⟩
        exact hfin
    · obtain rfl : k = l.length := by omega
      go_wp2_with fail
      go_ret
      have hz := HZ.out
      rw [List.take_length] at hz hpl
      refine ⟨hgr, .inl ⟨?_, ⟨_, rfl, ?_⟩, ?_⟩⟩
      · rw [chk_eq, if_neg (by simp [HF.out]), if_neg (by omega)]
        exact hz
      · obtain ⟨A2, c2, e2, hr2⟩ := Rd.of_own HO.out
        cases e2
        rw [node_eq]
        refine ⟨.inr (.inr ⟨rfl, _, _, rfl, hr2.le, hr2.cap, hr2.nil⟩), fun i hi => ?_⟩
        simp only [It.kids] at hi ⊢
        obtain ⟨ad, u, rfl, hb, hu, hcl⟩ := hr2.at_ hi
        refine ⟨ad, _, u, rfl, (HO.out.lt ad.block rfl).1, hb, hcl, ?_⟩
        exact (HN.out i _ u (List.getElem?_eq_getElem hi) hu).keep _ (fun b hb _ => hb.1) (Nat.le_refl _) fun _ _ _ => rfl
      · rw [form2 rfl, List.length_cons, It.kids, List.length_append, Num.length_put, show s + (Num.size l.length + (forms l).length + 1) = s + 1 + Num.size l.length + (forms l).length by omega]
        exact hpl

theorem plant_any (x : It) : ∀ (A : Option Addr) (c d g s : Nat) (S : Nat → Prop) (w : World), d ≤ 16 → (∀ b, S b → b ≠ g) → Lies w S x A c → Plan w g s → s + (form x).length ≤ 1000000 →
    Calls Try.prog 24 #[.pointer (some ⟨g, 0, none⟩), .agg #[.int .i64 x.kind, .int .u64 (x.num : Int), .string x.str, .slice A x.kids.length c], .int .i64 d] w (Planted x d g s w) := by
  induction x using It.ind with
  | h x ih =>
  intro A c d g s S w hd hS hl hp hsz
  by_cases hf : formed x = false
  · exact plant_bad x A c d g s w hf
  · rw [Bool.not_eq_false] at hf
    by_cases h15 : 16 ≤ (d : Int)
    · exact plant_deep x A c d g s w hf h15
    · have hb := hl.bounds
      rcases formed_cases (x := x) (by simp [hf]) with ⟨n, rfl⟩ | ⟨st, rfl⟩ | ⟨l, rfl⟩ <;> simp only [It.num, It.str, It.kids, It.kind] at hb ih ⊢
      · rw [form0 rfl, It.num, List.length_cons, Num.length_put] at hsz
        exact plant_num n A c d g s w (by omega) hb.2.2.1 hp (by omega)
      · rw [form1 rfl, It.str, List.length_cons, List.length_append, Num.length_put, length_bts] at hsz
        exact plant_text st A c d g s w (by omega) hb.2.2.2.1 hp (by omega)
      · refine plant_list l A c d g s S w (by omega) hl hS hp hsz fun y A c s w hy hl' hp' hs' => ?_
        have := ih y hy A c (d + 1) g s S w (by omega) hS hl' hp' hs'
        rwa [show ((d + 1 : Nat) : Int) = (d : Int) + 1 by omega] at this
end Go.Proofs.Ythlhlhihllgfiaa
