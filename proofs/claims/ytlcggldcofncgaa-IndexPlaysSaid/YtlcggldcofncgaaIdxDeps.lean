/-
  Texts of earlier layers, as one.
-/
import Derived.Test.YtlcggldcofncgaaIdxEach
import Derived.Test.YtlcggldcofncgaaRIdsSet
import Derived.Lib.MinMax
/- The program's Deps and Seq. -/
namespace Go.Proofs.Ytlcggldcofncgaa.Ix
open Go.RowKit Mem Dsk Go.Maps Ky Cmd Ids

def LI : Lay (Int × Int) := ⟨Ids.enc, 2, fun _ => rfl, fun x u hu => by
  simp only [Ids.enc, List.mem_cons, List.not_mem_nil, or_false] at hu
  rcases hu with rfl | rfl <;> rfl, by omega⟩
theorem flat_li (l : List (Int × Int)) : LI.flat l = cells l := rfl
/-- What Seq's own function has: the greatest number so far. -/
def TopI (b : Nat) (u : World) (T : Nat → Prop) (told : List ((Int × Int) × Int)) : Prop := Blk u b 3 #[.int .i64 (top (told.map (·.2)))] ∧ ∀ k, T k ↔ k = b
set_option maxHeartbeats 1000000 in
theorem top_teller (b : Nat) : Teller 32 (.pointer (some ⟨b, 0, none⟩)) (TopI b) := by
  refine ⟨fun args W => by kernel_rfl, fun u T told i s h _ => ?_, fun u u' T S told h hk hd => ⟨blk_kept h.1 hk (hd b ((h.2 b).2 rfl)), h.2⟩, fun u T told h k hk => by rw [(h.2 k).1 hk]; exact h.1.lt⟩
  obtain ⟨i1, i2⟩ := i
  obtain ⟨hb, hT⟩ := h
  have hb1 := bel_alloc (Below.refl u.heap.size u) (.cells #[.int .i64 i1, .int .i64 i2] 26)
  obtain ⟨W, hW⟩ : ∃ v, u.alloc (.cells #[.int .i64 i1, .int .i64 i2] 26) = v := ⟨_, rfl⟩
  rw [hW] at hb1
  have hbW := hb.bel hb1
  have htop : top ((told ++ [((i1, i2), s)]).map (·.2)) = max (top (told.map (·.2))) s := by rw [List.map_append]; exact top_snoc _ _
  obtain ⟨t, ht⟩ : ∃ t, top (told.map (·.2)) = t := ⟨_, rfl⟩
  rw [ht] at hbW htop
  obtain ⟨t2, ht2⟩ : ∃ t2, max t s = t2 := ⟨_, rfl⟩
  rw [ht2] at htop
  have hmax : ∀ (W : World) (ts : Array TypeId) (ty : TypeId), (Builtin.max_ ts ty #[.int .i64 t, .int .i64 s]).run Try.prog W = .ok (.int .i64 t2) W := fun W ts ty => by
    rw [Lib.run_max_ints, ← ht2, Int.max_def]
  have hend : TopI b (W.setCell ⟨b, 0, none⟩ (.int .i64 t2)) T (told ++ [((i1, i2), s)]) := ⟨by rw [htop]; exact hbW.put 0 _, hT⟩
  have hkp : Keeps T u (W.setCell ⟨b, 0, none⟩ (.int .i64 t2)) := (Keeps.ofBelow hb1).trans (S' := T) ⟨rfl, rfl, rfl, by simp, fun k _ hn => Below.heap_setCell _ ⟨b, 0, none⟩ _ k fun e => hn ((hT k).2 e)⟩ (Grew.refl _ _)
  have HE := Lib.hid (And.intro hend hkp)
  have c0 : W.cell? ⟨b, 0, none⟩ = some (.int .i64 t) := hbW.cell 0
  have f0 : W.frozen? ⟨b, 0, none⟩ = false := hbW.soft 0
  have HW := Lib.hid hW
  clear hend hkp hbW hb hb1 hW hT htop ht ht2
  go_enter Try.func32, Try.ntmps32
  go_upto_region 1 with fail
  rw [HW.out]
  go_wp2_with fail
  go_end0
  exact ⟨rfl, T, HE.out.1, Grew.refl _ _, HE.out.2⟩
/-- What Deps's own function has: the ids so far. -/
def IdsI (b : Nat) (u : World) (T : Nat → Prop) (told : List ((Int × Int) × Int)) : Prop := ∃ (V : Option Addr) (c : Nat), Blk u b 42 #[.slice V told.length c] ∧ u.ownsRow 0 26 LI.s (.slice V told.length c) told.length (LI.flat (told.map (·.1))) ∧ (Value.slice V told.length c).ownBlock ≠ some b ∧ ∀ k, T k ↔ (k = b ∨ (Value.slice V told.length c).ownBlock = some k)
set_option maxHeartbeats 2000000 in
theorem ids_teller (b : Nat) : Teller 29 (.pointer (some ⟨b, 0, none⟩)) (IdsI b) := by
  refine ⟨fun args W => by kernel_rfl, fun u T told i s h hlen => ?_, fun u u' T S told h hk hd => ?_, fun u T told h k hk => ?_⟩
  · obtain ⟨i1, i2⟩ := i
    obtain ⟨V, c, hb, ho, hne, hT⟩ := h
    obtain ⟨i0, hi, hz0, hz1, hz2⟩ := info_parts (show (Try.prog.info? 26).map (fun i => (i.zero, i.size, i.bytes)) = some (some (.agg #[.int .i64 0, .int .i64 0]), 2, 16) by kernel_rfl)
    have hb1 := bel_alloc (Below.refl u.heap.size u) (.cells #[.int .i64 i1, .int .i64 i2] 26)
    obtain ⟨W, hW⟩ : ∃ v, u.alloc (.cells #[.int .i64 i1, .int .i64 i2] 26) = v := ⟨_, rfl⟩
    have hbx : Blk W u.heap.size 26 #[.int .i64 i1, .int .i64 i2] := by rw [← hW]; exact Blk.new _ _ _
    have hsW : W.heap.size = u.heap.size + 1 := by rw [← hW]; simp
    rw [hW] at hb1
    have hbW := hb.bel hb1
    have hlit : Rw LI (W.alloc (.cells #[.int .i64 i1, .int .i64 i2] 26)) (some ⟨W.heap.size, 0, none⟩) 1 1 [(i1, i2)] := Rw.lit (L := LI) W (i1, i2) 26
    have hbl : Below u.heap.size u (W.alloc (.cells #[.int .i64 i1, .int .i64 i2] 26)) := bel_alloc hb1 _
    obtain ⟨n, hn⟩ : ∃ n, told.length = n := ⟨_, rfl⟩
    rw [hn] at ho hne hT hbW hlen
    obtain ⟨V', c', u3, hrun, hown, hgr, hloc⟩ := run_append_rw (P := Try.prog) (L := LI) (t := 42) (ty := 42) (bytes := 16) Try.underlying42 hi hz0 hz1 hz2 rfl (ownsRow_below ho hbl) hlit (by unfold maxLen; omega) (by omega) (Nat.zero_le _)
    have hne' : some b ≠ (Value.slice V n c).ownBlock := fun e => hne e.symm
    have hbl3 : Blk u3 b 42 #[.slice V n c] := (hbW.alloc _).grown hgr hne'
    have hbs := hb.lt
    have hloc2 : ∀ k, (Value.slice V' (n + 1) c').ownBlock = some k → (Value.slice V n c).ownBlock = some k ∨ u.heap.size ≤ k := fun k hk => by
      rcases hloc with h | h
      · exact .inl (h ▸ hk)
      · right
        rw [h] at hk
        injection hk with hk
        rw [← hk]
        simp
        omega
    have hneb : (Value.slice V' (n + 1) c').ownBlock ≠ some b := fun e => (hloc2 b e).elim hne fun h => by omega
    obtain ⟨T', hT'⟩ : ∃ T' : Nat → Prop, ∀ k, T' k ↔ (k = b ∨ (Value.slice V' (n + 1) c').ownBlock = some k) := ⟨_, fun k => Iff.rfl⟩
    have hend : IdsI b (u3.setCell ⟨b, 0, none⟩ (.slice V' (n + 1) c')) T' (told ++ [((i1, i2), s)]) := by
      have hl : (told ++ [((i1, i2), s)]).length = n + 1 := by simp [hn]
      refine ⟨V', c', ?_, ?_, by rw [hl]; exact hneb, by rw [hl]; exact hT'⟩
      · rw [hl]; exact hbl3.put 0 _
      · rw [hl, List.map_append]
        exact own_keep hown fun k hk _ => Below.heap_setCell _ ⟨b, 0, none⟩ _ k fun e => hneb (by rw [hk]; exact congrArg some e)
    have hkp : Keeps T u (u3.setCell ⟨b, 0, none⟩ (.slice V' (n + 1) c')) := by
      refine ⟨hgr.os.trans hbl.os, hgr.tape.trans hbl.tape, hgr.output.trans hbl.output, by have := hgr.size; have := hbl.size; simp at *; omega, fun k hk hnT => ?_⟩
      rw [Below.heap_setCell _ ⟨b, 0, none⟩ _ k fun e => hnT ((hT k).2 (.inl e)), hgr.block k (by have := hbl.size; omega) fun e => hnT ((hT k).2 (.inr e.symm)), hbl.block k hk]
    have hgw : Dsk.Grew T T' u := fun k hk => by
      rcases (hT' k).1 hk with h | h
      · exact .inl ((hT k).2 (.inl h))
      · exact (hloc2 k h).imp (fun h => (hT k).2 (.inr h)) id
    have HE := Lib.hid (And.intro hend (And.intro hgw hkp))
    have HRUN := Lib.hid hrun
    have c0 : W.cell? ⟨b, 0, none⟩ = some (.slice V n c) := hbW.cell 0
    have e0 : W.cell? ⟨u.heap.size, 0, none⟩ = some (.int .i64 i1) := hbx.cell 0
    have e1 : W.cell? ⟨u.heap.size, 1, none⟩ = some (.int .i64 i2) := hbx.cell 1
    have c3 : u3.cell? ⟨b, 0, none⟩ = some (.slice V n c) := hbl3.cell 0
    have f3 : u3.frozen? ⟨b, 0, none⟩ = false := hbl3.soft 0
    have HW := Lib.hid hW
    clear hend hkp hgw hT' hneb hloc2 hbs hbl3 hne' hrun hown hgr hloc hbl hlit hbW hsW hbx hW hb1 hb ho hne hT hn
    go_enter Try.func29, Try.ntmps29
    go_upto_region 1 with fail
    rw [HW.out]
    go_wp2_with (at_builtin; refine wpList_append_row rfl (.tmp 5) (.tmp 7) rfl HRUN.out ?_)
    go_end0
    exact ⟨rfl, T', HE.out.1, HE.out.2.1, HE.out.2.2⟩
  · obtain ⟨V, c, hb, ho, hne, hT⟩ := h
    exact ⟨V, c, blk_kept hb hk (hd b ((hT b).2 (.inl rfl))), own_keep ho fun k h1 h2 => hk.block k h2 (hd k ((hT k).2 (.inr h1))), hne, hT⟩
  · obtain ⟨V, c, hb, ho, hne, hT⟩ := h
    rcases (hT k).1 hk with e | e
    · rw [e]; exact hb.lt
    · exact (ho.lt k e).2
theorem told_ids {l : List En} {c : Cm} {but : Int × Int} {told : List ((Int × Int) × Int)} (h : Told l c but told) : setl (told.map (·.1)) = depsE l c but := by
  refine setl_eq (up_setl _) fun x => ?_
  rw [mem_setl, List.mem_map, List.mem_map]
  constructor
  · rintro ⟨y, hy, rfl⟩
    obtain ⟨e, he, rfl⟩ := (h y).1 hy
    exact ⟨e, he, rfl⟩
  · rintro ⟨e, he, rfl⟩
    exact ⟨_, (h _).2 ⟨e, he, rfl⟩, rfl⟩
theorem told_top {l : List En} {c : Cm} {but : Int × Int} {told : List ((Int × Int) × Int)} (h : Told l c but told) : top (told.map (·.2)) = topE l c but := by
  refine top_same fun x => ?_
  rw [List.mem_map, List.mem_map]
  constructor
  · rintro ⟨y, hy, rfl⟩
    obtain ⟨e, he, rfl⟩ := (h y).1 hy
    exact ⟨e, he, rfl⟩
  · rintro ⟨e, he, rfl⟩
    exact ⟨_, (h _).2 ⟨e, he, rfl⟩, rfl⟩

set_option maxRecDepth 20000 in
set_option maxHeartbeats 4000000 in
theorem seq_any {S : Nat → Prop} {p M : Nat} {l : List En} (c : Cm) (but : Int × Int) (w : World) (hw : II w S p M l) (hM : M ≤ 10000) (hky : strK.ok c.ky) (hcl : intK.ok c.cl) (htop : topE l c but ≤ 4611686018427387904) :
    Calls Try.prog 17 #[ptr p, cmV c, .agg #[.int .i64 but.1, .int .i64 but.2]] w (fun e w' => e = .returned (.int .i64 (topE l c but + 1)) ∧ Below w.heap.size w w') := by
  have h0 : 0 ≤ topE l c but := top_nonneg _
  obtain ⟨t, ht⟩ : ∃ t, topE l c but = t := ⟨_, rfl⟩
  rw [ht] at h0 htop ⊢
  have HTP := Lib.hid ht
  clear ht
  have hb1 := bel_alloc (bel_alloc (bel_alloc (Below.refl w.heap.size w) (.cells #[.int .i64 c.kd, .int .i64 c.cl, .int .i64 c.sq, .string c.ky, .string c.vl, .int .i64 c.rv] 24)) (.cells #[.int .i64 but.1, .int .i64 but.2] 26)) (.cells #[.int .i64 0] 3)
  have hcap := Blk.new ((w.alloc (.cells #[.int .i64 c.kd, .int .i64 c.cl, .int .i64 c.sq, .string c.ky, .string c.vl, .int .i64 c.rv] 24)).alloc (.cells #[.int .i64 but.1, .int .i64 but.2] 26)) 3 #[.int .i64 0]
  rw [size_alloc, size_alloc] at hcap
  obtain ⟨W, hW⟩ : ∃ v, ((w.alloc (.cells #[.int .i64 c.kd, .int .i64 c.cl, .int .i64 c.sq, .string c.ky, .string c.vl, .int .i64 c.rv] 24)).alloc (.cells #[.int .i64 but.1, .int .i64 but.2] 26)).alloc (.cells #[.int .i64 0] 3) = v := ⟨_, rfl⟩
  have hbx : Blk W w.heap.size 24 #[.int .i64 c.kd, .int .i64 c.cl, .int .i64 c.sq, .string c.ky, .string c.vl, .int .i64 c.rv] := by rw [← hW]; exact ((Blk.new w 24 #[.int .i64 c.kd, .int .i64 c.cl, .int .i64 c.sq, .string c.ky, .string c.vl, .int .i64 c.rv]).alloc _).alloc _
  have hby : Blk W (w.heap.size + 1) 26 #[.int .i64 but.1, .int .i64 but.2] := by
    rw [← hW]
    have := Blk.new (w.alloc (.cells #[.int .i64 c.kd, .int .i64 c.cl, .int .i64 c.sq, .string c.ky, .string c.vl, .int .i64 c.rv] 24)) 26 #[.int .i64 but.1, .int .i64 but.2]
    rw [size_alloc] at this
    exact this.alloc _
  rw [hW] at hb1 hcap
  have hlow := ii_low hw
  have hdis : ∀ k, S k → ¬ (k = w.heap.size + 2) := fun k h e => by have := hlow k h; omega
  have hea := each_any (top_teller (w.heap.size + 2)) c but W (ii_below hw hb1) hM hky hcl (T0 := fun k => k = w.heap.size + 2) (⟨hcap, fun k => Iff.rfl⟩) hdis
  have HEA := Lib.hid hea
  have HB := Lib.hid hb1
  have HW := Lib.hid hW
  have HUQ := Lib.hid (ii_uq hw).1
  obtain ⟨x0, x1, x2, x3, x4, x5⟩ := Cw.blk6 hbx
  have y0 : W.cell? ⟨w.heap.size + 1, 0, none⟩ = some (.int .i64 but.1) := hby.cell 0
  have y1 : W.cell? ⟨w.heap.size + 1, 1, none⟩ = some (.int .i64 but.2) := hby.cell 1
  unfold cmV at HEA ⊢
  unfold ptr at HEA ⊢
  clear hb1 hcap hbx hby hlow hdis hea hw hM hky hcl hW
  go_enter Try.func17, Try.ntmps17
  go_upto_region 2 with fail
  rw [HW.out]
  go_upto_region 3 with (go_at_call 28; (with_reducible refine HEA.out.mono ?_); rintro e w1 ⟨rfl, T, told, hI, hg, hk, ht, hlen⟩; have HI := Lib.hid hI; have HK := Lib.hid hk; have HT := Lib.hid (And.intro ht hlen); clear hI hg hk ht hlen x0 x1 x2 x3 x4 x5 y0 y1)
  have HBE := Lib.hid ((Keeps.trans (Keeps.ofBelow (S := fun k => k = w.heap.size + 2) HB.out) HK.out (Grew.refl _ _)).below (Nat.le_refl _) (fun k e => by have e : k = w.heap.size + 2 := e; omega))
  have hI := HI.out.1
  rw [told_top HT.out.1, HTP.out] at hI
  have hc0 : w1.cell? ⟨w.heap.size + 2, 0, none⟩ = some (.int .i64 t) := hI.cell 0
  clear hI
  go_wp2_with fail
  go_ret
  exact ⟨rfl, HBE.out⟩

set_option maxRecDepth 20000 in
set_option maxHeartbeats 4000000 in
theorem deps_any {S : Nat → Prop} {p M : Nat} {l : List En} (c : Cm) (but : Int × Int) (w : World) (hw : II w S p M l) (hM : M ≤ 10000) (hky : strK.ok c.ky) (hcl : intK.ok c.cl) :
    Calls Try.prog 15 #[ptr p, cmV c, .agg #[.int .i64 but.1, .int .i64 but.2]] w (Gets w (depsE l c but)) := by
  have hb1 := bel_alloc (bel_alloc (bel_alloc (Below.refl w.heap.size w) (.cells #[.int .i64 c.kd, .int .i64 c.cl, .int .i64 c.sq, .string c.ky, .string c.vl, .int .i64 c.rv] 24)) (.cells #[.int .i64 but.1, .int .i64 but.2] 26)) (.cells #[.slice none 0 0] 42)
  have hcap := Blk.new ((w.alloc (.cells #[.int .i64 c.kd, .int .i64 c.cl, .int .i64 c.sq, .string c.ky, .string c.vl, .int .i64 c.rv] 24)).alloc (.cells #[.int .i64 but.1, .int .i64 but.2] 26)) 42 #[.slice none 0 0]
  rw [size_alloc, size_alloc] at hcap
  obtain ⟨W, hW⟩ : ∃ v, ((w.alloc (.cells #[.int .i64 c.kd, .int .i64 c.cl, .int .i64 c.sq, .string c.ky, .string c.vl, .int .i64 c.rv] 24)).alloc (.cells #[.int .i64 but.1, .int .i64 but.2] 26)).alloc (.cells #[.slice none 0 0] 42) = v := ⟨_, rfl⟩
  have hbx : Blk W w.heap.size 24 #[.int .i64 c.kd, .int .i64 c.cl, .int .i64 c.sq, .string c.ky, .string c.vl, .int .i64 c.rv] := by rw [← hW]; exact ((Blk.new w 24 #[.int .i64 c.kd, .int .i64 c.cl, .int .i64 c.sq, .string c.ky, .string c.vl, .int .i64 c.rv]).alloc _).alloc _
  have hby : Blk W (w.heap.size + 1) 26 #[.int .i64 but.1, .int .i64 but.2] := by
    rw [← hW]
    have := Blk.new (w.alloc (.cells #[.int .i64 c.kd, .int .i64 c.cl, .int .i64 c.sq, .string c.ky, .string c.vl, .int .i64 c.rv] 24)) 26 #[.int .i64 but.1, .int .i64 but.2]
    rw [size_alloc] at this
    exact this.alloc _
  rw [hW] at hb1 hcap
  have hlow := ii_low hw
  have hdis : ∀ k, S k → ¬ (k = w.heap.size + 2) := fun k h e => by have := hlow k h; omega
  have hea := each_any (ids_teller (w.heap.size + 2)) c but W (ii_below hw hb1) hM hky hcl (T0 := fun k => k = w.heap.size + 2) (⟨none, 0, hcap, World.ownsRow_nil _ _ _ _, (fun e => by cases e), fun k => ⟨.inl, fun h => h.elim id fun e => by cases e⟩⟩) hdis
  have HEA := Lib.hid hea
  have HB := Lib.hid hb1
  have HW := Lib.hid hW
  have HUQ := Lib.hid (ii_uq hw).1
  obtain ⟨x0, x1, x2, x3, x4, x5⟩ := Cw.blk6 hbx
  have y0 : W.cell? ⟨w.heap.size + 1, 0, none⟩ = some (.int .i64 but.1) := hby.cell 0
  have y1 : W.cell? ⟨w.heap.size + 1, 1, none⟩ = some (.int .i64 but.2) := hby.cell 1
  unfold cmV at HEA ⊢
  unfold ptr at HEA ⊢
  clear hb1 hcap hbx hby hlow hdis hea hw hM hky hcl hW
  go_enter Try.func15, Try.ntmps15
  go_upto_region 2 with fail
  rw [HW.out]
  go_upto_region 3 with (go_at_call 28; (with_reducible refine HEA.out.mono ?_); rintro e w1 ⟨rfl, T, told, hI, hg, hk, ht, hlen⟩; have HI := Lib.hid hI; have HK := Lib.hid hk; have HT := Lib.hid (And.intro ht hlen); clear hI hg hk ht hlen x0 x1 x2 x3 x4 x5 y0 y1)
  have HBE := Lib.hid ((Keeps.trans (Keeps.ofBelow (S := fun k => k = w.heap.size + 2) HB.out) HK.out (Grew.refl _ _)).below (Nat.le_refl _) (fun k e => by have e : k = w.heap.size + 2 := e; omega))
  obtain ⟨V, cv, hbk, hown, hne, hTT⟩ := HI.out
  have hc0 : w1.cell? ⟨w.heap.size + 2, 0, none⟩ = some (.slice V told.length cv) := hbk.cell 0
  have hrs : Rs w1 V told.length cv (told.map (·.1)) := Rs.own hown
  have hset := set_any (told.map (·.1)) V told.length cv w1 hrs (by have := HT.out.2; omega)
  rw [told_ids HT.out.1] at hset
  have HSET := Lib.hid hset
  clear hbk hown hne hTT hrs hset
  go_wp2_with fail
  (with_reducible refine HSET.out.mono ?_)
  rintro e w2 ⟨A, k, rfl, hrs2, hb2⟩
  have HR := Lib.hid hrs2
  have HB2 := Lib.hid hb2
  clear hrs2 hb2
  go_wp2_with fail
  go_ret
  exact ⟨A, k, rfl, HR.out, bel_trans HBE.out HB2.out⟩
end Go.Proofs.Ytlcggldcofncgaa.Ix
