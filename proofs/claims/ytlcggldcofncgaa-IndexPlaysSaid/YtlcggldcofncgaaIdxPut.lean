/-
  Texts of earlier layers, as one.
-/
import Derived.Test.YtlcggldcofncgaaIdxDrop
import Derived.Test.YtlcggldcofncgaaIdxEnter
import Derived.Deep.CutBlock
/- The program's Put. -/
namespace Go.Proofs.Ytlcggldcofncgaa.Ix
open Go.RowKit Mem Dsk Go.Maps Ky Cmd

theorem heldF_put' (l : List En) (i : Int × Int) (c : Cm) (s : Int) : upd (heldF (dropE l i)) i (some (ask c, s)) = heldF (putE l i c s) := by
  funext j
  rw [heldF_put]
  unfold upd
  split
  · rfl
  · rename_i h
    rw [heldF_drop, if_neg h]
theorem cmd_cells {w : World} {b : Nat} {t : TypeId} {kd cl sq rv : Int} {ky vl : ByteArray} (h : Blk w b t #[.int .i64 kd, .int .i64 cl, .int .i64 sq, .string ky, .string vl, .int .i64 rv]) : w.cell? ⟨b, 0, none⟩ = some (.int .i64 kd) := h.cell 0
/-- Entries that were there stand where they are looked for, where more is held. -/
theorem Near.more {m m' : Nat → Int × Int → Option Unit} {fk fk' : ByteArray → Option (Option Nat)} {fc fc' : Int → Option (Option Nat)} {g4 : Nat} {G : Nat → Prop} {e : En} (h : Near m fk fc g4 e) (h4 : G g4) (hk : Leads fk G) (hc : Leads fc G)
    (hm : ∀ g j, G g → (m g j).isSome → (m' g j).isSome) (hfk : ∀ k o, fk k = some o → fk' k = some o) (hfc : ∀ k o, fc k = some o → fc' k = some o) : Near m' fk' fc' g4 e := by
  refine ⟨fun h' => hm _ _ h4 (h.wide h'), fun h0 h5 h6 => ?_, fun h0 h5 h6 => ?_⟩
  · obtain ⟨g, q1, q2⟩ := h.key h0 h5 h6
    obtain ⟨g', q3, q4⟩ := hk _ _ q1
    injection q3 with q3
    subst q3
    exact ⟨g, hfk _ _ q1, hm _ _ q4 q2⟩
  · obtain ⟨g, q1, q2⟩ := h.client h0 h5 h6
    obtain ⟨g', q3, q4⟩ := hc _ _ q1
    injection q3 with q3
    subst q3
    exact ⟨g, hfc _ _ q1, hm _ _ q4 q2⟩
/-- What Put comes to. -/
def PutIs (w : World) (S : Nat → Prop) (p M : Nat) (l : List En) (w' : World) : Prop := ∃ S', II w' S' p (M + 2) l ∧ Grew S S' w ∧ Keeps S w w'

set_option maxRecDepth 20000 in
set_option maxHeartbeats 8000000 in
theorem put_any {S : Nat → Prop} {p M : Nat} {l : List En} (i : Int × Int) (c : Cm) (s : Int) (w : World) (hw : II w S p M l) (hi : Wf i) (hky : c.ky.size ≤ 281474976710656) (hcl : (Lit.int .i64 c.cl).wf = true) (hM : M ≤ 536870912) :
    Calls Try.prog 11 #[ptr p, .agg #[.int .i64 i.1, .int .i64 i.2], cmV c, .int .i64 s] w (fun e w' => e = .returned (.tuple #[]) ∧ PutIs w S p M (putE l i c s) w') := by
  obtain ⟨i1, i2⟩ := i
  have hlow := ii_low hw
  have hin : (⟨(i1, i2), c, s⟩ : En) ∈ putE l (i1, i2) c s := List.mem_append_right _ (by simp)
  have hold : ∀ e ∈ putE l (i1, i2) c s, e ∈ dropE l (i1, i2) ∨ e = ⟨(i1, i2), c, s⟩ := fun e he => by
    rcases List.mem_append.1 he with h | h
    · exact .inl h
    · exact .inr (List.mem_singleton.1 h)
  have huq : Uq l := (ii_uq hw).1
  have hlen : (putE l (i1, i2) c s).length ≤ M + 2 := by
    have := length_putE l (i1, i2) c s
    have := (ii_uq hw).2.1
    omega
  have hsn : (putE l (i1, i2) c s).length = (dropE l (i1, i2)).length + 1 := by simp [putE]
  have hno : heldF (dropE l (i1, i2)) (i1, i2) = none := by rw [heldF_drop, if_pos rfl]
  have hfine : strK.ok c.ky ∧ intK.ok c.cl := ⟨Nat.le_trans hky (by unfold maxLen; omega), hcl⟩
  have hput := heldF_put' l (i1, i2) c s
  have hakd := ask_kd c
  have haky : ¬ (c.kd = 0 ∨ c.kd = 6) → (ask c).ky = c.ky ∧ (ask c).cl = c.cl := ask_ky
  have hask := fun u => asked_any c hky u
  obtain ⟨E, hE⟩ : ∃ E, putE l (i1, i2) c s = E := ⟨_, rfl⟩
  obtain ⟨e0, he0⟩ : ∃ e0 : En, ⟨(i1, i2), c, s⟩ = e0 := ⟨_, rfl⟩
  have he0c : e0.c = c := by rw [← he0]
  have he0i : e0.i = (i1, i2) := by rw [← he0]
  have hEuq : Uq E := by rw [← hE]; exact huq.put _ _ _
  rw [hE] at hin hold hlen hsn hput ⊢
  rw [he0] at hin hold
  obtain ⟨c', hc'⟩ : ∃ c', ask c = c' := ⟨_, rfl⟩
  rw [hc'] at hakd haky hask hput
  obtain ⟨kd, cl, sq, ky, vl, rv⟩ := c'
  obtain ⟨kd0, cl0, sq0, ky0, vl0, rv0⟩ := c
  have hakd : kd = kd0 := hakd
  subst hakd
  have haky : ¬ (kd = 0 ∨ kd = 6) → ky = ky0 ∧ cl = cl0 := haky
  have hb1 := bel_alloc (bel_alloc (Below.refl w.heap.size w) (.cells #[.int .i64 i1, .int .i64 i2] 26)) (.cells #[.int .i64 kd, .int .i64 cl0, .int .i64 sq0, .string ky0, .string vl0, .int .i64 rv0] 24)
  have hbx := (Blk.new w 26 #[.int .i64 i1, .int .i64 i2]).alloc (.cells #[.int .i64 kd, .int .i64 cl0, .int .i64 sq0, .string ky0, .string vl0, .int .i64 rv0] 24)
  have hby := Blk.new (w.alloc (.cells #[.int .i64 i1, .int .i64 i2] 26)) 24 #[.int .i64 kd, .int .i64 cl0, .int .i64 sq0, .string ky0, .string vl0, .int .i64 rv0]
  rw [size_alloc] at hby
  obtain ⟨W, hW⟩ : ∃ v, (w.alloc (.cells #[.int .i64 i1, .int .i64 i2] 26)).alloc (.cells #[.int .i64 kd, .int .i64 cl0, .int .i64 sq0, .string ky0, .string vl0, .int .i64 rv0] 24) = v := ⟨_, rfl⟩
  have hsW : W.heap.size = w.heap.size + 2 := by rw [← hW]; simp
  rw [hW] at hb1 hbx hby
  have HDR := Lib.hid (drop_any (i1, i2) W (ii_below hw hb1) hi)
  have HASK := Lib.hid hask
  have HB := Lib.hid hb1
  have HBX := Lib.hid hbx
  have HBY := Lib.hid hby
  have HW := Lib.hid hW
  have HLOW := Lib.hid hlow
  have HF := Lib.hid (And.intro hin (And.intro hold (And.intro hlen (And.intro hsn (And.intro hno (And.intro hfine (And.intro hput (And.intro haky (And.intro hEuq (And.intro he0c he0i))))))))))
  have HI := Lib.hid hi
  have HSW := Lib.hid hsW
  have HM := Lib.hid hM
  have h0 : W.cell? ⟨w.heap.size, 0, none⟩ = some (.int .i64 i1) := hbx.cell 0
  have h1 : W.cell? ⟨w.heap.size, 1, none⟩ = some (.int .i64 i2) := hbx.cell 1
  clear hb1 hbx hby hW hlow hin hold hlen hsn hno hfine hput haky hEuq hi hsW hask hw huq hky hcl he0 hE hc' hM he0c he0i
  unfold cmV at HASK ⊢
  unfold ptr at HDR ⊢
  go_enter Try.func11, Try.ntmps11
  go_upto_region 1 with fail
  rw [HW.out]
  go_upto_region 2 with (go_at_call 12; (with_reducible refine HDR.out.mono ?_); rintro e u1 ⟨rfl, hi1, hk1⟩; have HI1 := Lib.hid hi1; have HK1 := Lib.hid hk1; clear hi1 hk1 h0 h1)
  have hx1 := blk_kept HBX.out HK1.out fun hs => by have := HLOW.out _ hs; omega
  have hy1 := blk_kept HBY.out HK1.out fun hs => by have := HLOW.out _ hs; omega
  have HX1 := Lib.hid hx1
  have HY1 := Lib.hid hy1
  clear hx1 hy1
  go_upto_region 3 with (first | (with_reducible refine wpList_load_blk rfl 24 (.tmp 6) rfl (w.heap.size + 1) 24 #[.int .i64 kd, .int .i64 cl0, .int .i64 sq0, .string ky0, .string vl0, .int .i64 rv0] _ rfl HY1.out Try.underlying24 rfl (by kernel_rfl) ?_) | (go_at_call 23; (with_reducible refine (HASK.out _).mono ?_); rintro e u2 ⟨rfl, hb2⟩; have HB2 := Lib.hid hb2; have HY2 := Lib.hid (HY1.out.bel hb2); clear hb2) | (with_reducible refine wpList_store_blk rfl 24 (.tmp 6) (.tmp 12) rfl (w.heap.size + 1) 24 #[.int .i64 kd, .int .i64 cl0, .int .i64 sq0, .string ky0, .string vl0, .int .i64 rv0] #[.int .i64 kd, .int .i64 cl, .int .i64 sq, .string ky, .string vl, .int .i64 rv] rfl rfl HY2.out (by kernel_rfl) rfl (by kernel_rfl) ?_; intro u3 hblk hg3; have HY3 := Lib.hid hblk; have HG3 := Lib.hid hg3; clear hblk hg3))
  have hsw := HSW.out
  have hn0 : ¬ S w.heap.size := fun hs => by have := HLOW.out _ hs; omega
  have hn1 : ¬ S (w.heap.size + 1) := fun hs => by have := HLOW.out _ hs; omega
  have hk3 : Keeps (fun k => k = w.heap.size + 1) u1 u3 := (Keeps.ofBelow HB2.out).trans (Keeps.ofGrown (S := fun k => k = w.heap.size + 1) HG3.out rfl) (Grew.refl _ _)
  obtain ⟨g1, g2, g3, g4, G, m, fk, fc, ho1⟩ := HI1.out
  have ho := ho1.keep hk3 fun k hs e => hn1 (by have e : k = w.heap.size + 1 := e; rw [← e]; exact hs)
  have hx3 := blk_kept HX1.out hk3 fun e => by have e : w.heap.size = w.heap.size + 1 := e; omega
  have hkw3 : Keeps S w u3 := by
    refine (Keeps.ofBelow (S := fun k => S k ∨ k = w.heap.size + 1) HB.out).trans ((Keeps.weak HK1.out fun k h => .inl h).trans (Keeps.weak hk3 fun k h => .inr h) (Grew.refl _ _)) (Grew.refl _ _) |> fun h => ⟨h.os, h.tape, h.output, h.size, fun k hk hn => h.block k hk fun h' => h'.elim hn fun e => by omega⟩
  obtain ⟨s0, s1, s2, s3⟩ := ho.mine
  obtain ⟨hp1, hp2, hp3, h12, h13, h23⟩ := ho.ap
  obtain ⟨aG0, aG1, aG2, aG3⟩ := ho.aG
  have w4 := ho.wide
  have hsz3 := hkw3.size
  obtain ⟨V1, hr1, hm1, ht1⟩ := (show Mp idK entE u3.drew g1 _ (heldF (dropE l (i1, i2))) from ho.held).store (x := (i1, i2)) Try.underlying54 (by have h1 := ho.len; have h2 := HM.out; unfold maxLen; omega) HI.out (⟨kd, cl, sq, ky, vl, rv⟩, s)
  have hKV := drew_turned ht1
  obtain ⟨hin, hold, hlen, hsn, hno, hfine, hput, haky, hEuq, he0c, he0i⟩ := HF.out
  rw [hno, if_neg (by simp), hput] at hm1
  rw [← hsn] at hm1
  have hxV := blk_kept ho.box hKV hp1
  have hbV := blk_kept hx3 hKV fun e => hn0 (by have e : w.heap.size = g1 := e; rw [e]; exact s1)
  have hyV := blk_kept HY3.out hKV fun e => hn1 (by have e : w.heap.size + 1 = g1 := e; rw [e]; exact s1)
  have hszV := hKV.size
  have hr1' : (Instr.mapUpdate 54 (.map (some g1)) (.agg #[.int .i64 i1, .int .i64 i2]) (.agg #[.int .i64 kd, .int .i64 cl, .int .i64 sq, .string ky, .string vl, .int .i64 rv, .int .i64 s])).run Try.prog u3.drew = .ok () V1 := hr1
  have HA0 := Lib.hid (show u3.drew.cell? ⟨p, 0, none⟩ = some (.map (some g1)) ∧ u3.drew.cell? ⟨w.heap.size, 0, none⟩ = some (.int .i64 i1) ∧ u3.drew.cell? ⟨w.heap.size, 1, none⟩ = some (.int .i64 i2) ∧ Blk u3.drew (w.heap.size + 1) 24 #[.int .i64 kd, .int .i64 cl, .int .i64 sq, .string ky, .string vl, .int .i64 rv] from ⟨ho.cells.1, hx3.cell 0, hx3.cell 1, HY3.out⟩)
  have HA1 := Lib.hid (show V1.cell? ⟨p, 0, none⟩ = some (.map (some g1)) ∧ V1.cell? ⟨w.heap.size, 0, none⟩ = some (.int .i64 i1) ∧ V1.cell? ⟨w.heap.size, 1, none⟩ = some (.int .i64 i2) ∧ Blk V1 (w.heap.size + 1) 24 #[.int .i64 kd, .int .i64 cl, .int .i64 sq, .string ky, .string vl, .int .i64 rv] from ⟨hxV.cell 0, hbV.cell 0, hbV.cell 1, hyV⟩)
  have hgV : ∀ g, G g → V1.heap[g]? = u3.heap[g]? := fun g hg => hKV.block g (ho.grp.lt hg) fun e => aG1 (by have e : g = g1 := e; rw [← e]; exact hg)
  have hGV := ho.grp.keep hgV
  obtain ⟨N2, hN2, hk2⟩ := ho.byK
  have hk2V := hk2.keep (hKV.block g2 hk2.lt fun e => h12 (by have e : g2 = g1 := e; exact e.symm))
  obtain ⟨N3, hN3, hkc⟩ := ho.byC
  have hkcV := hkc.keep (hKV.block g3 hkc.lt fun e => h13 (by have e : g3 = g1 := e; exact e.symm))
  have hkwV : Keeps S w V1 := hkw3.trans (Keeps.weak hKV fun k e => by have e : k = g1 := e; rw [e]; exact s1) (Grew.refl _ _)
  have hltV : ∀ k, S k → k < V1.heap.size := fun k hs => by have := ho.lt k hs; omega
  have hltw : ∀ k, S k → k < w.heap.size := HLOW.out
  have hinv := ho.inv
  have hof := ho.fine
  have hfkG := ho.fkG
  have hfcG := ho.fcG
  have hmG := ho.mineG
  have hc0 : V1.cell? ⟨w.heap.size + 1, 0, none⟩ = some (.int .i64 kd) := hyV.cell 0
  have HALL := Lib.hid (And.intro hxV (And.intro hbV hyV))
  clear hr1 hx3 hk3 HDR HASK HBX HBY HX1 HY1 HY2 HY3 HG3 HB2 HK1 HI1 ht1 hKV hk2 hkc hgV hkw3 HW hxV hbV hyV
  have HP := Lib.hid (And.intro hm1 (And.intro hGV (And.intro hN2 (And.intro hk2V (And.intro hN3 (And.intro hkcV (And.intro hkwV (And.intro hltV (And.intro hltw (And.intro hinv (And.intro hof (And.intro hfkG (And.intro hfcG hmG)))))))))))))
  have HQ := Lib.hid (And.intro s0 (And.intro s1 (And.intro s2 (And.intro s3 (And.intro hp1 (And.intro hp2 (And.intro hp3 (And.intro h12 (And.intro h13 (And.intro h23 (And.intro aG0 (And.intro aG1 (And.intro aG2 (And.intro aG3 w4))))))))))))))
  have HR := Lib.hid (And.intro hn0 hn1)
  clear hm1 hGV hN2 hk2V hN3 hkcV hkwV hltV hltw hinv hof hfkG hfcG hmG s0 s1 s2 s3 hp1 hp2 hp3 h12 h13 h23 aG0 aG1 aG2 aG3 w4 hn0 hn1 hsz3 hszV hin hold hlen hsn hno hfine hput haky hEuq he0c he0i ho1 ho hsw HSW
  refine wp_region_held_drew (S := (fun w' => w'.cell? ⟨p, 0, none⟩ = some (.map (some g1)) ∧ w'.cell? ⟨w.heap.size, 0, none⟩ = some (.int .i64 i1) ∧ w'.cell? ⟨w.heap.size, 1, none⟩ = some (.int .i64 i2) ∧ Blk w' (w.heap.size + 1) 24 #[.int .i64 kd, .int .i64 cl, .int .i64 sq, .string ky, .string vl, .int .i64 rv])) (by kernel_rfl) (by first | (with_reducible exact HA0.out) | (with_reducible exact HA1.out)) (fun hHeld => ?_)
  refine held_take (i := 0) (d := 13) (v := (.pointer (some ⟨p, 0, none⟩))) rfl rfl (by kernel_rfl) (by kernel_rfl) (by kernel_rfl) (fun _ _ _ h => h) (by kernel_rfl) (fun w hSw => by (obtain hS := hSw); go_simp) hHeld ?_
  refine held_take (i := 1) (d := 14) (v := (.pointer (some ⟨p, 0, none⟩))) rfl rfl (by kernel_rfl) (by kernel_rfl) (by kernel_rfl) (fun _ _ _ h => h) (by kernel_rfl) (fun w hSw => by (obtain hS := hSw); go_simp) hHeld ?_
  refine held_take (i := 2) (d := 15) (v := (.pointer (some ⟨p, 0, none⟩))) rfl rfl (by kernel_rfl) (by kernel_rfl) (by kernel_rfl) (fun _ _ _ h => h) (by kernel_rfl) (fun w hSw => by (obtain hS := hSw); go_simp) hHeld ?_
  refine held_take (i := 3) (d := 16) (v := (.map (some g1))) rfl rfl (by kernel_rfl) (by kernel_rfl) (by kernel_rfl) (fun _ _ _ h => h) (by kernel_rfl) (fun w1 hSw => by (have hc := hSw.1; go_simp)) hHeld ?_
  refine held_take (i := 4) (d := 17) (v := (.agg #[.int .i64 i1, .int .i64 i2])) rfl rfl (by kernel_rfl) (by kernel_rfl) (by kernel_rfl) (fun _ _ _ h => h) (by kernel_rfl) (fun w1 hSw => by (have h0 := hSw.2.1; have h1 := hSw.2.2.1; go_simp)) hHeld ?_
  refine held_take (i := 5) (d := 18) (v := (.agg #[.int .i64 kd, .int .i64 cl, .int .i64 sq, .string ky, .string vl, .int .i64 rv])) rfl rfl (by kernel_rfl) (by kernel_rfl) (by kernel_rfl) (fun _ _ _ h => h) (by kernel_rfl) (run_load_blk 24 (.tmp 6) rfl (w.heap.size + 1) 24 #[.int .i64 kd, .int .i64 cl, .int .i64 sq, .string ky, .string vl, .int .i64 rv] _ rfl (fun _ h => h.2.2.2) Try.underlying24 rfl (by kernel_rfl)) hHeld ?_
  refine held_take (i := 6) (d := 19) (v := (.int .i64 s)) rfl rfl (by kernel_rfl) (by kernel_rfl) (by kernel_rfl) (fun _ _ _ h => h) (by kernel_rfl) (fun w hSw => by (obtain hS := hSw); go_simp) hHeld ?_
  refine held_take (i := 7) (d := 20) (v := (.agg #[.int .i64 kd, .int .i64 cl, .int .i64 sq, .string ky, .string vl, .int .i64 rv, .int .i64 s])) rfl rfl (by kernel_rfl) (by kernel_rfl) (by kernel_rfl) (fun _ _ _ h => h) (by kernel_rfl) (fun w hSw => by (obtain hS := hSw); go_simp) hHeld ?_
  refine wpAnyH_ready (rs := [8]) (by kernel_rfl) (by simp) ?_
  refine AllReadyH.cons rfl (fun K hK => ?_) AllReadyH.nil
  go_simp
  skip
  refine hK.out _ _ (by first | (with_reducible exact HA0.out) | (with_reducible exact HA1.out)) (fun hHeld => ?_)
  clear hK K
  refine wpAnyH_done (by kernel_rfl) ?_ _
  clear hr1'
  go_upto_block 0 with fail
  by_cases h0 : kd = 0
  · subst h0
    go_wp2_with fail
    go_end0
    obtain ⟨hm1, hGV, hN2, hk2V, hN3, hkcV, hkwV, hltV, hltw, hinv, hof, hfkG, hfcG, hmG⟩ := HP.out
    obtain ⟨s0, s1, s2, s3, hp1, hp2, hp3, h12, h13, h23, aG0, aG1, aG2, aG3, w4⟩ := HQ.out
    obtain ⟨hin, hold, hlen, hsn, hno, hfine, hput, haky, hEuq, he0c, he0i⟩ := HF.out
    obtain ⟨hxV, hbV, hyV⟩ := HALL.out
    obtain ⟨hn0, hn1⟩ := HR.out
    refine ⟨rfl, S, ⟨g1, g2, g3, g4, G, m, fk, fc, {
      box := hxV
      held := hm1
      byK := ⟨N2, by omega, hk2V⟩
      byC := ⟨N3, by omega, hkcV⟩
      grp := hGV.mono (by omega)
      wide := w4
      fkG := hfkG
      fcG := hfcG
      uq := hEuq
      len := hlen
      ap := ⟨hp1, hp2, hp3, h12, h13, h23⟩
      aG := ⟨aG0, aG1, aG2, aG3⟩
      inv := fun e he => by
        rcases hold e he with h | rfl
        · exact hinv e h
        · refine ⟨fun h => ?_, fun h => ?_, fun h => ?_⟩ <;> rw [he0c] at h
          · rcases h with h | h <;> cases h
          · exact absurd rfl h
          · exact absurd rfl h
      fine := fun e he => by
        rcases hold e he with h | rfl
        · exact hof e h
        · rw [he0c]; exact hfine
      mine := ⟨s0, s1, s2, s3⟩
      mineG := hmG
      lt := hltV }⟩, Grew.refl _ _, hkwV⟩
  · by_cases h5 : kd = 5
    · subst h5
      obtain ⟨hm1, hGV, hN2, hk2V, hN3, hkcV, hkwV, hltV, hltw, hinv, hof, hfkG, hfcG, hmG⟩ := HP.out
      obtain ⟨s0, s1, s2, s3, hp1, hp2, hp3, h12, h13, h23, aG0, aG1, aG2, aG3, w4⟩ := HQ.out
      obtain ⟨hin, hold, hlen, hsn, hno, hfine, hput, haky, hEuq, he0c, he0i⟩ := HF.out
      obtain ⟨hxV, hbV, hyV⟩ := HALL.out
      obtain ⟨hn0, hn1⟩ := HR.out
      obtain ⟨N4, hN4, hg4⟩ := hGV g4 w4
      obtain ⟨V2, hr2, hm2, ht2⟩ := (show Mp idK unE V1.drew g4 N4 (m g4) from hg4).store (x := (i1, i2)) Try.underlying58 (by have h2 := HM.out; unfold maxLen; omega) HI.out ()
      have hK2 := drew_turned ht2
      have hsz2 := hK2.size
      have hb2 := blk_kept hbV hK2 fun e => hn0 (by have e : w.heap.size = g4 := e; rw [e]; exact hmG g4 w4)
      have hx2 := blk_kept hxV hK2 fun e => aG0 (by have e : p = g4 := e; rw [e]; exact w4)
      have hn4 : (if ((m g4) (i1, i2)).isSome then N4 else N4 + 1) ≤ M + 2 := by split <;> omega
      have hmm : ∀ g j, G g → (m g j).isSome → ((atG g4 (upd (m g4) (i1, i2) (some ())) m) g j).isSome := fun g j _ h => by
        by_cases e : g = g4
        · subst e
          rw [atG_same]
          by_cases e2 : j = (i1, i2)
          · rw [e2, upd_same]; rfl
          · rw [upd_other e2]; exact h
        · rw [atG_other e]; exact h
      have hfin : PutIs w S p M E V2 := by
        refine ⟨S, ⟨g1, g2, g3, g4, G, atG g4 (upd (m g4) (i1, i2) (some ())) m, fk, fc, {
          box := hx2
          held := hm1.keep (hK2.block g1 hm1.lt fun e => aG1 (by have e : g1 = g4 := e; rw [e]; exact w4))
          byK := ⟨N2, by omega, hk2V.keep (hK2.block g2 hk2V.lt fun e => aG2 (by have e : g2 = g4 := e; rw [e]; exact w4))⟩
          byC := ⟨N3, by omega, hkcV.keep (hK2.block g3 hkcV.lt fun e => aG3 (by have e : g3 = g4 := e; rw [e]; exact w4))⟩
          grp := fun g hg => by
            by_cases e : g = g4
            · subst e
              rw [atG_same]
              exact ⟨_, hn4, hm2⟩
            · rw [atG_other e]
              obtain ⟨n, h1, h2⟩ := hGV g hg
              exact ⟨n, by omega, h2.keep (hK2.block g h2.lt e)⟩
          wide := w4
          fkG := hfkG
          fcG := hfcG
          uq := hEuq
          len := hlen
          ap := ⟨hp1, hp2, hp3, h12, h13, h23⟩
          aG := ⟨aG0, aG1, aG2, aG3⟩
          inv := fun e he => by
            rcases hold e he with h | rfl
            · exact (hinv e h).more w4 hfkG hfcG hmm (fun _ _ h => h) fun _ _ h => h
            · refine ⟨fun h => ?_, fun h h5 h6 => ?_, fun h h5 h6 => ?_⟩
              · rw [he0i, atG_same, upd_same]; rfl
              · rw [he0c] at h5 h6
                first | exact absurd rfl h5 | exact absurd rfl h6
              · rw [he0c] at h5 h6
                first | exact absurd rfl h5 | exact absurd rfl h6
          fine := fun e he => by
            rcases hold e he with h | rfl
            · exact hof e h
            · rw [he0c]; exact hfine
          mine := ⟨s0, s1, s2, s3⟩
          mineG := hmG
          lt := fun k hs => by have := hltV k hs; omega }⟩, Grew.refl _ _, hkwV.trans (Keeps.weak hK2 fun k e => by have e : k = g4 := e; rw [e]; exact hmG g4 w4) (Grew.refl _ _)⟩
      have hr2' : (Instr.mapUpdate 58 (.map (some g4)) (.agg #[.int .i64 i1, .int .i64 i2]) (.agg #[])).run Try.prog V1.drew = .ok () V2 := hr2
      have HFIN := Lib.hid hfin
      have HB0 := Lib.hid (show V1.drew.cell? ⟨p, 3, none⟩ = some (.map (some g4)) ∧ V1.drew.cell? ⟨w.heap.size, 0, none⟩ = some (.int .i64 i1) ∧ V1.drew.cell? ⟨w.heap.size, 1, none⟩ = some (.int .i64 i2) from ⟨hxV.cell 3, hbV.cell 0, hbV.cell 1⟩)
      have HB1 := Lib.hid (show V2.cell? ⟨p, 3, none⟩ = some (.map (some g4)) ∧ V2.cell? ⟨w.heap.size, 0, none⟩ = some (.int .i64 i1) ∧ V2.cell? ⟨w.heap.size, 1, none⟩ = some (.int .i64 i2) from ⟨hx2.cell 3, hb2.cell 0, hb2.cell 1⟩)
      clear hfin hr2 hmm hn4 hx2 hb2 hsz2 hK2 ht2 hm2 hg4 hN4
      clear hm1 hGV hN2 hk2V hN3 hkcV hkwV hltV hltw hinv hof hfkG hfcG hmG s0 s1 s2 s3 hp1 hp2 hp3 h12 h13 h23 aG0 aG1 aG2 aG3 w4 hin hold hlen hsn hno hfine hput haky hEuq he0c he0i hxV hbV hyV hn0 hn1
      go_upto_region 10 with fail
      refine wp_region_held_drew (S := (fun w' => w'.cell? ⟨p, 3, none⟩ = some (.map (some g4)) ∧ w'.cell? ⟨w.heap.size, 0, none⟩ = some (.int .i64 i1) ∧ w'.cell? ⟨w.heap.size, 1, none⟩ = some (.int .i64 i2))) (by kernel_rfl) (by first | (with_reducible exact HB0.out) | (with_reducible exact HB1.out)) (fun hHeld => ?_)
      refine held_take (i := 0) (d := 44) (v := (.pointer (some ⟨p, 0, none⟩))) rfl rfl (by kernel_rfl) (by kernel_rfl) (by kernel_rfl) (fun _ _ _ h => h) (by kernel_rfl) (fun w hSw => by (obtain ⟨hS1, hS2, hS3⟩ := hSw); go_simp) hHeld ?_
      try simp only [List.setIfInBounds_toArray, List.set_cons_zero, List.set_cons_succ]
      refine held_take (i := 1) (d := 45) (v := (.pointer (some ⟨p, 0, none⟩))) rfl rfl (by kernel_rfl) (by kernel_rfl) (by kernel_rfl) (fun _ _ _ h => h) (by kernel_rfl) (fun w hSw => by (obtain ⟨hS1, hS2, hS3⟩ := hSw); go_simp) hHeld ?_
      try simp only [List.setIfInBounds_toArray, List.set_cons_zero, List.set_cons_succ]
      refine held_take (i := 2) (d := 46) (v := (.pointer (some ⟨p, 3, none⟩))) rfl rfl (by kernel_rfl) (by kernel_rfl) (by kernel_rfl) (fun _ _ _ h => h) (by kernel_rfl) (fun w hSw => by (obtain ⟨hS1, hS2, hS3⟩ := hSw); go_simp) hHeld ?_
      try simp only [List.setIfInBounds_toArray, List.set_cons_zero, List.set_cons_succ]
      refine held_take (i := 3) (d := 47) (v := (.map (some g4))) rfl rfl (by kernel_rfl) (by kernel_rfl) (by kernel_rfl) (fun _ _ _ h => h) (by kernel_rfl) (fun w hSw => by (obtain ⟨hS1, hS2, hS3⟩ := hSw); go_simp) hHeld ?_
      try simp only [List.setIfInBounds_toArray, List.set_cons_zero, List.set_cons_succ]
      refine held_take (i := 4) (d := 48) (v := (.agg #[.int .i64 i1, .int .i64 i2])) rfl rfl (by kernel_rfl) (by kernel_rfl) (by kernel_rfl) (fun _ _ _ h => h) (by kernel_rfl) (fun w hSw => by (obtain ⟨hS1, hS2, hS3⟩ := hSw); go_simp) hHeld ?_
      try simp only [List.setIfInBounds_toArray, List.set_cons_zero, List.set_cons_succ]
      refine held_take (i := 5) (d := 49) (v := (.agg #[])) rfl rfl (by kernel_rfl) (by kernel_rfl) (by kernel_rfl) (fun _ _ _ h => h) (by kernel_rfl) (fun w hSw => by (obtain ⟨hS1, hS2, hS3⟩ := hSw); go_simp) hHeld ?_
      try simp only [List.setIfInBounds_toArray, List.set_cons_zero, List.set_cons_succ]
      refine wpAnyH_ready (rs := [6]) (by kernel_rfl) (by simp) ?_
      refine AllReadyH.cons rfl (fun K hK => ?_) AllReadyH.nil
      go_simp
      skip
      refine hK.out _ _ (by first | (with_reducible exact HB0.out) | (with_reducible exact HB1.out)) (fun hHeld => ?_)
      clear hK K
      refine wpAnyH_done (by kernel_rfl) ?_ _
      go_wp2_with fail
      go_end0
      exact ⟨rfl, HFIN.out⟩
    · by_cases h6 : kd = 6
      · subst h6
        obtain ⟨hm1, hGV, hN2, hk2V, hN3, hkcV, hkwV, hltV, hltw, hinv, hof, hfkG, hfcG, hmG⟩ := HP.out
        obtain ⟨s0, s1, s2, s3, hp1, hp2, hp3, h12, h13, h23, aG0, aG1, aG2, aG3, w4⟩ := HQ.out
        obtain ⟨hin, hold, hlen, hsn, hno, hfine, hput, haky, hEuq, he0c, he0i⟩ := HF.out
        obtain ⟨hxV, hbV, hyV⟩ := HALL.out
        obtain ⟨hn0, hn1⟩ := HR.out
        obtain ⟨N4, hN4, hg4⟩ := hGV g4 w4
        obtain ⟨V2, hr2, hm2, ht2⟩ := (show Mp idK unE V1.drew g4 N4 (m g4) from hg4).store (x := (i1, i2)) Try.underlying58 (by have h2 := HM.out; unfold maxLen; omega) HI.out ()
        have hK2 := drew_turned ht2
        have hsz2 := hK2.size
        have hb2 := blk_kept hbV hK2 fun e => hn0 (by have e : w.heap.size = g4 := e; rw [e]; exact hmG g4 w4)
        have hx2 := blk_kept hxV hK2 fun e => aG0 (by have e : p = g4 := e; rw [e]; exact w4)
        have hn4 : (if ((m g4) (i1, i2)).isSome then N4 else N4 + 1) ≤ M + 2 := by split <;> omega
        have hmm : ∀ g j, G g → (m g j).isSome → ((atG g4 (upd (m g4) (i1, i2) (some ())) m) g j).isSome := fun g j _ h => by
          by_cases e : g = g4
          · subst e
            rw [atG_same]
            by_cases e2 : j = (i1, i2)
            · rw [e2, upd_same]; rfl
            · rw [upd_other e2]; exact h
          · rw [atG_other e]; exact h
        have hfin : PutIs w S p M E V2 := by
          refine ⟨S, ⟨g1, g2, g3, g4, G, atG g4 (upd (m g4) (i1, i2) (some ())) m, fk, fc, {
            box := hx2
            held := hm1.keep (hK2.block g1 hm1.lt fun e => aG1 (by have e : g1 = g4 := e; rw [e]; exact w4))
            byK := ⟨N2, by omega, hk2V.keep (hK2.block g2 hk2V.lt fun e => aG2 (by have e : g2 = g4 := e; rw [e]; exact w4))⟩
            byC := ⟨N3, by omega, hkcV.keep (hK2.block g3 hkcV.lt fun e => aG3 (by have e : g3 = g4 := e; rw [e]; exact w4))⟩
            grp := fun g hg => by
              by_cases e : g = g4
              · subst e
                rw [atG_same]
                exact ⟨_, hn4, hm2⟩
              · rw [atG_other e]
                obtain ⟨n, h1, h2⟩ := hGV g hg
                exact ⟨n, by omega, h2.keep (hK2.block g h2.lt e)⟩
            wide := w4
            fkG := hfkG
            fcG := hfcG
            uq := hEuq
            len := hlen
            ap := ⟨hp1, hp2, hp3, h12, h13, h23⟩
            aG := ⟨aG0, aG1, aG2, aG3⟩
            inv := fun e he => by
              rcases hold e he with h | rfl
              · exact (hinv e h).more w4 hfkG hfcG hmm (fun _ _ h => h) fun _ _ h => h
              · refine ⟨fun h => ?_, fun h h5 h6 => ?_, fun h h5 h6 => ?_⟩
                · rw [he0i, atG_same, upd_same]; rfl
                · rw [he0c] at h5 h6
                  first | exact absurd rfl h5 | exact absurd rfl h6
                · rw [he0c] at h5 h6
                  first | exact absurd rfl h5 | exact absurd rfl h6
            fine := fun e he => by
              rcases hold e he with h | rfl
              · exact hof e h
              · rw [he0c]; exact hfine
            mine := ⟨s0, s1, s2, s3⟩
            mineG := hmG
            lt := fun k hs => by have := hltV k hs; omega }⟩, Grew.refl _ _, hkwV.trans (Keeps.weak hK2 fun k e => by have e : k = g4 := e; rw [e]; exact hmG g4 w4) (Grew.refl _ _)⟩
        have hr2' : (Instr.mapUpdate 58 (.map (some g4)) (.agg #[.int .i64 i1, .int .i64 i2]) (.agg #[])).run Try.prog V1.drew = .ok () V2 := hr2
        have HFIN := Lib.hid hfin
        have HB0 := Lib.hid (show V1.drew.cell? ⟨p, 3, none⟩ = some (.map (some g4)) ∧ V1.drew.cell? ⟨w.heap.size, 0, none⟩ = some (.int .i64 i1) ∧ V1.drew.cell? ⟨w.heap.size, 1, none⟩ = some (.int .i64 i2) from ⟨hxV.cell 3, hbV.cell 0, hbV.cell 1⟩)
        have HB1 := Lib.hid (show V2.cell? ⟨p, 3, none⟩ = some (.map (some g4)) ∧ V2.cell? ⟨w.heap.size, 0, none⟩ = some (.int .i64 i1) ∧ V2.cell? ⟨w.heap.size, 1, none⟩ = some (.int .i64 i2) from ⟨hx2.cell 3, hb2.cell 0, hb2.cell 1⟩)
        clear hfin hr2 hmm hn4 hx2 hb2 hsz2 hK2 ht2 hm2 hg4 hN4
        clear hm1 hGV hN2 hk2V hN3 hkcV hkwV hltV hltw hinv hof hfkG hfcG hmG s0 s1 s2 s3 hp1 hp2 hp3 h12 h13 h23 aG0 aG1 aG2 aG3 w4 hin hold hlen hsn hno hfine hput haky hEuq he0c he0i hxV hbV hyV hn0 hn1
        go_upto_region 10 with fail
        refine wp_region_held_drew (S := (fun w' => w'.cell? ⟨p, 3, none⟩ = some (.map (some g4)) ∧ w'.cell? ⟨w.heap.size, 0, none⟩ = some (.int .i64 i1) ∧ w'.cell? ⟨w.heap.size, 1, none⟩ = some (.int .i64 i2))) (by kernel_rfl) (by first | (with_reducible exact HB0.out) | (with_reducible exact HB1.out)) (fun hHeld => ?_)
        refine held_take (i := 0) (d := 44) (v := (.pointer (some ⟨p, 0, none⟩))) rfl rfl (by kernel_rfl) (by kernel_rfl) (by kernel_rfl) (fun _ _ _ h => h) (by kernel_rfl) (fun w hSw => by (obtain ⟨hS1, hS2, hS3⟩ := hSw); go_simp) hHeld ?_
        try simp only [List.setIfInBounds_toArray, List.set_cons_zero, List.set_cons_succ]
        refine held_take (i := 1) (d := 45) (v := (.pointer (some ⟨p, 0, none⟩))) rfl rfl (by kernel_rfl) (by kernel_rfl) (by kernel_rfl) (fun _ _ _ h => h) (by kernel_rfl) (fun w hSw => by (obtain ⟨hS1, hS2, hS3⟩ := hSw); go_simp) hHeld ?_
        try simp only [List.setIfInBounds_toArray, List.set_cons_zero, List.set_cons_succ]
        refine held_take (i := 2) (d := 46) (v := (.pointer (some ⟨p, 3, none⟩))) rfl rfl (by kernel_rfl) (by kernel_rfl) (by kernel_rfl) (fun _ _ _ h => h) (by kernel_rfl) (fun w hSw => by (obtain ⟨hS1, hS2, hS3⟩ := hSw); go_simp) hHeld ?_
        try simp only [List.setIfInBounds_toArray, List.set_cons_zero, List.set_cons_succ]
        refine held_take (i := 3) (d := 47) (v := (.map (some g4))) rfl rfl (by kernel_rfl) (by kernel_rfl) (by kernel_rfl) (fun _ _ _ h => h) (by kernel_rfl) (fun w hSw => by (obtain ⟨hS1, hS2, hS3⟩ := hSw); go_simp) hHeld ?_
        try simp only [List.setIfInBounds_toArray, List.set_cons_zero, List.set_cons_succ]
        refine held_take (i := 4) (d := 48) (v := (.agg #[.int .i64 i1, .int .i64 i2])) rfl rfl (by kernel_rfl) (by kernel_rfl) (by kernel_rfl) (fun _ _ _ h => h) (by kernel_rfl) (fun w hSw => by (obtain ⟨hS1, hS2, hS3⟩ := hSw); go_simp) hHeld ?_
        try simp only [List.setIfInBounds_toArray, List.set_cons_zero, List.set_cons_succ]
        refine held_take (i := 5) (d := 49) (v := (.agg #[])) rfl rfl (by kernel_rfl) (by kernel_rfl) (by kernel_rfl) (fun _ _ _ h => h) (by kernel_rfl) (fun w hSw => by (obtain ⟨hS1, hS2, hS3⟩ := hSw); go_simp) hHeld ?_
        try simp only [List.setIfInBounds_toArray, List.set_cons_zero, List.set_cons_succ]
        refine wpAnyH_ready (rs := [6]) (by kernel_rfl) (by simp) ?_
        refine AllReadyH.cons rfl (fun K hK => ?_) AllReadyH.nil
        go_simp
        skip
        refine hK.out _ _ (by first | (with_reducible exact HB0.out) | (with_reducible exact HB1.out)) (fun hHeld => ?_)
        clear hK K
        refine wpAnyH_done (by kernel_rfl) ?_ _
        go_wp2_with fail
        go_end0
        exact ⟨rfl, HFIN.out⟩
      · have n0 : (kd == 0) = false := beq_false_of_ne h0
        have n5 : (kd == 5) = false := beq_false_of_ne h5
        have n6 : (kd == 6) = false := beq_false_of_ne h6
        have HNO := Lib.hid (show ¬ (kd = 0 ∨ kd = 6) from fun h => h.elim h0 h6)
        have HN56 := Lib.hid (show ¬ (kd = 5 ∨ kd = 6) from fun h => h.elim h5 h6)
        clear h0 h5 h6
        obtain ⟨hm1, hGV, hN2, hk2V, hN3, hkcV, hkwV, hltV, hltw, hinv, hof, hfkG, hfcG, hmG⟩ := HP.out
        obtain ⟨s0, s1, s2, s3, hp1, hp2, hp3, h12, h13, h23, aG0, aG1, aG2, aG3, w4⟩ := HQ.out
        obtain ⟨hin, hold, hlen, hsn, hno, hfine, hput, haky, hEuq, he0c, he0i⟩ := HF.out
        obtain ⟨hxV, hbV, hyV⟩ := HALL.out
        obtain ⟨hn0, hn1⟩ := HR.out
        have hkok : strK.ok ky := by rw [(haky HNO.out).1]; exact hfine.1
        have hcok : intK.ok cl := by rw [(haky HNO.out).2]; exact hfine.2
        have hen := enter_str ky (i1, i2) V1.drew (show Mp strK mapE V1.drew g2 N2 fk from hk2V) hN2 (show Grps V1.drew G m M from hGV) hfkG aG2 (by have h2 := HM.out; omega) hkok HI.out
        have HEN := Lib.hid hen
        have HCOK := Lib.hid hcok
        have HB0 := Lib.hid (show V1.drew.cell? ⟨p, 1, none⟩ = some (.map (some g2)) ∧ V1.drew.cell? ⟨w.heap.size, 0, none⟩ = some (.int .i64 i1) ∧ V1.drew.cell? ⟨w.heap.size, 1, none⟩ = some (.int .i64 i2) ∧ V1.drew.cell? ⟨w.heap.size + 1, 3, none⟩ = some (.string ky) from ⟨hxV.cell 1, hbV.cell 0, hbV.cell 1, hyV.cell 3⟩)
        clear hen hkok hcok
        clear hm1 hGV hN2 hk2V hN3 hkcV hkwV hltV hltw hinv hof hfkG hfcG hmG s0 s1 s2 s3 hp1 hp2 hp3 h12 h13 h23 aG0 aG1 aG2 aG3 w4 hin hold hlen hsn hno hfine hput haky hEuq he0c he0i hxV hbV hyV hn0 hn1
        go_upto_region 5 with fail
        refine wp_region_held_drew (S := (fun w' => w'.cell? ⟨p, 1, none⟩ = some (.map (some g2)) ∧ w'.cell? ⟨w.heap.size, 0, none⟩ = some (.int .i64 i1) ∧ w'.cell? ⟨w.heap.size, 1, none⟩ = some (.int .i64 i2) ∧ w'.cell? ⟨w.heap.size + 1, 3, none⟩ = some (.string ky))) (by kernel_rfl) (by first | (with_reducible exact HB0.out) | (with_reducible exact HB1.out)) (fun hHeld => ?_)
        refine held_take (i := 0) (d := 23) (v := (.pointer (some ⟨p, 0, none⟩))) rfl rfl (by kernel_rfl) (by kernel_rfl) (by kernel_rfl) (fun _ _ _ h => h) (by kernel_rfl) (fun w hSw => by (obtain ⟨hS1, hS2, hS3, hS4⟩ := hSw); go_simp) hHeld ?_
        try simp only [List.setIfInBounds_toArray, List.set_cons_zero, List.set_cons_succ]
        refine held_take (i := 1) (d := 24) (v := (.pointer (some ⟨p, 0, none⟩))) rfl rfl (by kernel_rfl) (by kernel_rfl) (by kernel_rfl) (fun _ _ _ h => h) (by kernel_rfl) (fun w hSw => by (obtain ⟨hS1, hS2, hS3, hS4⟩ := hSw); go_simp) hHeld ?_
        try simp only [List.setIfInBounds_toArray, List.set_cons_zero, List.set_cons_succ]
        refine held_take (i := 2) (d := 25) (v := (.pointer (some ⟨p, 1, none⟩))) rfl rfl (by kernel_rfl) (by kernel_rfl) (by kernel_rfl) (fun _ _ _ h => h) (by kernel_rfl) (fun w hSw => by (obtain ⟨hS1, hS2, hS3, hS4⟩ := hSw); go_simp) hHeld ?_
        try simp only [List.setIfInBounds_toArray, List.set_cons_zero, List.set_cons_succ]
        refine held_take (i := 3) (d := 26) (v := (.map (some g2))) rfl rfl (by kernel_rfl) (by kernel_rfl) (by kernel_rfl) (fun _ _ _ h => h) (by kernel_rfl) (fun w hSw => by (obtain ⟨hS1, hS2, hS3, hS4⟩ := hSw); go_simp) hHeld ?_
        try simp only [List.setIfInBounds_toArray, List.set_cons_zero, List.set_cons_succ]
        refine held_take (i := 4) (d := 27) (v := (.pointer (some ⟨w.heap.size + 1, 3, none⟩))) rfl rfl (by kernel_rfl) (by kernel_rfl) (by kernel_rfl) (fun _ _ _ h => h) (by kernel_rfl) (fun w hSw => by (obtain ⟨hS1, hS2, hS3, hS4⟩ := hSw); go_simp) hHeld ?_
        try simp only [List.setIfInBounds_toArray, List.set_cons_zero, List.set_cons_succ]
        refine held_take (i := 5) (d := 28) (v := (.string ky)) rfl rfl (by kernel_rfl) (by kernel_rfl) (by kernel_rfl) (fun _ _ _ h => h) (by kernel_rfl) (fun w hSw => by (obtain ⟨hS1, hS2, hS3, hS4⟩ := hSw); go_simp) hHeld ?_
        try simp only [List.setIfInBounds_toArray, List.set_cons_zero, List.set_cons_succ]
        refine held_take (i := 6) (d := 29) (v := (.agg #[.int .i64 i1, .int .i64 i2])) rfl rfl (by kernel_rfl) (by kernel_rfl) (by kernel_rfl) (fun _ _ _ h => h) (by kernel_rfl) (fun w hSw => by (obtain ⟨hS1, hS2, hS3, hS4⟩ := hSw); go_simp) hHeld ?_
        try simp only [List.setIfInBounds_toArray, List.set_cons_zero, List.set_cons_succ]
        refine wpAnyH_ready (rs := [7]) (by kernel_rfl) (by simp) ?_
        refine AllReadyH.cons rfl (fun K hK => ?_) AllReadyH.nil
        go_simp
        go_at_call 24
        (with_reducible refine HEN.out.mono ?_)
        rintro e4 V2 ⟨rfl, N5, G5, m5, fk5, hN5, hk5, hG5, hL5, hn5, hGG5, hGn5, hmm5, hff5, hin5, hK5⟩
        obtain ⟨hm1, hGV, hN2, hk2V, hN3, hkcV, hkwV, hltV, hltw, hinv, hof, hfkG, hfcG, hmG⟩ := HP.out
        obtain ⟨s0, s1, s2, s3, hp1, hp2, hp3, h12, h13, h23, aG0, aG1, aG2, aG3, w4⟩ := HQ.out
        obtain ⟨hin, hold, hlen, hsn, hno, hfine, hput, haky, hEuq, he0c, he0i⟩ := HF.out
        obtain ⟨hxV, hbV, hyV⟩ := HALL.out
        obtain ⟨hn0, hn1⟩ := HR.out
        have hK5 := drew_keeps hK5
        have hsz5 := hK5.size
        have nS : ∀ k, ¬ S k → ¬ (k = g2 ∨ G k) := fun k h h' => h'.elim (fun e => h (by rw [e]; exact s2)) fun g => h (hmG k g)
        have hx5 := blk_kept hxV hK5 fun h => h.elim hp2 aG0
        have hb5 := blk_kept hbV hK5 (nS _ hn0)
        have hy5 := blk_kept hyV hK5 (nS _ hn1)
        have hkc5 := hkcV.keep (hK5.block g3 hkcV.lt fun h => h.elim (fun e => h23 e.symm) aG3)
        have hnew : ∀ g, G5 g → g < V1.heap.size → G g := fun g h hl => (hGn5 g h).elim id fun h' => by have h' : V1.heap.size ≤ g := h'; omega
        have hen := enter_int cl (i1, i2) V2.drew (show Mp intK mapE V2.drew g3 N3 fc from hkc5) (Nat.le_succ_of_le hN3) (show Grps V2.drew G5 m5 (M + 1) from hG5) (fun k o h => by obtain ⟨g, q1, q2⟩ := hfcG k o h; exact ⟨g, q1, hGG5 g q2⟩) (fun h => aG3 (hnew _ h (hltV _ s3))) (by have h2 := HM.out; omega) HCOK.out HI.out
        have HEN2 := Lib.hid hen
        have HB1 := Lib.hid (show V2.cell? ⟨p, 1, none⟩ = some (.map (some g2)) ∧ V2.cell? ⟨w.heap.size, 0, none⟩ = some (.int .i64 i1) ∧ V2.cell? ⟨w.heap.size, 1, none⟩ = some (.int .i64 i2) ∧ V2.cell? ⟨w.heap.size + 1, 3, none⟩ = some (.string ky) from ⟨hx5.cell 1, hb5.cell 0, hb5.cell 1, hy5.cell 3⟩)
        have HC0 := Lib.hid (show V2.drew.cell? ⟨p, 2, none⟩ = some (.map (some g3)) ∧ V2.drew.cell? ⟨w.heap.size, 0, none⟩ = some (.int .i64 i1) ∧ V2.drew.cell? ⟨w.heap.size, 1, none⟩ = some (.int .i64 i2) ∧ V2.drew.cell? ⟨w.heap.size + 1, 1, none⟩ = some (.int .i64 cl) from ⟨hx5.cell 2, hb5.cell 0, hb5.cell 1, hy5.cell 1⟩)
        have H5 := Lib.hid (And.intro hN5 (And.intro hk5 (And.intro hG5 (And.intro hL5 (And.intro hn5 (And.intro hGG5 (And.intro hGn5 (And.intro hmm5 (And.intro hff5 (And.intro hin5 (And.intro hK5 (And.intro hx5 (And.intro hb5 (And.intro hy5 hnew))))))))))))))
        clear hN5 hk5 hG5 hL5 hn5 hGG5 hGn5 hmm5 hff5 hin5 hK5 hsz5 nS hx5 hb5 hy5 hkc5 hnew hen
        clear hm1 hGV hN2 hk2V hN3 hkcV hkwV hltV hltw hinv hof hfkG hfcG hmG s0 s1 s2 s3 hp1 hp2 hp3 h12 h13 h23 aG0 aG1 aG2 aG3 w4 hin hold hlen hsn hno hfine hput haky hEuq he0c he0i hxV hbV hyV hn0 hn1
        refine hK.out _ _ (by first | (with_reducible exact HB0.out) | (with_reducible exact HB1.out)) (fun hHeld => ?_)
        clear hK K
        refine wpAnyH_done (by kernel_rfl) ?_ _
        go_upto_region 6 with fail
        
        refine wp_region_held_drew (S := (fun w' => w'.cell? ⟨p, 2, none⟩ = some (.map (some g3)) ∧ w'.cell? ⟨w.heap.size, 0, none⟩ = some (.int .i64 i1) ∧ w'.cell? ⟨w.heap.size, 1, none⟩ = some (.int .i64 i2) ∧ w'.cell? ⟨w.heap.size + 1, 1, none⟩ = some (.int .i64 cl))) (by kernel_rfl) (by first | (with_reducible exact HC0.out) | (with_reducible exact HC1.out)) (fun hHeld => ?_)
        refine held_take (i := 0) (d := 31) (v := (.pointer (some ⟨p, 0, none⟩))) rfl rfl (by kernel_rfl) (by kernel_rfl) (by kernel_rfl) (fun _ _ _ h => h) (by kernel_rfl) (fun w hSw => by (obtain ⟨hS1, hS2, hS3, hS4⟩ := hSw); go_simp) hHeld ?_
        try simp only [List.setIfInBounds_toArray, List.set_cons_zero, List.set_cons_succ]
        refine held_take (i := 1) (d := 32) (v := (.pointer (some ⟨p, 0, none⟩))) rfl rfl (by kernel_rfl) (by kernel_rfl) (by kernel_rfl) (fun _ _ _ h => h) (by kernel_rfl) (fun w hSw => by (obtain ⟨hS1, hS2, hS3, hS4⟩ := hSw); go_simp) hHeld ?_
        try simp only [List.setIfInBounds_toArray, List.set_cons_zero, List.set_cons_succ]
        refine held_take (i := 2) (d := 33) (v := (.pointer (some ⟨p, 2, none⟩))) rfl rfl (by kernel_rfl) (by kernel_rfl) (by kernel_rfl) (fun _ _ _ h => h) (by kernel_rfl) (fun w hSw => by (obtain ⟨hS1, hS2, hS3, hS4⟩ := hSw); go_simp) hHeld ?_
        try simp only [List.setIfInBounds_toArray, List.set_cons_zero, List.set_cons_succ]
        refine held_take (i := 3) (d := 34) (v := (.map (some g3))) rfl rfl (by kernel_rfl) (by kernel_rfl) (by kernel_rfl) (fun _ _ _ h => h) (by kernel_rfl) (fun w hSw => by (obtain ⟨hS1, hS2, hS3, hS4⟩ := hSw); go_simp) hHeld ?_
        try simp only [List.setIfInBounds_toArray, List.set_cons_zero, List.set_cons_succ]
        refine held_take (i := 4) (d := 35) (v := (.pointer (some ⟨w.heap.size + 1, 1, none⟩))) rfl rfl (by kernel_rfl) (by kernel_rfl) (by kernel_rfl) (fun _ _ _ h => h) (by kernel_rfl) (fun w hSw => by (obtain ⟨hS1, hS2, hS3, hS4⟩ := hSw); go_simp) hHeld ?_
        try simp only [List.setIfInBounds_toArray, List.set_cons_zero, List.set_cons_succ]
        refine held_take (i := 5) (d := 36) (v := (.int .i64 cl)) rfl rfl (by kernel_rfl) (by kernel_rfl) (by kernel_rfl) (fun _ _ _ h => h) (by kernel_rfl) (fun w hSw => by (obtain ⟨hS1, hS2, hS3, hS4⟩ := hSw); go_simp) hHeld ?_
        try simp only [List.setIfInBounds_toArray, List.set_cons_zero, List.set_cons_succ]
        refine held_take (i := 6) (d := 37) (v := (.agg #[.int .i64 i1, .int .i64 i2])) rfl rfl (by kernel_rfl) (by kernel_rfl) (by kernel_rfl) (fun _ _ _ h => h) (by kernel_rfl) (fun w hSw => by (obtain ⟨hS1, hS2, hS3, hS4⟩ := hSw); go_simp) hHeld ?_
        try simp only [List.setIfInBounds_toArray, List.set_cons_zero, List.set_cons_succ]
        refine wpAnyH_ready (rs := [7]) (by kernel_rfl) (by simp) ?_
        refine AllReadyH.cons rfl (fun K hK => ?_) AllReadyH.nil
        go_simp
        go_at_call 25
        (with_reducible refine HEN2.out.mono ?_)
        rintro e4 V3 ⟨rfl, N6, G6, m6, fc6, hN6, hk6, hG6, hL6, hn6, hGG6, hGn6, hmm6, hff6, hin6, hK6⟩
        obtain ⟨hm1, hGV, hN2, hk2V, hN3, hkcV, hkwV, hltV, hltw, hinv, hof, hfkG, hfcG, hmG⟩ := HP.out
        obtain ⟨s0, s1, s2, s3, hp1, hp2, hp3, h12, h13, h23, aG0, aG1, aG2, aG3, w4⟩ := HQ.out
        obtain ⟨hin, hold, hlen, hsn, hno, hfine, hput, haky, hEuq, he0c, he0i⟩ := HF.out
        obtain ⟨hxV, hbV, hyV⟩ := HALL.out
        obtain ⟨hn0, hn1⟩ := HR.out
        obtain ⟨hN5, hk5, hG5, hL5, hn5, hGG5, hGn5, hmm5, hff5, hin5, hK5, hx5, hb5, hy5, hnew⟩ := H5.out
        have hK6 := drew_keeps hK6
        have hsz5 := hK5.size
        have hsz6 := hK6.size
        have hsw := hkwV.size
        have nG5 : ∀ k, k < V1.heap.size → ¬ G k → ¬ G5 k := fun k hk h h' => h (hnew k h' hk)
        have hx6 := blk_kept hx5 hK6 fun h => h.elim hp3 (nG5 _ (hltV _ s0) aG0)
        have hb6 := blk_kept hb5 hK6 fun h => h.elim (fun e => hn0 (by rw [e]; exact s3)) (nG5 _ hbV.lt fun g => hn0 (hmG _ g))
        have hy6 := blk_kept hy5 hK6 fun h => h.elim (fun e => hn1 (by rw [e]; exact s3)) (nG5 _ hyV.lt fun g => hn1 (hmG _ g))
        have HC1 := Lib.hid (show V3.cell? ⟨p, 2, none⟩ = some (.map (some g3)) ∧ V3.cell? ⟨w.heap.size, 0, none⟩ = some (.int .i64 i1) ∧ V3.cell? ⟨w.heap.size, 1, none⟩ = some (.int .i64 i2) ∧ V3.cell? ⟨w.heap.size + 1, 1, none⟩ = some (.int .i64 cl) from ⟨hx6.cell 2, hb6.cell 0, hb6.cell 1, hy6.cell 1⟩)
        have hm6' := (hm1.keep (hK5.block g1 hm1.lt fun h => h.elim h12 aG1)).keep (hK6.block g1 (by have := hm1.lt; omega) fun h => h.elim h13 (nG5 _ (hltV _ s1) aG1))
        have hk56 := hk5.keep (hK6.block g2 hk5.lt fun h => h.elim h23 hn5)
        have hG6n : ∀ g, G6 g → G g ∨ V1.heap.size ≤ g := fun g h => (hGn6 g h).elim (fun h5 => (hGn5 g h5)) fun h' => .inr (by have h' : V2.heap.size ≤ g := h'; omega)
        have nG6 : ∀ k, k < V1.heap.size → ¬ G k → ¬ G6 k := fun k hk h h' => (hG6n k h').elim h fun h'' => by omega
        have hmm : ∀ g j, G g → (m g j).isSome → (m6 g j).isSome := fun g j hg h => hmm6 g j (hGG5 g hg) (hmm5 g j hg h)
        have hkE : Keeps S w V3 := by
          refine ⟨hK6.os.trans (hK5.os.trans hkwV.os), hK6.tape.trans (hK5.tape.trans hkwV.tape), hK6.output.trans (hK5.output.trans hkwV.output), by omega, fun k hk hn => ?_⟩
          have hkV : k < V1.heap.size := by omega
          rw [hK6.block k (by omega) (fun h => h.elim (fun e => hn (by rw [e]; exact s3)) (nG5 k hkV fun g => hn (hmG k g))), hK5.block k hkV (fun h => h.elim (fun e => hn (by rw [e]; exact s2)) fun g => hn (hmG k g)), hkwV.block k hk hn]
        have hfin : PutIs w S p M E V3 := by
          refine ⟨fun k => S k ∨ G6 k, ⟨g1, g2, g3, g4, G6, m6, fk5, fc6, {
            box := hx6
            held := hm6'
            byK := ⟨N5, by omega, hk56⟩
            byC := ⟨N6, hN6, hk6⟩
            grp := hG6
            wide := hGG6 _ (hGG5 _ w4)
            fkG := fun k o h => by
              obtain ⟨g, q1, q2⟩ := hL5 k o h
              exact ⟨g, q1, hGG6 g q2⟩
            fcG := hL6
            uq := hEuq
            len := hlen
            ap := ⟨hp1, hp2, hp3, h12, h13, h23⟩
            aG := ⟨nG6 _ (hltV _ s0) aG0, nG6 _ (hltV _ s1) aG1, nG6 _ (hltV _ s2) aG2, hn6⟩
            inv := fun e he => by
              rcases hold e he with h | rfl
              · exact (hinv e h).more w4 hfkG hfcG hmm hff5 hff6
              · refine ⟨fun h => ?_, fun h h5 h6 => ?_, fun h h5 h6 => ?_⟩
                · rw [he0c] at h
                  exact absurd h HN56.out
                · rw [he0c, he0i]
                  obtain ⟨g, q1, q2⟩ := hin5
                  obtain ⟨g', q3, q4⟩ := hL5 _ _ q1
                  injection q3 with q3
                  subst q3
                  exact ⟨g, by rw [← (haky HNO.out).1]; exact q1, hmm6 g _ q4 q2⟩
                · rw [he0c, he0i]
                  obtain ⟨g, q1, q2⟩ := hin6
                  exact ⟨g, by rw [← (haky HNO.out).2]; exact q1, q2⟩
            fine := fun e he => by
              rcases hold e he with h | rfl
              · exact hof e h
              · rw [he0c]; exact hfine
            mine := ⟨.inl s0, .inl s1, .inl s2, .inl s3⟩
            mineG := fun g hg => .inr hg
            lt := fun k hs => by
              rcases hs with hs | hs
              · have := hltV k hs; omega
              · exact hG6.lt hs }⟩, fun k hk => ?_, hkE⟩
          rcases hk with hk | hk
          · exact .inl hk
          · rcases hG6n k hk with h | h
            · exact .inl (hmG k h)
            · right; omega
        have HFIN := Lib.hid hfin
        clear hN6 hk6 hG6 hL6 hn6 hGG6 hGn6 hmm6 hff6 hin6 hK6 hN5 hk5 hG5 hL5 hn5 hGG5 hGn5 hmm5 hff5 hin5 hK5 hx5 hb5 hy5 hnew hsz5 hsz6 hsw nG5 hx6 hb6 hy6 hm6' hk56 hG6n nG6 hmm hkE hfin
        clear hm1 hGV hN2 hk2V hN3 hkcV hkwV hltV hltw hinv hof hfkG hfcG hmG s0 s1 s2 s3 hp1 hp2 hp3 h12 h13 h23 aG0 aG1 aG2 aG3 w4 hin hold hlen hsn hno hfine hput haky hEuq he0c he0i hxV hbV hyV hn0 hn1
        refine hK.out _ _ (by first | (with_reducible exact HC0.out) | (with_reducible exact HC1.out)) (fun hHeld => ?_)
        clear hK K
        refine wpAnyH_done (by kernel_rfl) ?_ _
        go_wp2_with fail
        go_end0
        exact ⟨rfl, HFIN.out⟩
end Go.Proofs.Ytlcggldcofncgaa.Ix
